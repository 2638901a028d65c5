/- The exact law of LinesAt: the walk. -/
import Derived.Test.YtpkcfhjaldbmhaaA5
import Derived.Test.YtpkcfhjaldbmhaaA10
import Derived.Test.YtpkcfhjaldbmhaaA11
import Derived.Deep.DeepCutAuto
namespace Go.Proofs.Ytpkcfhjaldbmhaa
open Go.ChangeShapes Go.WideShapes Go.ChangeAt Go.RowKit Go.Joins Go.Deep

theorem OwnI.far {e : TypeId} {w w' : World} {base : Nat} {v : Value} {xs : List Int} {row : Option Nat} (h : OwnI e w base v xs) (hg : w.grownBy w' row) (hne : ∀ q, v.ownBlock = some q → row ≠ some q) : OwnI e w' base v xs := by
  refine World.ownsRow.kept h hg ?_
  rcases hq : v.ownBlock with _ | q
  · exact .inl rfl
  · exact .inr (fun e => hne q hq e.symm)
theorem linesAtF_len (bs : Int) (ls : List L3) (bus : Int) (n : Nat) (hl : ls.length = n) : (linesAtF bs ls bus).length ≤ n := by
  rw [linesAtF]; split
  · rw [← hl]; exact atTo_len _ _ _
  · simp

set_option maxHeartbeats 2000000 in
theorem exactLinesAt_walk (bs : Int) (A : Option Addr) (n c : Nat) (ls : List L3) (bus : Int) (hn : n ≤ 9223372036854775807) (w : World) (hr : RowL w A n ls) :
    Calls Try.prog 4 #[.agg #[.int .i64 bs, .slice A n c], .int .i64 bus] w fun e w' => e = .returned (.bool true) ∧ Below w.heap.size w w' := by
  by_cases hc : n ≤ 1048576
  · have HR := Lib.hid hr
    have HLen := linesAtF_len bs ls bus n hr.1
    have HL := Lib.hid hr.1
    clear hr
    go_enter Try.func4, Try.ntmps4
    go_wp2_with fail
    refine (szNet_any bs A n c hn _).mono ?_
    rintro e w1 ⟨rfl, hb1⟩
    simp only [hc, if_true]
    have a1 : Below w.heap.size w w1 := (below_bx w _).trans (hb1.mono (by simp))
    have k1 := Lib.hid ((IsBlk.new w 24 #[.int .i64 bs, .slice A n c]).keep hb1)
    obtain ⟨p0, p1, _, _⟩ := k1.out.two
    have hpos : ¬ ((1048576 : Int) - (n : Int) < 0) := by omega
    have z1 : w.heap.size + 1 ≤ w1.heap.size := by have := hb1.size; simpa using this
    go_wp2_with fail
    refine (toNet_any bs A n c ls _ hc (HR.out.below a1)).mono ?_
    rintro e w2 ⟨g, rfl, hb2, hg, hk⟩
    have a2 : Below w.heap.size w w2 := a1.trans (hb2.mono a1.size)
    have k2 := Lib.hid (k1.out.keep hb2)
    have r2 := Lib.hid (hk.row HL.out)
    clear p0 p1 hk
    go_wp2_with fail
    refine (specLinesAt_any bs _ n n ls bus _ hc r2.out).mono ?_
    rintro e w3 ⟨v0, rfl, hO, hb3⟩
    have a3 : Below w.heap.size w w3 := a2.trans (hb3.mono a2.size)
    have k3 := Lib.hid (k2.out.keep hb3)
    have W3 := Lib.hid hO
    clear hO
    obtain ⟨p0, p1, _, _⟩ := k3.out.two
    go_wp2_with fail
    refine (toNet_any bs A n c ls _ hc (HR.out.below a3)).mono ?_
    rintro e w4 ⟨g', rfl, hb4, hg', hk⟩
    have a4 : Below w.heap.size w w4 := a3.trans (hb4.mono a3.size)
    have k4 := Lib.hid (k3.out.keep hb4)
    have W4 := Lib.hid (W3.out.keep hb4)
    clear p0 p1
    go_wp2_with fail
    have x4 := Lib.hid (IsBlk.new w4 29 #[.int .i64 bs, .slice (some ⟨g', 0, none⟩) n n])
    have y4 := Lib.hid (hk.alloc (.cells #[.int .i64 bs, .slice (some ⟨g', 0, none⟩) n n] 29))
    have lg' : g' < w4.heap.size := hk.lt
    clear hk
    refine (linesAt_any bs _ n n ls bus _ hc (y4.out.row HL.out)).mono ?_
    rintro e w5 ⟨v1, rfl, hO, hb5⟩
    have G5 := Lib.hid hO
    clear hO
    have a5 : Below w.heap.size w w5 := (a4.alloc a4.size _).trans (hb5.mono (by have := a4.size; simp; omega))
    have k5 := Lib.hid ((k4.out.alloc (.cells #[.int .i64 bs, .slice (some ⟨g', 0, none⟩) n n] 29)).keep hb5)
    have x5 := Lib.hid (x4.out.keep hb5)
    have y5 := Lib.hid (y4.out.keep hb5)
    have W5 := Lib.hid ((W4.out.alloc (.cells #[.int .i64 bs, .slice (some ⟨g', 0, none⟩) n n] 29)).keep hb5)
    go_wp2_with fail
    refine (eqIntS_same _ _ _ _ (by omega) G5.out.row W5.out.row).mono ?_
    rintro e w6 ⟨rfl, hb6⟩
    have a6 : Below w.heap.size w w6 := a5.trans (hb6.mono a5.size)
    have k6 := Lib.hid (k5.out.keep hb6)
    have x6 := Lib.hid (x5.out.keep hb6)
    have y6 := Lib.hid (y5.out.keep hb6)
    have W6 := Lib.hid (W5.out.keep hb6)
    have G6 := Lib.hid (G5.out.keep hb6)
    obtain ⟨p0, p1, _, _⟩ := k6.out.two
    obtain ⟨q0, q1, _, _⟩ := x6.out.two
    go_wp2_with fail
    have r6 : RowL w6.drew A n ls := HR.out.below a6.drew
    have x6' : IsBlk w6.drew w4.heap.size 29 #[.int .i64 bs, .slice (some ⟨g', 0, none⟩) n n] := x6.out
    have y6' : IsBlk w6.drew g' 44 (rowArr fL ls) := y6.out
    have R6 := Lib.hid r6
    have X6 := Lib.hid x6'
    have Y6 := Lib.hid y6'
    clear r6 x6' y6'
    go_cut [35] (fun s wx => s = .bool false ∧ Below w6.heap.size w6 wx)
    case first =>
      go_region_with (first
        | (go_at_call 9; refine (toNet_any bs A n c ls _ hc R6.out).mono ?_; rintro e w7 ⟨h, rfl, hb7, hh, hk7⟩; obtain ⟨q0', q1', _, _⟩ := (X6.out.keep hb7).two; have Y7 := Lib.hid (Y6.out.keep hb7); have K7 := Lib.hid hk7; clear hk7)
        | (go_at_call 11; refine (eqNet_same bs _ _ n n n ls _ hc (Y7.out.row HL.out) (K7.out.row HL.out)).mono ?_; rintro e w8 ⟨rfl, hb8⟩))
      all_goals (go_wp2_with fail; go_meet; exact ⟨rfl, (((Below.refl w6.heap.size w6).drew).trans hb7).trans (hb8.mono hb7.size)⟩)
    case rest =>
      obtain ⟨rfl, hb9⟩ := hcut
      have a9 : Below w.heap.size w wc := a6.trans (hb9.mono a6.size)
      have k9 := Lib.hid (k6.out.keep hb9)
      have x9 := Lib.hid (x6.out.keep hb9)
      have y9 := Lib.hid (y6.out.keep hb9)
      have W9 := Lib.hid (W6.out.keep hb9)
      have G9 := Lib.hid (G6.out.keep hb9)
      clear p0 p1 q0 q1
      obtain ⟨q0, q1, _, _⟩ := x9.out.two
      have tG : ∀ q, v1.ownBlock = some q → w4.heap.size < q := fun q hq => by have := (World.ownsRow.lt G9.out q hq).1; simp at this; omega
      have tW : ∀ q, v0.ownBlock = some q → q < w3.heap.size := fun q hq => (World.ownsRow.lt W3.out q hq).2
      have TG := Lib.hid tG
      have TW := Lib.hid tW
      clear tG tW
      have z3 : w3.heap.size ≤ w4.heap.size := hb4.size
      have z4 : w.heap.size < w3.heap.size := by have := hb2.size; have := hb3.size; omega
      go_wp2_with fail
      refine (markNet_any bs g' n n ls 1 rfl _ hc HL.out y9.out).mono ?_
      rintro e w10 ⟨rfl, hg10⟩
      have a10 : Below w.heap.size w w10 := a9.grown hg10 a9.size (fun q hq => by cases hq; omega)
      have k10 := Lib.hid (show IsBlk w10 w.heap.size 24 _ from (hg10.block _ k9.out.lt (by simp; omega)).trans k9.out)
      have G10 := Lib.hid (G9.out.far hg10 (fun q hq e => by injection e with e; have := TG.out _ hq; omega))
      have W10 := Lib.hid (W9.out.far hg10 (fun q hq e => by injection e with e; have := TW.out _ hq; omega))
      clear q0 q1
      have m1 : ¬ ((1 : Int) + 3 * (n : Int) < 0) := by omega
      go_wp2_with fail
      refine (eqIntS_same _ _ _ _ (by omega) G10.out.row W10.out.row).mono ?_
      rintro e w11 ⟨rfl, hb11⟩
      have a11 : Below w.heap.size w w11 := a10.trans (hb11.mono a10.size)
      have k11 := Lib.hid (k10.out.keep hb11)
      have G11 := Lib.hid (G10.out.keep hb11)
      have W11 := Lib.hid (W10.out.keep hb11)
      go_wp2_with fail
      refine (markIntS_any v1 _ _ 1 rfl _ (by omega) G11.out).mono ?_
      rintro e w12 ⟨rfl, hO, hg12⟩
      have G12 := Lib.hid hO
      clear hO
      have a12 : Below w.heap.size w w12 := a11.grown hg12 a11.size (fun q hq => by have := TG.out q hq; omega)
      have k12 := Lib.hid (show IsBlk w12 w.heap.size 24 _ from (hg12.block _ k11.out.lt (fun e => by have := TG.out _ e.symm; omega)).trans k11.out)
      have W12 := Lib.hid (W11.out.far hg12 (fun q hq e => by have := TG.out _ e; have := TW.out _ hq; omega))
      go_wp2_with fail
      refine (heldIntS_any v1 _ 1 rfl _ (by omega) G12.out.row).mono ?_
      rintro e w12' ⟨rfl, rfl⟩
      generalize hlen : (linesAtF bs ls bus).length = m at *
      have HM := Lib.hid hlen
      clear hlen
      have m2 : ¬ ((1 : Int) + (m : Int) < 0) := by omega
      obtain ⟨p0, p1, _, _⟩ := k12.out.two
      go_wp2_with fail
      refine (toNet_any bs A n c ls _ hc (HR.out.below a12)).mono ?_
      rintro e w13 ⟨g2, rfl, hb13, hg13, hk⟩
      have a13 : Below w.heap.size w w13 := a12.trans (hb13.mono a12.size)
      have W13 := Lib.hid (W12.out.keep hb13)
      have G13 := Lib.hid (G12.out.keep hb13)
      have r13 := Lib.hid (hk.row HL.out)
      clear p0 p1 hk
      go_wp2_with fail
      refine (linesAt_any bs _ n n ls bus _ hc r13.out).mono ?_
      rintro e w14 ⟨v2, rfl, hO, hb14⟩
      have H14 := Lib.hid hO
      clear hO
      have a14 : Below w.heap.size w w14 := a13.trans (hb14.mono a13.size)
      have W14 := Lib.hid (W13.out.keep hb14)
      have G14 := Lib.hid (G13.out.keep hb14)
      go_wp2_with fail
      refine (eqIntS_same _ _ _ _ (by rw [HM.out]; omega) H14.out.row W14.out.row).mono ?_
      rintro e w15 ⟨rfl, hb15⟩
      have a15 : Below w.heap.size w w15 := a14.trans (hb15.mono a14.size)
      have G15 := Lib.hid (G14.out.keep hb15)
      go_wp2_with fail
      refine (heldIntS_any v1 m 1 rfl _ (by omega) G15.out.row).mono ?_
      rintro e w16 ⟨rfl, rfl⟩
      go_wp2
      go_ret
      exact ⟨rfl, a15⟩
  · go_enter Try.func4, Try.ntmps4
    go_wp2_with fail
    refine (szNet_any bs A n c hn _).mono ?_
    rintro e w1 ⟨rfl, hb1⟩
    simp only [hc, if_false]
    go_wp2
    go_ret
    exact ⟨rfl, (below_bx w _).trans (hb1.mono (by simp))⟩
end Go.Proofs.Ytpkcfhjaldbmhaa
