/- Busbars: the drawing of bars and deeds. -/
import Derived.Test.YtafgfhjlkdjngaaDoorBrH
namespace Go.Proofs.YtafgfhjlkdjngaaDoor
open Go.ChangeShapes Go.WideShapes Go.ChangeAt Go.RowKit

/-- Deeds in the making, beside bars that were drawn. -/
structure DcSt (w wr : World) (X : Nat) (lim : Int) (A : Option Addr) (n c : Nat) (ss : List Int) (t : Bool) (v : Value) (ds : List Int) : Prop where
  st : DbSt w wr X lim A n c ss t
  list : OwnI 3 wr (X + 1) v ds
  sep : ∀ b off, A = some ⟨b, off, none⟩ → b < X
section
variable {w wr w' : World} {X n c : Nat} {lim lim' : Int} {A : Option Addr} {ss : List Int} {t : Bool} {v v' : Value} {ds ds' : List Int}
theorem DcSt.pick (h : DcSt w wr X lim A n c ss t v ds) (hr : Rd w' (w.heap.size + 1) lim') (hg : wr.grownBy w' (some (w.heap.size + 1))) : DcSt w w' X lim' A n c ss t v ds :=
  ⟨h.st.pick hr hg, OwnI.far h.list hg (fun q hq e => by injection e with e; have := (OwnI.lt h.list q hq).1; have := h.st.hX; omega), h.sep⟩
theorem DcSt.push (h : DcSt w wr X lim A n c ss t v ds) (o : Obj) (hown : OwnI 3 w' (X + 1) v' ds') (hg : (wr.alloc o).grownBy w' v.ownBlock) : DcSt w w' X lim A n c ss t v' ds' := by
  have hX := h.st.hX
  have hq : ∀ q, v.ownBlock = some q → X + 1 ≤ q := fun q e => (OwnI.lt h.list q e).1
  have s := h.st.next (below_bx wr o)
  have hsz := h.st.bel.size
  refine ⟨⟨OwnI.far s.own hg (fun q hqs e => ?_), s.rd.grown hg (fun q e => by have := hq q e; omega), s.bel.grown hg s.bel.size (fun q e => by have := hq q e; omega), s.ret.farG hg (fun e => by have := hq _ e; omega), s.var.farG hg (fun e => by have := hq _ e; omega), hX⟩, hown, h.sep⟩
  have h1 := hq q e
  have h2 : q < X := by
    rcases A with _ | ⟨b, off, sp⟩
    · simp [Value.ownBlock] at hqs
    · rcases s.own.2 with ⟨e1, _⟩ | ⟨g, cap, cur, e1, _⟩
      · injection e1 with e1; cases e1
      · injection e1 with e1 _ _
        injection e1 with e1
        injection e1 with e1 e2 e3
        subst e1 e2 e3
        have e4 : b = q := Option.some.inj hqs
        have := h.sep b 0 rfl
        omega
  omega
theorem DcSt.mono (h : DcSt w wr X lim A n c ss t v ds) (hl : lim ≤ lim') : DcSt w wr X lim' A n c ss t v ds := ⟨⟨h.st.own, h.st.rd.mono hl, h.st.bel, h.st.ret, h.st.var, h.st.hX⟩, h.list, h.sep⟩
end

set_option maxRecDepth 100000 in
set_option maxHeartbeats 8000000 in
theorem drawBarsRun_any (A : Option Addr) (n c : Nat) (code : List Int) (w : World) (hr : RowB w A n code) (hnc : n ≤ c) (hc : c ≤ 9223372036854775807) :
    Calls Tryd.prog 13 #[.slice A n c] w fun x w' => ∃ A n c ss t v ds, x = .returned (.tuple #[.agg #[.slice A n c, .bool t], v]) ∧ OwnI 3 w' w.heap.size v ds ∧ ds.length ≤ 12 ∧ (∀ z ∈ ds, z ≤ 1000) ∧ DrawnR w w' A n c ss := by
  obtain ⟨i0, hi, hz0, hz1, hz2⟩ := info_parts intInfo6
  have HI := Lib.hid hi
  clear hi
  have K0 := Lib.hid (IsBlk.new w 25 #[.slice none 0 0, .bool false])
  have a0 := below_bx w (.cells #[.slice none 0 0, .bool false] 25)
  go_enter Tryd.func13, Tryd.ntmps13
  go_wp2_with fail
  refine (open_any A n c code _ (hr.allocR _) hnc hc).mono ?_
  rintro x w1 ⟨rfl, hb1, hr1, hs1⟩
  have K1 := Lib.hid (K0.out.keep hb1)
  have a1 := Lib.hid (a0.trans (hb1.mono a0.size))
  simp only [World.size_alloc] at hr1 hs1
  clear hr hb1 a0 K0
  go_wp2_with fail
  refine (l20Bars_any (w.heap.size + 1) 9 0 (by decide) (by decide) _ hr1).mono ?_
  rintro x w2 ⟨A1, n1, c1, ss, t, rfl, hl, hn1, hn7, hO, hr2, hg2⟩
  have hsz : w.heap.size + 2 ≤ w1.heap.size := by omega
  have hs2 := hg2.size
  have hsep : ∀ b off, A1 = some ⟨b, off, none⟩ → b < w2.heap.size := fun b off e => (OwnI.lt hO b (by rw [e]; rfl)).2
  have S2 := Lib.hid (show DbSt w (w2.alloc (.cells #[.slice A1 n1 c1, .bool t] 25)) w2.heap.size 30 A1 n1 c1 ss t from
    ⟨OwnI.alloc (OwnI.moreR hO hsz) _, hr2.alloc _, (a1.out.grown hg2 a1.out.size (fun k e => by injection e with e; omega)).alloc (a1.out.grown hg2 a1.out.size (fun k e => by injection e with e; omega)).size _, (K1.out.farG hg2 (fun e => by injection e with e; omega)).alloc _, IsBlk.new w2 _ _, by omega⟩)
  have hws : w2.heap.size + 1 ≤ (w2.alloc (.cells #[.slice A1 n1 c1, .bool t] 25)).heap.size := by simp
  have HSEP := Lib.hid hsep
  clear hr1 hr2 hg2 K1 a1 hO hs1 hs2 hsz hsep
  go_upto_region 3 with fail
  generalize w2.heap.size = X at *
  generalize w2.alloc (.cells #[.slice A1 n1 c1, .bool t] 25) = w3 at *
  have hn7' : (n1 : Int) ≤ 7 := by omega
  have hn1' : (1 : Int) ≤ (n1 : Int) := by omega
  have HL := Lib.hid hl
  have S3 := Lib.hid (show DcSt w (w3.alloc (.cells #[] 3)) X 30 A1 n1 c1 ss t (.slice (some ⟨w3.heap.size, 0, none⟩) 0 0) [] from ⟨S2.out.next (below_bx w3 _), OwnI.moreR (ownLitR w3) hws, HSEP.out⟩)
  clear hl S2 HSEP
  go_wp2_with fail
  refine (pick_any (w.heap.size + 1) 12 30 (by decide) (by decide) _ S3.out.st.rd).mono ?_
  rintro x w4 ⟨m, rfl, hm0, hm1, _, hr4, hg4⟩
  have hm2 : m < 12 := hm1 (by decide)
  obtain ⟨m, rfl⟩ := Int.eq_ofNat_of_zero_le hm0
  have S4 := Lib.hid (S3.out.pick hr4 hg4)
  clear S3 hr4 hg4 hm0 hm1 hws
  go_wp2_with fail
  go_loopw [6, 7] (fun v i wr => ∃ (k : Nat) (ds : List Int), i = .int .i64 k ∧ ds.length + k ≤ 12 ∧ (∀ z ∈ ds, z ≤ 1000) ∧ DcSt w wr X (60 - k) A1 n1 c1 ss t v ds) (fun _ i _ => (intOf i).toNat)
  case atStart => exact ⟨m, [], rfl, by simp; omega, by simp, S4.out.mono (by omega)⟩
  case round =>
    obtain ⟨k, ds, rfl, hk, hin, hst⟩ := hrel
    have SK := Lib.hid hst
    have HIN := Lib.hid hin
    clear hst hin S4
    obtain ⟨Av, cv, hv⟩ := OwnI.shape SK.out.list
    subst hv
    obtain ⟨p0, p1, -⟩ := SK.out.st.var.two
    by_cases hlt : 0 < k
    · have hk0 : (0 : Int) < (k : Int) := by omega
      go_wp2_with fail
      refine (pick_any (w.heap.size + 1) (4 * (n1 : Int) + 3) _ (by omega) (by omega) _ SK.out.st.rd).mono ?_
      rintro x w5 ⟨a, rfl, ha0, ha1, _, hr5, hg5⟩
      have ha2 : a < 4 * (n1 : Int) + 3 := ha1 (by omega)
      have S5 := Lib.hid (SK.out.pick hr5 hg5)
      clear SK hr5 hg5 ha1 p0 p1
      have hX5 : X < w5.heap.size := S5.out.st.var.lt
      go_wp2_with (
        at_builtin
        refine wpList_append_own _ rfl _ _ _ rfl (X + 1) 3 i0 (.int .i64 0) 1 8 Tryd.underlying23 HI.out hz0 hz1 hz2 rfl (by decide) _ _ _ rfl (World.ownsRow.alloc S5.out.list _) ⟨w5.heap.size, 0, none⟩ 1 1 [.int .i64 a] rfl rfl ?c1 ?c2 ?c3 ?c4 ?c5 ?_
        case c1 => exact cell_one_new _ _ _
        case c2 => intro u hu; simp at hu; subst hu; rfl
        case c3 => simp only [maxLen]; omega
        case c4 => omega
        case c5 => simp; omega
        intro v' w6 hown' hgrow _
        have S6 := Lib.hid (S5.out.push (ds' := ds ++ [a]) (.cells #[.int .i64 a] 3) (by simpa [OwnI] using hown') hgrow))
      go_roundw
      case rel =>
        refine ⟨k - 1, ds ++ [a], by go_num, by simp; omega, ?_, S6.out.mono (by omega)⟩
        intro z hz
        rcases List.mem_append.1 hz with h | h
        · exact HIN.out z h
        · obtain rfl := List.mem_singleton.1 h
          omega
      case measure => simp [intOf]; omega
    · obtain rfl : k = 0 := by omega
      obtain ⟨r0, r1, s0, s1⟩ := SK.out.st.ret.two
      go_wp2
      refine bodyPost_ret (v := .tuple #[.agg #[.slice A1 n1 c1, .bool t], .slice Av ds.length cv]) (by simp [results, Tryd.results13, go_sem, r0, r1]) rfl ⟨A1, n1, c1, ss, t, _, ds, rfl, ?_, by omega, HIN.out, SK.out.st.done _ _ HL.out hn1 hn7⟩
      exact OwnI.ret2 (OwnI.moreR SK.out.list (by have := SK.out.st.hX; omega)) (fun q hq => by have := (OwnI.lt SK.out.list q hq).1; have := SK.out.st.hX; omega) _ _
end Go.Proofs.YtafgfhjlkdjngaaDoor
