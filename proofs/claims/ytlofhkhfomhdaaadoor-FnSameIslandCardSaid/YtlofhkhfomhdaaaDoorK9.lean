/- FnSameIsland: the walk. -/
import Derived.Test.YtlofhkhfomhdaaaDoorD3
import Derived.Test.YtlofhkhfomhdaaaDoorG3
import Derived.Test.YtlofhkhfomhdaaaDoorI6
import Derived.Test.YtlofhkhfomhdaaaDoorI9
import Derived.Test.YtlofhkhfomhdaaaDoorK0
import Derived.Test.YtlofhkhfomhdaaaDoorK6
import Derived.Deep.RegionHeld3
namespace Go.Proofs.YtlofhkhfomhdaaaDoor
open Go.ChangeShapes Go.WideShapes Go.ChangeAt Go.RowKit

theorem holdC {w w' : World} {X b o o' : Nat} {u v x y : Value} (p0 : w.cell? ⟨X, 0, none⟩ = some u) (p1 : w.cell? ⟨X, 1, none⟩ = some v) (hX : X < w.heap.size) (g0 : w.cell? ⟨b, o, none⟩ = some x) (g1 : w.cell? ⟨b, o', none⟩ = some y) (hbb : b < w.heap.size) (hb : Below w.heap.size w w') :
    Below w.heap.size w w' ∧ w'.cell? ⟨X, 0, none⟩ = some u ∧ w'.cell? ⟨X, 1, none⟩ = some v ∧ w'.cell? ⟨b, o, none⟩ = some x ∧ w'.cell? ⟨b, o', none⟩ = some y :=
  ⟨hb, (hb.cell (p := ⟨X, 0, none⟩) hX).trans p0, (hb.cell (p := ⟨X, 1, none⟩) hX).trans p1, (hb.cell (p := ⟨b, o, none⟩) hbb).trans g0, (hb.cell (p := ⟨b, o', none⟩) hbb).trans g1⟩
theorem runC {w0 w w' : World} {p : Prop} (h : Below w0.heap.size w0 w ∧ p) (hb : Below w.heap.size w w') : Below w0.heap.size w0 w' := h.1.trans (hb.mono h.1.size)

set_option maxRecDepth 100000 in
set_option maxHeartbeats 1000000 in
theorem sameIsland_walk (w : World) (A : Option Addr) (n c : Nat) (code : List Int) (hr : RowB w A n code) (hnc : n ≤ c) (hc : c ≤ 9223372036854775807) :
    Calls Tryd.prog 6 #[.slice A n c] w fun e w' => e = .returned (.bool true) ∧ Below w.heap.size w w' := by
  by_cases hlen : n ≤ 1048576
  · go_enter Tryd.func6, Tryd.ntmps6
    go_wp2_with fail
    refine (drawSameIsland_any A n c code _ hr hnc hc).mono ?_
    rintro e w1 ⟨bs, A1, c1, ls, v, ts, a, b, rfl, hrow, hls, hb0, hb9, hO, hts, a1⟩
    have hbx := below_bx w1 (.cells #[.int .i64 bs, .slice A1 ls.length c1] 25)
    have HR1 := Lib.hid (hrow.below hbx)
    have k1 := Lib.hid (IsBlk.new w1 25 #[.int .i64 bs, .slice A1 ls.length c1])
    have b1 : Below w.heap.size w (w1.alloc (.cells #[.int .i64 bs, .slice A1 ls.length c1] 25)) := a1.alloc a1.size _
    obtain ⟨A2, c2, rfl, _, hrt⟩ := hO.row
    have T1 := Lib.hid (hrt.below hbx)
    clear hrow hr hO hrt
    have h1 : ls.length ≤ 1048576 := by omega
    have h2 : ts.length ≤ 1048576 := by omega
    obtain ⟨t, ht⟩ : ∃ t, samF bs ls ts a b = t := ⟨_, rfl⟩
    have HT := Lib.hid ht
    have HT' := Lib.hid ((samF_comm bs ls ts a b).trans ht)
    go_wp2_with fail
    refine (sam_any bs A1 ls.length c1 ls A2 ts.length c2 ts a b _ h1 HR1.out h2 T1.out).mono ?_
    rintro e w2 ⟨rfl, hb2⟩
    have b2 := b1.trans (hb2.mono b1.size)
    have HR2 := Lib.hid (HR1.out.below hb2)
    have k2 := Lib.hid (k1.out.keep hb2)
    have T2 := Lib.hid (T1.out.below hb2)
    clear HR1 k1 T1
    rw [HT.out]
    obtain ⟨p0, p1, _, _⟩ := k2.out.two
    go_wp2_with fail
    refine (specSam_any bs A1 ls.length c1 ls A2 ts.length c2 ts a b _ h1 HR2.out h2 T2.out).mono ?_
    rintro e w3 ⟨rfl, hb3⟩
    have b3 := b2.trans (hb3.mono b2.size)
    have HR3 := Lib.hid (HR2.out.below hb3)
    have k3 := Lib.hid (k2.out.keep hb3)
    have T3 := Lib.hid (T2.out.below hb3)
    clear HR2 k2 T2 p0 p1
    rw [HT.out]
    have htt : (t == t) = true := by simp
    have htn : (t != t) = false := by simp
    obtain ⟨p0, p1, _, _⟩ := k3.out.two
    go_wp2_with fail
    refine (sam_any bs A1 ls.length c1 ls A2 ts.length c2 ts b a _ h1 HR3.out h2 T3.out).mono ?_
    rintro e w4 ⟨rfl, hb4⟩
    have b4 := b3.trans (hb4.mono b3.size)
    have HR4 := Lib.hid (HR3.out.below hb4)
    have k4 := Lib.hid (k3.out.keep hb4)
    have T4 := Lib.hid (T3.out.below hb4)
    clear HR3 k3 T3 p0 p1
    rw [HT'.out]
    obtain ⟨p0, p1, _, _⟩ := k4.out.two
    go_wp2_with fail
    refine (isl_any bs A1 ls.length c1 ls A2 ts.length c2 ts _ h1 HR4.out h2 T4.out).mono ?_
    rintro e w5 ⟨v5, rfl, hO5, hb5⟩
    have b5 := b4.trans (hb5.mono b4.size)
    have HR5 := Lib.hid (HR4.out.below hb5)
    have k5 := Lib.hid (k4.out.keep hb5)
    have T5 := Lib.hid (T4.out.below hb5)
    obtain ⟨A5, c5, rfl, hz5⟩ := hO5.sl
    have Z5 := Lib.hid hz5
    clear HR4 k4 T4 p0 p1 hO5 hz5
    obtain ⟨p0, p1, _, _⟩ := k5.out.two
    by_cases hq : ((islF bs ls ts).length : Int) = bs ∧ 0 ≤ a ∧ a < bs ∧ 0 ≤ b ∧ b < bs
    · obtain ⟨q1, q2, q3, q4, q5⟩ := hq
      have hs := islF_some (show 0 < (islF bs ls ts).length by omega)
      obtain ⟨x, rfl⟩ : ∃ x : Nat, a = (x : Int) := ⟨a.toNat, by omega⟩
      obtain ⟨y, rfl⟩ : ∃ y : Nat, b = (y : Int) := ⟨b.toNat, by omega⟩
      have hat := samF_at hs q3 q5
      rw [HT.out] at hat
      have HSelf := Lib.hid (samF_self hs q3)
      have hx := islF_at hs (show x < bs.toNat by omega)
      have hy := islF_at hs (show y < bs.toNat by omega)
      obtain ⟨bx, ox, zx, hAx, hbx', hkx, g1⟩ := Z5.out.at_ (show x < (islF bs ls ts).length by omega)
      obtain ⟨by', oy, zy, hAy, hby, hky, g2⟩ := Z5.out.at_ (show y < (islF bs ls ts).length by omega)
      rw [hx] at hkx; injection hkx with hkx; subst hkx
      rw [hy] at hky; injection hky with hky; subst hky
      subst hAx
      injection hAy with hAy
      injection hAy with h3 h4
      subst h3 h4
      have q6 : (x : Int) < ((islF bs ls ts).length : Int) := by omega
      have q7 : (y : Int) < ((islF bs ls ts).length : Int) := by omega
      clear hx hy hby Z5 HT HT' ht
      generalize ((leastF (edgesOn ls ts) x : Nat) : Int) = u at *
      generalize ((leastF (edgesOn ls ts) y : Nat) : Int) = v at *
      generalize (islF bs ls ts).length = nl at *
      have CA := fun (W : World) (hW : Below w5.heap.size w5 W) => sam_any bs A1 ls.length c1 ls A2 ts.length c2 ts x x W h1 (HR5.out.below hW) h2 (T5.out.below hW)
      simp only [HSelf.out] at CA
      have HA := Lib.hid CA
      have hX : w1.heap.size < w5.heap.size := k5.out.lt
      have q8 : (0 : Int) ≤ (x : Int) := by omega
      have q9 : (0 : Int) ≤ (y : Int) := by omega
      clear CA HSelf k5 HR5 T5
      go_upto_region 10 with fail
      go_region_held3 (fun w' => Below w5.heap.size w5 w' ∧ w'.cell? ⟨w1.heap.size, 0, none⟩ = some (.int .i64 bs) ∧ w'.cell? ⟨w1.heap.size, 1, none⟩ = some (.slice A1 ls.length c1) ∧ w'.cell? ⟨bx, ox + x, none⟩ = some (.int .i64 u) ∧ w'.cell? ⟨bx, ox + y, none⟩ = some (.int .i64 v))
        (first | exact holdC p0 p1 hX g1 g2 hbx' hB8 | exact holdC p0 p1 hX g1 g2 hbx' (Below.drew (Below.refl _ _)) | exact holdC p0 p1 hX g1 g2 hbx' (Below.refl _ _))
        ((go_at_call 23; (with_reducible refine (HA.out _ (And.left (by assumption))).mono ?_); rintro e w8 ⟨rfl, hb8⟩; have hB8 := runC (by assumption) hb8))
      rename_i hF
      have b8 := b5.trans (hF.1.mono b5.size)
      go_wp2
      go_ret
      exact ⟨rfl, b8⟩
    · have ht0 : t = false := by
        rw [← HT.out]
        refine samF_no ?_
        by_cases hs : stOk bs ls ts.length = true
        · have := islF_length hs
          have := stOk_bs hs
          omega
        · exact .inl (by simpa using hs)
      subst ht0
      clear HT HT' ht Z5 HR5 T5
      generalize (islF bs ls ts).length = nl at *
      by_cases r1 : (nl : Int) = bs
      · by_cases r2 : a < 0
        · go_wp2_with fail
          refine (alive_any _).mono ?_
          rintro e w6 ⟨rfl, hb6⟩
          go_wp2
          go_ret
          exact ⟨rfl, b5.trans (hb6.mono b5.size)⟩
        · by_cases r3 : bs ≤ a
          · go_wp2_with fail
            refine (alive_any _).mono ?_
            rintro e w6 ⟨rfl, hb6⟩
            go_wp2
            go_ret
            exact ⟨rfl, b5.trans (hb6.mono b5.size)⟩
          · by_cases r4 : b < 0
            · go_wp2_with fail
              refine (alive_any _).mono ?_
              rintro e w6 ⟨rfl, hb6⟩
              go_wp2
              go_ret
              exact ⟨rfl, b5.trans (hb6.mono b5.size)⟩
            · have r5 : bs ≤ b := by omega
              go_wp2_with fail
              refine (alive_any _).mono ?_
              rintro e w6 ⟨rfl, hb6⟩
              go_wp2
              go_ret
              exact ⟨rfl, b5.trans (hb6.mono b5.size)⟩
      · go_wp2_with fail
        refine (alive_any _).mono ?_
        rintro e w6 ⟨rfl, hb6⟩
        go_wp2
        go_ret
        exact ⟨rfl, b5.trans (hb6.mono b5.size)⟩
  · have hl2 : (1048576 : Int) < (n : Int) := by omega
    go_enter Tryd.func6, Tryd.ntmps6
    go_wp2
    go_ret
    exact ⟨rfl, Below.refl _ _⟩
end Go.Proofs.YtlofhkhfomhdaaaDoor
