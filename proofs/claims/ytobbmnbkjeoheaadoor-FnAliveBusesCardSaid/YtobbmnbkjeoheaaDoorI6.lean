/- SameIsland, of the program. -/
import Derived.Test.YtobbmnbkjeoheaaDoorI5
namespace Go.Proofs.YtobbmnbkjeoheaaDoor
open Go.ChangeShapes Go.WideShapes Go.ChangeAt Go.RowKit

theorem within_q (x a b : Int) {t : Bool} (ht : inB x a b = t) (w : World) :
    Calls Tryd.prog 37 #[.int .i64 x, .int .i64 a, .int .i64 b] w fun e w' => e = .returned (.bool t) ∧ w' = w := by
  subst ht
  refine (within_any x a b w).mono ?_
  rintro e w' ⟨rfl, rfl⟩
  exact ⟨rfl, rfl⟩

set_option maxRecDepth 100000 in
set_option maxHeartbeats 400000 in
theorem sam_any (bs : Int) (A : Option Addr) (n c : Nat) (ls : List L3) (B : Option Addr) (m d : Nat) (ts : List Bool) (x y : Int) (w : World) (hn : n ≤ 1048576) (hr : RowL w A n ls) (hm : m ≤ 1048576) (hrt : RowT w B m ts) :
    Calls Tryd.prog 16 #[.agg #[.int .i64 bs, .slice A n c], .slice B m d, .int .i64 x, .int .i64 y] w fun e w' => e = .returned (.bool (samF bs ls ts x y)) ∧ Below w.heap.size w w' := by
  have HR := Lib.hid hr
  have HT := Lib.hid hrt
  have HL := Lib.hid hrt.len
  clear hr hrt
  go_enter Tryd.func16, Tryd.ntmps16
  go_wp2_with fail
  refine (isl_any bs _ n c ls _ m d ts _ hn (HR.out.below (below_bx w _)) hm (HT.out.below (below_bx w _))).mono ?_
  rintro e w1 ⟨v, rfl, hO, hb1⟩
  have a1 : Below w.heap.size w w1 := (below_bx w _).trans (hb1.mono (by simp))
  obtain ⟨A1, c1, rfl, hz⟩ := hO.sl
  have HZ := Lib.hid hz
  clear hz hO
  by_cases hs : stOk bs ls m = true
  · have hbs := stOk_bs hs
    obtain ⟨nb, rfl⟩ := Int.eq_ofNat_of_zero_le (show 0 ≤ bs by omega)
    have hnb : nb ≤ 8 := by omega
    have HF := Lib.hid (show islF nb ls ts = ofN (islL (edgesOn ls ts) nb) by rw [islF, HL.out, if_pos hs]; rfl)
    have hlen : (islF nb ls ts).length = nb := by rw [HF.out, ofN_len, islL_len]
    rw [hlen] at HZ ⊢
    clear hlen
    go_upto_region 3 with fail
    cases hx : inB x 0 ((nb : Int) - 1)
    · have HS := Lib.hid (show samF nb ls ts x y = false by simp [samF, hx])
      clear hs
      go_quiet ((go_at_call 37; exact Calls.quiet_of_same (within_q _ _ _ (by assumption) _)))
      go_wp2
      go_ret
      exact ⟨retB HS.out.symm, below_drewN a1 _⟩
    · cases hy : inB y 0 ((nb : Int) - 1)
      · have HS := Lib.hid (show samF nb ls ts x y = false by simp [samF, hy])
        clear hs
        go_quiet ((go_at_call 37; exact Calls.quiet_of_same (within_q _ _ _ (by assumption) _)))
        go_wp2
        go_ret
        exact ⟨retB HS.out.symm, below_drewN a1 _⟩
      · have hx2 := hx
        have hy2 := hy
        simp [inB] at hx2 hy2
        obtain ⟨a, rfl⟩ := Int.eq_ofNat_of_zero_le hx2.1
        obtain ⟨b, rfl⟩ := Int.eq_ofNat_of_zero_le hy2.1
        have ha : a < nb := by omega
        have hb : b < nb := by omega
        have HS := Lib.hid (show samF nb ls ts a b = connB (edgesOn ls ts) a b by simp [samF, hx, hy, HL.out, hs])
        obtain ⟨g, off, u, rfl, hg, hau, g0⟩ := HZ.out.at_ ha
        obtain ⟨g2, off2, u2, hA, hg2, hbu, g1⟩ := HZ.out.at_ hb
        injection hA with hA
        obtain ⟨rfl, rfl⟩ : g = g2 ∧ off = off2 := by injection hA with e1 e2; exact ⟨e1, e2⟩
        rw [HF.out, ofN_get (islL_get ha)] at hau
        rw [HF.out, ofN_get (islL_get hb)] at hbu
        injection hau with hau
        injection hbu with hbu
        subst hau hbu
        have hc := least_beq (edgesOn ls ts) a b
        have q0 : (0 : Int) ≤ (a : Int) := by omega
        have q1 : (a : Int) < (nb : Int) := by omega
        have q2 : (0 : Int) ≤ (b : Int) := by omega
        have q3 : (b : Int) < (nb : Int) := by omega
        clear hx2 hy2 hs hA
        go_quiet ((go_at_call 37; exact Calls.quiet_of_same (within_q _ _ _ (by assumption) _)))
        go_wp2
        go_ret
        exact ⟨retB HS.out.symm, below_drewN a1 _⟩
  · have hs' : stOk bs ls m = false := by rwa [Bool.not_eq_true] at hs
    have HF := Lib.hid (show islF bs ls ts = [] by rw [islF, HL.out, if_neg (by rw [hs']; decide)])
    have HS := Lib.hid (show samF bs ls ts x y = false by simp [samF, HL.out, hs'])
    have hlen : (islF bs ls ts).length = 0 := by rw [HF.out]; rfl
    rw [hlen] at HZ ⊢
    have W1 : inB x 0 (-1) = false := by rw [Bool.eq_false_iff]; intro h; simp [inB] at h; omega
    clear hs hs' hlen
    go_upto_region 3 with fail
    go_quiet ((go_at_call 37; exact Calls.quiet_of_same (within_q _ _ _ (by assumption) _)))
    go_wp2
    go_ret
    exact ⟨retB HS.out.symm, below_drewN a1 _⟩
end Go.Proofs.YtobbmnbkjeoheaaDoor
