/- Marks on slices of the struct Step of a call's own; two of them compared (written by program). -/
import Derived.Test.YtfedffekbemcoaaDoorSP1
import Derived.Test.YtfedffekbemcoaaDoorSP3
import Derived.Test.YtfedffekbemcoaaDoorBCC
namespace Go.Proofs.YtfedffekbemcoaaDoor
open Go.ChangeShapes Go.WideShapes Go.ChangeAt Go.RowKit

def mkP (k0 : Int) (i : Nat) : TP := ((k0 + 2 * (i : Int)), (k0 + 2 * (i : Int) + 1) % 3 == 0)
def marksP (k0 : Int) (n : Nat) : List TP := (List.range n).map (mkP k0)
theorem marksP_len (k0 : Int) (n : Nat) : (marksP k0 n).length = n := by simp [marksP]
theorem marksP_succ (k0 : Int) (n : Nat) : marksP k0 (n + 1) = marksP k0 n ++ [mkP k0 n] := by rw [marksP, List.range_succ, List.map_append]; rfl
theorem marksP_get {k0 : Int} {n j : Nat} (h : j < n) : (marksP k0 n)[j]? = some (mkP k0 j) := by rw [marksP, List.getElem?_map, List.getElem?_range h]; rfl
theorem take_setP (cu : Array Value) (k : Nat) (a b : Value) (h : k * 2 + 1 < cu.size) : (((cu.setIfInBounds (k * 2) a).setIfInBounds (k * 2 + 1) b)).toList.take ((k + 1) * 2) = cu.toList.take (k * 2) ++ [a, b] := by
  rw [show (k + 1) * 2 = k * 2 + 1 + 1 by omega]
  rw [take_set1 _ _ _ (by first | omega | (simp; omega))]
  rw [take_set1 _ _ _ (by first | omega | (simp; omega))]
  simp
theorem eqStepS_own {v v' : Value} {us : List TP} {w : World} {b b' : Nat} (hn : us.length ≤ 1048576) (h : OwnP w b v us) (h' : OwnP w b' v' us) :
    Calls Tryd.prog 36 #[v, v'] w fun e w' => e = .returned (.bool true) ∧ Below w.heap.size w w' := by
  obtain ⟨A, c, rfl, h1⟩ := h.row
  obtain ⟨A', c', rfl, h2⟩ := h'.row
  exact eqStepS_same A A' _ c c' us w hn h1 h2
theorem markStepS_own (v : Value) (us : List TP) (base : Nat) (k0 : Int) (hk0 : 1 ≤ k0) (hk1 : k0 ≤ 100000000) (w : World) (hn : us.length ≤ 1048576) (hr : OwnP w base v us) :
    Calls Tryd.prog 37 #[v, .int .i64 k0] w fun e w' => e = .returned (.int .i64 (k0 + 2 * us.length)) ∧ OwnP w' base v (marksP k0 us.length) ∧ w.grownBy w' v.ownBlock := by
  rcases hr.2 with ⟨rfl, hz⟩ | ⟨g, cap, cur, rfl, hb, hg, hnc, hc, hsz, ht⟩
  · have hx : us = [] := List.eq_nil_of_length_eq_zero hz
    subst hx
    go_enter Tryd.func37, Tryd.ntmps37
    go_wp2
    go_loop [5, 1] (fun i j => i = .int .i64 0 ∧ j = .int .i64 k0) (fun _ _ => 0)
    case atStart => exact ⟨rfl, rfl⟩
    case round =>
      obtain ⟨rfl, rfl⟩ := hrel
      go_wp2
      go_ret
      exact ⟨retI (by simp), hr, World.grownBy.refl _ _⟩
  · generalize hlen : us.length = n at *
    have HG := Lib.hid (show IsBlk w g 27 cur from hg)
    have hcur : 2 * n ≤ cur.size := by omega
    have HSZ := Lib.hid hsz
    clear hr hg ht hlen hsz
    go_enter Tryd.func37, Tryd.ntmps37
    go_wp2
    go_loopw [5, 1] (fun i j wr => ∃ k : Nat, k ≤ n ∧ i = .int .i64 k ∧ j = .int .i64 (k0 + 2 * k) ∧ w.grownBy wr (some g) ∧ ∃ cu : Array Value, IsBlk wr g 27 cu ∧ cu.size = cur.size ∧ cu.toList.take (k * 2) = (marksP k0 k).flatMap fP) (fun i _ _ => n - (intOf i).toNat)
    case atStart => exact ⟨0, by omega, rfl, by simp, World.grownBy.refl _ _, cur, HG.out, rfl, by simp [marksP]⟩
    case round =>
      obtain ⟨k, hk, rfl, rfl, hgr, cu, hblk, hsz, htk⟩ := hrel
      by_cases hlt : k < n
      · have hkc : k * 2 + 1 < cu.size := by omega
        have one : ∀ j, j < 2 * n → ∃ u, wr.cell? ⟨g, j, none⟩ = some u := fun j hj => ⟨cu[j]'(by omega), (hblk.cell j).trans (Array.getElem?_eq_getElem (by omega))⟩
        obtain ⟨u0, c0⟩ := one (k * 2) (by omega)
        obtain ⟨u1, c1⟩ := one (k * 2 + 1) (by omega)
        have f0 : wr.frozen? ⟨g, k * 2, none⟩ = false := hblk.thaw _
        have f1 : wr.frozen? ⟨g, k * 2 + 1, none⟩ = false := hblk.thaw _
        have HB := Lib.hid hblk
        have HS := Lib.hid hsz
        have HK := Lib.hid htk
        clear hblk hsz htk one
        go_wp2
        go_roundw
        case rel =>
          refine ⟨k + 1, by omega, by go_num, by go_num, grown_then (grown_then hgr (grown_put _ _ _ _)) (grown_put _ _ _ _), _, (HB.out.put _ _).put _ _, by simp [HS.out], ?_⟩
          rw [take_setP _ _ _ _ hkc, HK.out, marksP_succ, List.flatMap_append, List.flatMap_singleton]
          simp [fP, mkP]
          try omega
        case measure => simp [intOf]; omega
      · go_wp2
        go_ret
        obtain rfl : k = n := by omega
        refine ⟨rfl, ?_, hgr⟩
        show World.ownsRow _ _ _ _ _ (marksP k0 k).length _
        rw [marksP_len]
        exact ⟨by rw [flat_len fP_len, marksP_len], .inr ⟨g, cap, cu, rfl, hb, hblk, hnc, hc, by rw [hsz]; exact HSZ.out, htk⟩⟩
theorem heldStepS_own (v : Value) (n : Nat) (base : Nat) (k0 : Int) (hk0 : 1 ≤ k0) (hk1 : k0 ≤ 100000000) (w : World) (hn : n ≤ 1048576) (hr : OwnP w base v (marksP k0 n)) :
    Calls Tryd.prog 38 #[v, .int .i64 k0] w fun e w' => e = .returned (.int .i64 (k0 + 2 * n)) ∧ w = w' := by
  obtain ⟨A, c, rfl, HA⟩ := hr.row
  rw [marksP_len] at *
  have HC := Lib.hid HA
  clear HA hr
  go_enter Tryd.func38, Tryd.ntmps38
  go_wp2
  go_loop [5, 1] (fun i j => ∃ k : Nat, k ≤ n ∧ i = .int .i64 k ∧ j = .int .i64 (k0 + 2 * k)) (fun i _ => n - (intOf i).toNat)
  case atStart => exact ⟨0, by omega, rfl, by simp⟩
  case round =>
    obtain ⟨k, hk, rfl, rfl⟩ := hrel
    by_cases hlt : k < n
    · obtain ⟨b, off, rfl, hb, HD⟩ := HC.out.2 (by omega)
      obtain ⟨g0, g1⟩ := HD k _ (marksP_get hlt)
      simp only [mkP] at g0 g1
      clear HD
      go_wp2
      go_round
      case rel => exact ⟨k + 1, by omega, by go_num, by go_num⟩
      case measure => simp [intOf]; omega
    · go_wp2
      go_ret
      obtain rfl : k = n := by omega
      exact ⟨rfl, rfl⟩
end Go.Proofs.YtfedffekbemcoaaDoor
