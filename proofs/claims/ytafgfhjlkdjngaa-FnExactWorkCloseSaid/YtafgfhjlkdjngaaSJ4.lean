/- Marks on slices of the struct Permit of a call's own; two of them compared (written by program). -/
import Derived.Test.YtafgfhjlkdjngaaSJ1
import Derived.Test.YtafgfhjlkdjngaaSJ3
import Derived.Test.YtafgfhjlkdjngaaBCC
namespace Go.Proofs.Ytafgfhjlkdjngaa
open Go.ChangeShapes Go.WideShapes Go.ChangeAt Go.RowKit

def mkJ (k0 : Int) (i : Nat) : TJ := ((k0 + 2 * (i : Int)), (k0 + 2 * (i : Int) + 1))
def marksJ (k0 : Int) (n : Nat) : List TJ := (List.range n).map (mkJ k0)
theorem marksJ_len (k0 : Int) (n : Nat) : (marksJ k0 n).length = n := by simp [marksJ]
theorem marksJ_succ (k0 : Int) (n : Nat) : marksJ k0 (n + 1) = marksJ k0 n ++ [mkJ k0 n] := by rw [marksJ, List.range_succ, List.map_append]; rfl
theorem marksJ_get {k0 : Int} {n j : Nat} (h : j < n) : (marksJ k0 n)[j]? = some (mkJ k0 j) := by rw [marksJ, List.getElem?_map, List.getElem?_range h]; rfl
theorem take_setJ (cu : Array Value) (k : Nat) (a b : Value) (h : k * 2 + 1 < cu.size) : (((cu.setIfInBounds (k * 2) a).setIfInBounds (k * 2 + 1) b)).toList.take ((k + 1) * 2) = cu.toList.take (k * 2) ++ [a, b] := by
  rw [show (k + 1) * 2 = k * 2 + 1 + 1 by omega]
  rw [take_set1 _ _ _ (by first | omega | (simp; omega))]
  rw [take_set1 _ _ _ (by first | omega | (simp; omega))]
  simp
theorem eqPermitS_own {v v' : Value} {us : List TJ} {w : World} {b b' : Nat} (hn : us.length ≤ 1048576) (h : OwnJ w b v us) (h' : OwnJ w b' v' us) :
    Calls Try.prog 49 #[v, v'] w fun e w' => e = .returned (.bool true) ∧ Below w.heap.size w w' := by
  obtain ⟨A, c, rfl, h1⟩ := h.row
  obtain ⟨A', c', rfl, h2⟩ := h'.row
  exact eqPermitS_same A A' _ c c' us w hn h1 h2
theorem markPermitS_own (v : Value) (us : List TJ) (base : Nat) (k0 : Int) (hk0 : 1 ≤ k0) (hk1 : k0 ≤ 100000000) (w : World) (hn : us.length ≤ 1048576) (hr : OwnJ w base v us) :
    Calls Try.prog 51 #[v, .int .i64 k0] w fun e w' => e = .returned (.int .i64 (k0 + 2 * us.length)) ∧ OwnJ w' base v (marksJ k0 us.length) ∧ w.grownBy w' v.ownBlock := by
  rcases hr.2 with ⟨rfl, hz⟩ | ⟨g, cap, cur, rfl, hb, hg, hnc, hc, hsz, ht⟩
  · have hx : us = [] := List.eq_nil_of_length_eq_zero hz
    subst hx
    go_enter Try.func51, Try.ntmps51
    go_wp2
    go_loop [5, 1] (fun i j => i = .int .i64 0 ∧ j = .int .i64 k0) (fun _ _ => 0)
    case atStart => exact ⟨rfl, rfl⟩
    case round =>
      obtain ⟨rfl, rfl⟩ := hrel
      go_wp2
      go_ret
      exact ⟨retI (by simp), hr, World.grownBy.refl _ _⟩
  · generalize hlen : us.length = n at *
    have HG := Lib.hid (show IsBlk w g 66 cur from hg)
    have hcur : 2 * n ≤ cur.size := by omega
    have HSZ := Lib.hid hsz
    clear hr hg ht hlen hsz
    go_enter Try.func51, Try.ntmps51
    go_wp2
    go_loopw [5, 1] (fun i j wr => ∃ k : Nat, k ≤ n ∧ i = .int .i64 k ∧ j = .int .i64 (k0 + 2 * k) ∧ w.grownBy wr (some g) ∧ ∃ cu : Array Value, IsBlk wr g 66 cu ∧ cu.size = cur.size ∧ cu.toList.take (k * 2) = (marksJ k0 k).flatMap fJ) (fun i _ _ => n - (intOf i).toNat)
    case atStart => exact ⟨0, by omega, rfl, by simp, World.grownBy.refl _ _, cur, HG.out, rfl, by simp [marksJ]⟩
    case round =>
      obtain ⟨k, hk, rfl, rfl, hgr, cu, hblk, hsz, htk⟩ := hrel
      by_cases hlt : k < n
      · have hkc : k * 2 + 1 < cu.size := by omega
        have one : ∀ j, j < 2 * n → ∃ u, wr.cell? ⟨g, j, none⟩ = some u := fun j hj => ⟨cu[j]'(by omega), (hblk.cell j).trans (Array.getElem?_eq_getElem (by omega))⟩
        obtain ⟨u0, c0⟩ := one (k * 2) (by omega)
        obtain ⟨u1, c1⟩ := one (k * 2 + 1) (by omega)
        have f0 : wr.frozen? ⟨g, k * 2, none⟩ = false := hblk.thaw _
        have f1 : wr.frozen? ⟨g, k * 2 + 1, none⟩ = false := hblk.thaw _
        have HB := Lib.hid hblk
        have HS := Lib.hid hsz
        have HK := Lib.hid htk
        clear hblk hsz htk one
        go_wp2
        go_roundw
        case rel =>
          refine ⟨k + 1, by omega, by go_num, by go_num, grown_then (grown_then hgr (grown_put _ _ _ _)) (grown_put _ _ _ _), _, (HB.out.put _ _).put _ _, by simp [HS.out], ?_⟩
          rw [take_setJ _ _ _ _ hkc, HK.out, marksJ_succ, List.flatMap_append, List.flatMap_singleton]
          simp [fJ, mkJ]
          try omega
        case measure => simp [intOf]; omega
      · go_wp2
        go_ret
        obtain rfl : k = n := by omega
        refine ⟨rfl, ?_, hgr⟩
        show World.ownsRow _ _ _ _ _ (marksJ k0 k).length _
        rw [marksJ_len]
        exact ⟨by rw [flat_len fJ_len, marksJ_len], .inr ⟨g, cap, cu, rfl, hb, hblk, hnc, hc, by rw [hsz]; exact HSZ.out, htk⟩⟩
end Go.Proofs.Ytafgfhjlkdjngaa
