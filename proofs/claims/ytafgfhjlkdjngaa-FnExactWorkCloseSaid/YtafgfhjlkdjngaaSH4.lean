/- Marks on slices of the struct WorkDeed of a call's own; two of them compared (written by program). -/
import Derived.Test.YtafgfhjlkdjngaaSH1
import Derived.Test.YtafgfhjlkdjngaaSH3
import Derived.Test.YtafgfhjlkdjngaaBCC
namespace Go.Proofs.Ytafgfhjlkdjngaa
open Go.ChangeShapes Go.WideShapes Go.ChangeAt Go.RowKit

def mkH (k0 : Int) (i : Nat) : TH := ((k0 + 3 * (i : Int)), (k0 + 3 * (i : Int) + 1), (k0 + 3 * (i : Int) + 2))
def marksH (k0 : Int) (n : Nat) : List TH := (List.range n).map (mkH k0)
theorem marksH_len (k0 : Int) (n : Nat) : (marksH k0 n).length = n := by simp [marksH]
theorem marksH_succ (k0 : Int) (n : Nat) : marksH k0 (n + 1) = marksH k0 n ++ [mkH k0 n] := by rw [marksH, List.range_succ, List.map_append]; rfl
theorem marksH_get {k0 : Int} {n j : Nat} (h : j < n) : (marksH k0 n)[j]? = some (mkH k0 j) := by rw [marksH, List.getElem?_map, List.getElem?_range h]; rfl
theorem take_setH (cu : Array Value) (k : Nat) (a b c : Value) (h : k * 3 + 2 < cu.size) : ((((cu.setIfInBounds (k * 3) a).setIfInBounds (k * 3 + 1) b).setIfInBounds (k * 3 + 2) c)).toList.take ((k + 1) * 3) = cu.toList.take (k * 3) ++ [a, b, c] := by
  rw [show (k + 1) * 3 = k * 3 + 2 + 1 by omega]
  rw [take_set1 _ _ _ (by first | omega | (simp; omega))]
  rw [take_set1 _ _ _ (by first | omega | (simp; omega))]
  rw [take_set1 _ _ _ (by first | omega | (simp; omega))]
  simp
theorem eqWorkDeedS_own {v v' : Value} {us : List TH} {w : World} {b b' : Nat} (hn : us.length ≤ 1048576) (h : OwnH w b v us) (h' : OwnH w b' v' us) :
    Calls Try.prog 28 #[v, v'] w fun e w' => e = .returned (.bool true) ∧ Below w.heap.size w w' := by
  obtain ⟨A, c, rfl, h1⟩ := h.row
  obtain ⟨A', c', rfl, h2⟩ := h'.row
  exact eqWorkDeedS_same A A' _ c c' us w hn h1 h2
theorem markWorkDeedS_own (v : Value) (us : List TH) (base : Nat) (k0 : Int) (hk0 : 1 ≤ k0) (hk1 : k0 ≤ 100000000) (w : World) (hn : us.length ≤ 1048576) (hr : OwnH w base v us) :
    Calls Try.prog 29 #[v, .int .i64 k0] w fun e w' => e = .returned (.int .i64 (k0 + 3 * us.length)) ∧ OwnH w' base v (marksH k0 us.length) ∧ w.grownBy w' v.ownBlock := by
  rcases hr.2 with ⟨rfl, hz⟩ | ⟨g, cap, cur, rfl, hb, hg, hnc, hc, hsz, ht⟩
  · have hx : us = [] := List.eq_nil_of_length_eq_zero hz
    subst hx
    go_enter Try.func29, Try.ntmps29
    go_wp2
    go_loop [5, 1] (fun i j => i = .int .i64 0 ∧ j = .int .i64 k0) (fun _ _ => 0)
    case atStart => exact ⟨rfl, rfl⟩
    case round =>
      obtain ⟨rfl, rfl⟩ := hrel
      go_wp2
      go_ret
      exact ⟨retI (by simp), hr, World.grownBy.refl _ _⟩
  · generalize hlen : us.length = n at *
    have HG := Lib.hid (show IsBlk w g 75 cur from hg)
    have hcur : 3 * n ≤ cur.size := by omega
    have HSZ := Lib.hid hsz
    clear hr hg ht hlen hsz
    go_enter Try.func29, Try.ntmps29
    go_wp2
    go_loopw [5, 1] (fun i j wr => ∃ k : Nat, k ≤ n ∧ i = .int .i64 k ∧ j = .int .i64 (k0 + 3 * k) ∧ w.grownBy wr (some g) ∧ ∃ cu : Array Value, IsBlk wr g 75 cu ∧ cu.size = cur.size ∧ cu.toList.take (k * 3) = (marksH k0 k).flatMap fH) (fun i _ _ => n - (intOf i).toNat)
    case atStart => exact ⟨0, by omega, rfl, by simp, World.grownBy.refl _ _, cur, HG.out, rfl, by simp [marksH]⟩
    case round =>
      obtain ⟨k, hk, rfl, rfl, hgr, cu, hblk, hsz, htk⟩ := hrel
      by_cases hlt : k < n
      · have hkc : k * 3 + 2 < cu.size := by omega
        have one : ∀ j, j < 3 * n → ∃ u, wr.cell? ⟨g, j, none⟩ = some u := fun j hj => ⟨cu[j]'(by omega), (hblk.cell j).trans (Array.getElem?_eq_getElem (by omega))⟩
        obtain ⟨u0, c0⟩ := one (k * 3) (by omega)
        obtain ⟨u1, c1⟩ := one (k * 3 + 1) (by omega)
        obtain ⟨u2, c2⟩ := one (k * 3 + 2) (by omega)
        have f0 : wr.frozen? ⟨g, k * 3, none⟩ = false := hblk.thaw _
        have f1 : wr.frozen? ⟨g, k * 3 + 1, none⟩ = false := hblk.thaw _
        have f2 : wr.frozen? ⟨g, k * 3 + 2, none⟩ = false := hblk.thaw _
        have HB := Lib.hid hblk
        have HS := Lib.hid hsz
        have HK := Lib.hid htk
        clear hblk hsz htk one
        go_wp2
        go_roundw
        case rel =>
          refine ⟨k + 1, by omega, by go_num, by go_num, grown_then (grown_then (grown_then hgr (grown_put _ _ _ _)) (grown_put _ _ _ _)) (grown_put _ _ _ _), _, ((HB.out.put _ _).put _ _).put _ _, by simp [HS.out], ?_⟩
          rw [take_setH _ _ _ _ _ hkc, HK.out, marksH_succ, List.flatMap_append, List.flatMap_singleton]
          simp [fH, mkH]
          try omega
        case measure => simp [intOf]; omega
      · go_wp2
        go_ret
        obtain rfl : k = n := by omega
        refine ⟨rfl, ?_, hgr⟩
        show World.ownsRow _ _ _ _ _ (marksH k0 k).length _
        rw [marksH_len]
        exact ⟨by rw [flat_len fH_len, marksH_len], .inr ⟨g, cap, cu, rfl, hb, hblk, hnc, hc, by rw [hsz]; exact HSZ.out, htk⟩⟩
theorem heldWorkDeedS_own (v : Value) (n : Nat) (base : Nat) (k0 : Int) (hk0 : 1 ≤ k0) (hk1 : k0 ≤ 100000000) (w : World) (hn : n ≤ 1048576) (hr : OwnH w base v (marksH k0 n)) :
    Calls Try.prog 30 #[v, .int .i64 k0] w fun e w' => e = .returned (.int .i64 (k0 + 3 * n)) ∧ w = w' := by
  obtain ⟨A, c, rfl, HA⟩ := hr.row
  rw [marksH_len] at *
  have HC := Lib.hid HA
  clear HA hr
  go_enter Try.func30, Try.ntmps30
  go_wp2
  go_loop [5, 1] (fun i j => ∃ k : Nat, k ≤ n ∧ i = .int .i64 k ∧ j = .int .i64 (k0 + 3 * k)) (fun i _ => n - (intOf i).toNat)
  case atStart => exact ⟨0, by omega, rfl, by simp⟩
  case round =>
    obtain ⟨k, hk, rfl, rfl⟩ := hrel
    by_cases hlt : k < n
    · obtain ⟨b, off, rfl, hb, HD⟩ := HC.out.2 (by omega)
      obtain ⟨g0, g1, g2⟩ := HD k _ (marksH_get hlt)
      simp only [mkH] at g0 g1 g2
      clear HD
      go_wp2
      go_round
      case rel => exact ⟨k + 1, by omega, by go_num, by go_num⟩
      case measure => simp [intOf]; omega
    · go_wp2
      go_ret
      obtain rfl : k = n := by omega
      exact ⟨rfl, rfl⟩
end Go.Proofs.Ytafgfhjlkdjngaa
