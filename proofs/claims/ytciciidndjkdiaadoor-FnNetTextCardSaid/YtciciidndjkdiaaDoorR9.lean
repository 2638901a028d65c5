/- Both readings are one; marks on the lines of a network of the call's own. -/
import Derived.Test.YtciciidndjkdiaaDoorR4
import Derived.Test.YtciciidndjkdiaaDoorB1
import Derived.Test.YtciciidndjkdiaaDoorA4
namespace Go.Proofs.YtciciidndjkdiaaDoor
open Go.ChangeShapes Go.WideShapes Go.ChangeAt Go.RowKit

theorem addLine_list (s : ByteArray) (l : L3) : (addLine s l).data.toList = s.data.toList ++ 32 :: wordOf l := by
  simp [addLine, wordOf, chr, decStr]
theorem foldl_list (ls : List L3) : ∀ s : ByteArray, (ls.foldl addLine s).data.toList = s.data.toList ++ ls.flatMap fun l => 32 :: wordOf l := by
  induction ls with
  | nil => intro s; simp
  | cons l ls ih => intro s; rw [List.foldl_cons, ih, addLine_list, List.flatMap_cons, List.append_assoc]
theorem textF_list {bs : Int} {ls : List L3} (h : netOk bs ls = true) : (textF bs ls).data.toList = listOf bs ls := by
  rw [textF, if_pos h, textTo, List.take_length, foldl_list]; rfl
theorem cand_eq (s : ByteArray) : resF (candP s.data.toList) s = resF (candS s.data.toList) s := by
  by_cases h : ∃ bs ls, netOk bs ls = true ∧ textF bs ls = s
  · obtain ⟨bs, ls, h1, h2⟩ := h
    subst h2
    rw [textF_list h1, candP_text h1, candS_text h1]
  · have no : ∀ c : Int × List L3, resF c s = none := fun c => by
      rw [resF, if_neg]; exact fun hh => h ⟨c.1, c.2, hh⟩
    rw [no, no]
def readF (s : ByteArray) : Option (Int × List L3) := resF (candS s.data.toList) s
theorem readF_some {s : ByteArray} {c : Int × List L3} (h : readF s = some c) : netOk c.1 c.2 = true ∧ textF c.1 c.2 = s := by
  rw [readF, resF] at h
  split at h
  · rename_i h1; injection h with h; subst h; exact h1
  · cases h
theorem readF_text {bs : Int} {ls : List L3} (h : netOk bs ls = true) : readF (textF bs ls) = some (bs, ls) := by
  rw [readF, textF_list h, candS_text h, resF, if_pos ⟨h, rfl⟩]

/-! Marks -/
def mkL (k0 : Int) (i : Nat) : L3 := (k0 + 3 * (i : Int), k0 + 3 * (i : Int) + 1, k0 + 3 * (i : Int) + 2)
def marksL (k0 : Int) (n : Nat) : List L3 := (List.range n).map (mkL k0)
theorem marksL_len (k0 : Int) (n : Nat) : (marksL k0 n).length = n := by simp [marksL]
theorem marksL_succ (k0 : Int) (n : Nat) : marksL k0 (n + 1) = marksL k0 n ++ [mkL k0 n] := by rw [marksL, List.range_succ, List.map_append]; rfl
theorem marksL_get {k0 : Int} {n j : Nat} (h : j < n) : (marksL k0 n)[j]? = some (mkL k0 j) := by rw [marksL, List.getElem?_map, List.getElem?_range h]; rfl
theorem take_set3 (cu : Array Value) (k : Nat) (a b c : Value) (h : k * 3 + 2 < cu.size) : (((cu.setIfInBounds (k * 3) a).setIfInBounds (k * 3 + 1) b).setIfInBounds (k * 3 + 2) c).toList.take ((k + 1) * 3) = cu.toList.take (k * 3) ++ [a, b, c] := by
  rw [show (k + 1) * 3 = k * 3 + 2 + 1 by omega, take_set1 _ _ _ (by simp; omega), take_set1 _ _ _ (by simp; omega), take_set1 _ _ _ (by omega)]
  simp
theorem markLineS_own (v : Value) (ls : List L3) (base : Nat) (k0 : Int) (hk0 : 1 ≤ k0) (hk1 : k0 ≤ 100000000) (w : World) (hn : ls.length ≤ 1048576) (hr : OwnL w base v ls) :
    Calls Tryd.prog 39 #[v, .int .i64 k0] w fun e w' => e = .returned (.int .i64 (k0 + 3 * ls.length)) ∧ OwnL w' base v (marksL k0 ls.length) ∧ w.grownBy w' v.ownBlock := by
  rcases hr.2 with ⟨rfl, hz⟩ | ⟨g, cap, cur, rfl, hb, hg, hnc, hc, hsz, ht⟩
  · have hx : ls = [] := List.eq_nil_of_length_eq_zero hz
    subst hx
    go_enter Tryd.func39, Tryd.ntmps39
    go_wp2
    go_loop [5, 1] (fun i j => i = .int .i64 0 ∧ j = .int .i64 k0) (fun _ _ => 0)
    case atStart => exact ⟨rfl, rfl⟩
    case round =>
      obtain ⟨rfl, rfl⟩ := hrel
      go_wp2
      go_ret
      exact ⟨retI (by simp), hr, World.grownBy.refl _ _⟩
  · generalize hlen : ls.length = n at *
    have HG := Lib.hid (show IsBlk w g 46 cur from hg)
    have hcur : 3 * n ≤ cur.size := by omega
    have HSZ := Lib.hid hsz
    clear hr hg ht hlen hsz
    go_enter Tryd.func39, Tryd.ntmps39
    go_wp2
    go_loopw [5, 1] (fun i j wr => ∃ k : Nat, k ≤ n ∧ i = .int .i64 k ∧ j = .int .i64 (k0 + 3 * k) ∧ w.grownBy wr (some g) ∧ ∃ cu : Array Value, IsBlk wr g 46 cu ∧ cu.size = cur.size ∧ cu.toList.take (k * 3) = (marksL k0 k).flatMap fL) (fun i _ _ => n - (intOf i).toNat)
    case atStart => exact ⟨0, by omega, rfl, by simp, World.grownBy.refl _ _, cur, HG.out, rfl, by simp [marksL]⟩
    case round =>
      obtain ⟨k, hk, rfl, rfl, hgr, cu, hblk, hsz, htk⟩ := hrel
      by_cases hlt : k < n
      · have hkc : k * 3 + 2 < cu.size := by omega
        have one : ∀ j, j < 3 * n → ∃ u, wr.cell? ⟨g, j, none⟩ = some u := fun j hj => ⟨cu[j]'(by omega), (hblk.cell j).trans (Array.getElem?_eq_getElem (by omega))⟩
        obtain ⟨u0, c0⟩ := one (k * 3) (by omega)
        obtain ⟨u1, c1⟩ := one (k * 3 + 1) (by omega)
        obtain ⟨u2, c2⟩ := one (k * 3 + 2) (by omega)
        have f0 : wr.frozen? ⟨g, k * 3, none⟩ = false := hblk.thaw _
        have f1 : wr.frozen? ⟨g, k * 3 + 1, none⟩ = false := hblk.thaw _
        have f2 : wr.frozen? ⟨g, k * 3 + 2, none⟩ = false := hblk.thaw _
        have HB := Lib.hid hblk
        have HS := Lib.hid hsz
        have HK := Lib.hid htk
        clear hblk hsz htk one
        go_wp2
        go_roundw
        case rel =>
          refine ⟨k + 1, by omega, by go_num, by go_num, grown_then (grown_then (grown_then hgr (grown_put _ _ _ _)) (grown_put _ _ _ _)) (grown_put _ _ _ _), _, ((HB.out.put _ _).put _ _).put _ _, by simp [HS.out], ?_⟩
          rw [take_set3 _ _ _ _ _ hkc, HK.out, marksL_succ, List.flatMap_append, List.flatMap_singleton]
          simp [fL, mkL]
          omega
        case measure => simp [intOf]; omega
      · go_wp2
        go_ret
        obtain rfl : k = n := by omega
        refine ⟨rfl, ?_, hgr⟩
        show World.ownsRow _ _ _ _ _ (marksL k0 k).length _
        rw [marksL_len]
        exact ⟨by rw [flat_len fL_len, marksL_len], .inr ⟨g, cap, cu, rfl, hb, hblk, hnc, hc, by rw [hsz]; exact HSZ.out, htk⟩⟩
theorem heldLineS_own (v : Value) (m : Nat) (base : Nat) (k0 : Int) (hk0 : 1 ≤ k0) (hk1 : k0 ≤ 100000000) (w : World) (hn : m ≤ 1048576) (hr : OwnL w base v (marksL k0 m)) :
    Calls Tryd.prog 40 #[v, .int .i64 k0] w fun e w' => e = .returned (.int .i64 (k0 + 3 * m)) ∧ w = w' := by
  obtain ⟨A, c, rfl, HA⟩ := hr.row
  rw [marksL_len] at *
  have HC := Lib.hid HA
  clear HA hr
  go_enter Tryd.func40, Tryd.ntmps40
  go_wp2
  go_loop [5, 1] (fun i j => ∃ k : Nat, k ≤ m ∧ i = .int .i64 k ∧ j = .int .i64 (k0 + 3 * k)) (fun i _ => m - (intOf i).toNat)
  case atStart => exact ⟨0, by omega, rfl, by simp⟩
  case round =>
    obtain ⟨k, hk, rfl, rfl⟩ := hrel
    by_cases hlt : k < m
    · obtain ⟨b, off, rfl, hb, HD⟩ := HC.out.2 (by omega)
      obtain ⟨g0, g1, g2⟩ := HD k _ (marksL_get hlt)
      simp only [mkL] at g0 g1 g2
      clear HD
      go_wp2
      go_round
      case rel => exact ⟨k + 1, by omega, by go_num, by go_num⟩
      case measure => simp [intOf]; omega
    · go_wp2
      go_ret
      obtain rfl : k = m := by omega
      exact ⟨rfl, rfl⟩
theorem markNet_own (bs : Int) (v : Value) (ls : List L3) (base : Nat) (w : World) (hn : ls.length ≤ 1048576) (hr : OwnL w base v ls) :
    Calls Tryd.prog 20 #[.agg #[.int .i64 bs, v], .int .i64 1] w fun e w' => e = .returned (.int .i64 (1 + 3 * ls.length)) ∧ OwnL w' base v (marksL 1 ls.length) ∧ w.grownBy w' v.ownBlock := by
  have HR := Lib.hid (hr.keep (below_bx w (.cells #[.int .i64 bs, v] 25)))
  obtain ⟨A, c, rfl, _⟩ := hr.row
  have HX := Lib.hid hr
  clear hr
  generalize hm : ls.length = m at *
  have HM := Lib.hid hm
  clear hm
  go_enter Tryd.func20, Tryd.ntmps20
  go_wp2_with fail
  refine (markLineS_own _ ls base 1 (by omega) (by omega) _ (by rw [HM.out]; exact hn) HR.out).mono ?_
  rw [HM.out]
  rintro e w1 ⟨rfl, ho, hg⟩
  have HO := Lib.hid ho
  have HG := Lib.hid hg
  clear ho hg
  go_wp2
  go_ret
  refine ⟨rfl, HO.out, ?_⟩
  have hg := HG.out
  refine ⟨hg.os, hg.tape, hg.output, by have := hg.size; simp at this; omega, fun i hi hne => ?_⟩
  exact (hg.block i (by simp; omega) hne).trans (Below.heap_alloc w _ i hi)
theorem heldNet_own (bs : Int) (v : Value) (m : Nat) (base : Nat) (w : World) (hn : m ≤ 1048576) (hr : OwnL w base v (marksL 1 m)) :
    Calls Tryd.prog 21 #[.agg #[.int .i64 bs, v], .int .i64 1] w fun e w' => e = .returned (.int .i64 (1 + 3 * m)) ∧ Below w.heap.size w w' := by
  have HR := Lib.hid (hr.keep (below_bx w (.cells #[.int .i64 bs, v] 25)))
  obtain ⟨A, c, rfl, _⟩ := hr.row
  rw [marksL_len] at *
  clear hr
  have hpos : ¬ (1 : Int) + 3 * (m : Int) < 0 := by omega
  go_enter Tryd.func21, Tryd.ntmps21
  go_wp2_with fail
  refine (heldLineS_own _ m base 1 (by omega) (by omega) _ hn HR.out).mono ?_
  rintro e w' ⟨rfl, rfl⟩
  go_wp2
  go_ret
  exact ⟨rfl, below_bx _ _⟩
end Go.Proofs.YtciciidndjkdiaaDoor
