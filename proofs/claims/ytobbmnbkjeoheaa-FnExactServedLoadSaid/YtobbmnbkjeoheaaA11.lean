/- Marks and marks held, of slices of ints and of lines; equal slices of ints. -/
import Derived.Test.YtobbmnbkjeoheaaA4
import Derived.OwnWalk
import Derived.Deep.QuietTactic
import Derived.BigQuiet
namespace Go.Proofs.Ytobbmnbkjeoheaa
open Go.ChangeShapes Go.WideShapes Go.ChangeAt Go.RowKit

/-- A slice of ints that is read: nil and empty, or a row at a block's head. -/
def RowI (w : World) (v : Value) (xs : List Int) : Prop :=
  ∃ A c, v = .slice A xs.length c ∧ (0 < xs.length → ∃ g, A = some ⟨g, 0, none⟩ ∧ g < w.heap.size ∧ ∀ k x, xs[k]? = some x → w.cell? ⟨g, 0 + k, none⟩ = some (.int .i64 x))
theorem OwnI.row {e : TypeId} {w : World} {base : Nat} {v : Value} {xs : List Int} (h : OwnI e w base v xs) : RowI w v xs := by
  rcases h.2 with ⟨rfl, h0⟩ | ⟨g, cap, cur, rfl, hb, hg, hn, hc, hsz, ht⟩
  · exact ⟨none, 0, by rw [h0], fun hp => absurd hp (by omega)⟩
  · refine ⟨some ⟨g, 0, none⟩, cap, rfl, fun _ => ⟨g, rfl, (Array.getElem?_eq_some_iff.1 hg).1, fun k x hk => ?_⟩⟩
    have hlt : k < xs.length := (List.getElem?_eq_some_iff.1 hk).1
    rw [cell_of_row w g _ cur e (0, 0) hg, Nat.zero_add, ← Array.getElem?_toList]
    have : (cur.toList.take (xs.length * 1))[k]? = some (.int .i64 x) := by rw [ht, List.getElem?_map, hk]; rfl
    rwa [List.getElem?_take_of_lt (by omega)] at this

theorem take_put (cu : Array Value) (k : Nat) (u : Value) (h : k < cu.size) : (cu.setIfInBounds k u).toList.take (k + 1) = cu.toList.take k ++ [u] := by
  have hl : k < cu.toList.length := by simpa using h
  rw [Array.toList_setIfInBounds, List.take_add_one, List.take_set_of_le (Nat.le_refl _), List.getElem?_set_self hl]; rfl

theorem eqIntS_same (v v' : Value) (xs : List Int) (w : World) (hn : xs.length ≤ 1048576) (hr : RowI w v xs) (hr' : RowI w v' xs) :
    Calls Try.prog 24 #[v, v'] w fun e w' => e = .returned (.bool true) ∧ Below w.heap.size w w' := by
  obtain ⟨A, c, rfl, HA⟩ := hr
  obtain ⟨A', c', rfl, HA'⟩ := hr'
  generalize hn' : xs.length = n at *
  have HL := Lib.hid hn'
  have HC := Lib.hid HA
  have HC' := Lib.hid HA'
  clear HA HA' hn'
  go_enter Try.func24, Try.ntmps24
  go_wp2
  go_loopw [5] (fun i wr => ∃ k : Nat, k ≤ n ∧ i = .int .i64 k ∧ Below w.heap.size w wr) (fun i _ => n - (intOf i).toNat)
  case atStart => exact ⟨0, by omega, rfl, Below.refl _ _⟩
  case round =>
    obtain ⟨k, hk, rfl, hbel⟩ := hrel
    by_cases hlt : k < n
    · obtain ⟨g, rfl, hb, HD⟩ := HC.out (by omega)
      obtain ⟨g', rfl, hb', HD'⟩ := HC'.out (by omega)
      have hkl : xs[k]? = some (xs[k]'(by have := HL.out; omega)) := List.getElem?_eq_getElem _
      generalize (xs[k]'(by have := HL.out; omega)) = x at hkl
      have g0 := HD k x hkl
      have g0' := HD' k x hkl
      rw [← hbel.cell (p := ⟨g, 0 + k, none⟩) hb] at g0
      rw [← hbel.cell (p := ⟨g', 0 + k, none⟩) hb'] at g0'
      simp only [Nat.zero_add] at g0 g0'
      clear hkl HD HD'
      have i0 : (0 : Int) ≤ (k : Int) := by omega
      have i1 : (k : Int) < (n : Int) := by omega
      go_wp2
      go_quiet (fail)
      go_wp2
      go_roundw
      case rel => exact ⟨k + 1, by omega, by go_num, below_drewN hbel _⟩
      case measure => simp [intOf]; omega
    · go_wp2
      go_ret
      exact ⟨rfl, hbel⟩

/-- The numbers from k on. -/
def fromI (k : Int) (n : Nat) : List Int := (List.range n).map fun j => k + Int.ofNat j
theorem fromI_succ (k : Int) (n : Nat) : fromI k (n + 1) = fromI k n ++ [k + (n : Int)] := by rw [fromI, List.range_succ, List.map_append]; rfl
theorem fromI_get {k : Int} {n j : Nat} (h : j < n) : (fromI k n)[j]? = some (k + (j : Int)) := by rw [fromI, List.getElem?_map, List.getElem?_range h]; rfl
theorem fromI_len (k : Int) (n : Nat) : (fromI k n).length = n := by simp [fromI]

/-- Marks are written into a slice of the call's own: nothing else turns. -/
theorem markIntS_any (v : Value) (xs : List Int) (base : Nat) (k0 : Int) (h0 : k0 = 1) (w : World) (hn : xs.length ≤ 1048576) (hr : OwnI 3 w base v xs) :
    Calls Try.prog 28 #[v, .int .i64 k0] w fun e w' => e = .returned (.int .i64 (1 + xs.length)) ∧ OwnI 3 w' base v (fromI 1 xs.length) ∧ w.grownBy w' v.ownBlock := by
  subst h0
  rcases hr.2 with ⟨rfl, hz⟩ | ⟨g, cap, cur, rfl, hb, hg, hnc, hc, hsz, ht⟩
  · have hx : xs = [] := List.eq_nil_of_length_eq_zero hz
    subst hx
    go_enter Try.func28, Try.ntmps28
    go_wp2
    go_loop [5, 1] (fun i j => i = .int .i64 0 ∧ j = .int .i64 1) (fun _ _ => 0)
    case atStart => exact ⟨rfl, rfl⟩
    case round =>
      obtain ⟨rfl, rfl⟩ := hrel
      go_wp2
      go_ret
      exact ⟨rfl, hr, World.grownBy.refl _ _⟩
  · generalize hlen : xs.length = n at *
    have HR := Lib.hid hr
    have HG := Lib.hid (show IsBlk w g 3 cur from hg)
    have hcur : n ≤ cur.size := by omega
    have HT := Lib.hid ht
    have HLN := Lib.hid hlen
    clear hr hg ht hlen hsz
    go_enter Try.func28, Try.ntmps28
    go_wp2
    go_loopw [5, 1] (fun i j wr => ∃ k : Nat, k ≤ n ∧ i = .int .i64 k ∧ j = .int .i64 ((1 : Int) + k) ∧ w.grownBy wr (some g) ∧ ∃ cu : Array Value, IsBlk wr g 3 cu ∧ cu.size = cur.size ∧ cu.toList.take k = (fromI 1 k).map (Value.int .i64)) (fun i _ _ => n - (intOf i).toNat)
    case atStart => exact ⟨0, by omega, rfl, rfl, World.grownBy.refl _ _, cur, HG.out, rfl, by simp [fromI]⟩
    case round =>
      obtain ⟨k, hk, rfl, rfl, hgr, cu, hblk, hsz, htk⟩ := hrel
      by_cases hlt : k < n
      · have hkc : k < cu.size := by omega
        have c0 : wr.cell? ⟨g, k, none⟩ = some cu[k] := (hblk.cell k).trans (Array.getElem?_eq_getElem hkc)
        have f0 : wr.frozen? ⟨g, k, none⟩ = false := hblk.thaw k
        generalize cu[k] = u at c0
        have HB := Lib.hid hblk
        have HS := Lib.hid hsz
        have HK := Lib.hid htk
        clear hblk hsz htk
        go_wp2
        go_roundw
        case rel =>
          refine ⟨k + 1, by omega, by go_num, by go_num, grown_then hgr (grown_put _ _ _ _), _, HB.out.put k _, by simp [HS.out], ?_⟩
          rw [take_put _ _ _ hkc, HK.out, fromI_succ, List.map_append]; rfl
        case measure => simp [intOf]; omega
      · go_wp2
        go_ret
        obtain rfl : k = n := by omega
        refine ⟨rfl, ?_, hgr⟩
        have hown : World.ownsRow w base 3 1 (.slice (some ⟨g, 0, none⟩) k cap) k (xs.map (Value.int .i64)) := by have h := HR.out; rw [OwnI, HLN.out] at h; exact h
        obtain ⟨_, hz | ⟨g1, cap1, cur1, he, _, hg1, _, _, hs1, _⟩⟩ := hown
        · cases hz.1
        · injection he with he1 he2 he3
          injection he1 with he1
          injection he1 with he1
          subst he1 he3
          have hcc : cur1 = cur := by
            have := HG.out; rw [IsBlk, hg1] at this; injection this with this; injection this
          subst hcc
          show World.ownsRow _ _ _ _ _ (fromI 1 k).length _
          rw [fromI_len]
          exact ⟨by simp [fromI_len], .inr ⟨g, cap, cu, rfl, hb, hblk, hnc, hc, by rw [hsz]; exact hs1, by rw [Nat.mul_one]; exact htk⟩⟩

theorem heldIntS_any (v : Value) (m : Nat) (k0 : Int) (h0 : k0 = 1) (w : World) (hn : m ≤ 1048576) (hr : RowI w v (fromI 1 m)) :
    Calls Try.prog 29 #[v, .int .i64 k0] w fun e w' => e = .returned (.int .i64 (1 + m)) ∧ w = w' := by
  subst h0
  obtain ⟨A, c, rfl, HA⟩ := hr
  rw [fromI_len] at *
  have HC := Lib.hid HA
  clear HA
  go_enter Try.func29, Try.ntmps29
  go_wp2
  go_loop [5, 1] (fun i j => ∃ k : Nat, k ≤ m ∧ i = .int .i64 k ∧ j = .int .i64 ((1 : Int) + k)) (fun i _ => m - (intOf i).toNat)
  case atStart => exact ⟨0, by omega, rfl, rfl⟩
  case round =>
    obtain ⟨k, hk, rfl, rfl⟩ := hrel
    by_cases hlt : k < m
    · obtain ⟨g, rfl, hb, HD⟩ := HC.out (by omega)
      have g0 := HD k _ (fromI_get hlt)
      simp only [Nat.zero_add] at g0
      clear HD
      go_wp2
      go_round
      case rel => exact ⟨k + 1, by omega, by go_num, by go_num⟩
      case measure => simp [intOf]; omega
    · go_wp2
      go_ret
      obtain rfl : k = m := by omega
      exact ⟨rfl, rfl⟩

theorem markLineS_any (g n c : Nat) (ls : List L3) (k0 : Int) (h0 : k0 = 1) (w : World) (hn : n ≤ 1048576) (hl : ls.length = n) (hr : IsBlk w g 68 (rowArr fL ls)) :
    Calls Try.prog 45 #[.slice (some ⟨g, 0, none⟩) n c, .int .i64 k0] w fun e w' => e = .returned (.int .i64 (1 + 3 * n)) ∧ w.grownBy w' (some g) := by
  subst h0
  have hsz0 : (rowArr fL ls).size = 3 * n := by
    subst hl; clear hr hn
    rw [rowArr, List.size_toArray, flat_len fL_len]; omega
  generalize rowArr fL ls = arr at *
  have HR := Lib.hid hr
  have HS0 := Lib.hid hsz0
  clear hr hsz0 hl
  go_enter Try.func45, Try.ntmps45
  go_wp2
  go_loopw [5, 1] (fun i j wr => ∃ k : Nat, k ≤ n ∧ i = .int .i64 k ∧ j = .int .i64 ((1 : Int) + 3 * k) ∧ w.grownBy wr (some g) ∧ ∃ cu : Array Value, IsBlk wr g 68 cu ∧ cu.size = 3 * n) (fun i _ _ => n - (intOf i).toNat)
  case atStart => exact ⟨0, by omega, rfl, rfl, World.grownBy.refl _ _, arr, HR.out, HS0.out⟩
  case round =>
    obtain ⟨k, hk, rfl, rfl, hgr, cu, hblk, hsz⟩ := hrel
    by_cases hlt : k < n
    · have one : ∀ j, j < 3 * n → ∃ u, wr.cell? ⟨g, j, none⟩ = some u := fun j hj => ⟨cu[j]'(by omega), (hblk.cell j).trans (Array.getElem?_eq_getElem (by omega))⟩
      obtain ⟨u0, c0⟩ := one (k * 3) (by omega)
      obtain ⟨u1, c1⟩ := one (k * 3 + 1) (by omega)
      obtain ⟨u2, c2⟩ := one (k * 3 + 2) (by omega)
      have f0 : wr.frozen? ⟨g, k * 3, none⟩ = false := hblk.thaw _
      have f1 : wr.frozen? ⟨g, k * 3 + 1, none⟩ = false := hblk.thaw _
      have f2 : wr.frozen? ⟨g, k * 3 + 2, none⟩ = false := hblk.thaw _
      have HB := Lib.hid hblk
      have HS := Lib.hid hsz
      clear hblk hsz one
      go_wp2
      go_roundw
      case rel =>
        refine ⟨k + 1, by omega, by go_num, by go_num, grown_then (grown_then (grown_then hgr (grown_put _ _ _ _)) (grown_put _ _ _ _)) (grown_put _ _ _ _), _, ((HB.out.put _ _).put _ _).put _ _, by simp [HS.out]⟩
      case measure => simp [intOf]; omega
    · go_wp2
      go_ret
      obtain rfl : k = n := by omega
      exact ⟨rfl, hgr⟩

theorem markNet_any (bs : Int) (g n c : Nat) (ls : List L3) (k0 : Int) (h0 : k0 = 1) (w : World) (hn : n ≤ 1048576) (hl : ls.length = n) (hr : IsBlk w g 68 (rowArr fL ls)) :
    Calls Try.prog 25 #[.agg #[.int .i64 bs, .slice (some ⟨g, 0, none⟩) n c], .int .i64 k0] w fun e w' => e = .returned (.int .i64 (1 + 3 * n)) ∧ w.grownBy w' (some g) := by
  subst h0
  go_enter Try.func25, Try.ntmps25
  go_wp2_with fail
  refine (markLineS_any g n c ls 1 rfl _ hn hl (hr.alloc _)).mono ?_
  rintro e w1 ⟨rfl, hg1⟩
  go_wp2
  go_ret
  exact ⟨rfl, grown_then (grown_alloc w _ _) hg1⟩
end Go.Proofs.Ytobbmnbkjeoheaa
