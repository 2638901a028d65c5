/- Texts joined: Comparisons of the exact laws, at equal values: they answer true; Marks and marks held, of slices of ints and of lines; equal slices of ints; Conversions, comparisons and marks of the exact laws at slices of truths, and of numbers that come in; Slices of numbers in the exact laws: conversion, marks from any number on; Changes, of the program and of the model; Copies of states, and SwitchLine, of the program and of the model. -/
import Derived.Test.YtafgfhjlkdjngaaBCA
import Derived.Deep.RegionWith
import Derived.OwnWalk
import Derived.Deep.QuietTactic
import Derived.BigQuiet
import Derived.Test.YtafgfhjlkdjngaaBPA
import Derived.Laws.MakeOwn
import Derived.Maps.AppendAt
import Derived.Outline
import Derived.Laws.CopyOwn

/- Comparisons of the exact laws, at equal values: they answer true. -/
namespace Go.Proofs.Ytafgfhjlkdjngaa
open Go.ChangeShapes Go.WideShapes Go.ChangeAt Go.RowKit

end Go.Proofs.Ytafgfhjlkdjngaa

/- Marks and marks held, of slices of ints and of lines; equal slices of ints. -/
namespace Go.Proofs.Ytafgfhjlkdjngaa
open Go.ChangeShapes Go.WideShapes Go.ChangeAt Go.RowKit

/-- A slice of ints that is read: nil and empty, or a row at a block's head. -/
def RowI (w : World) (v : Value) (xs : List Int) : Prop :=
  ∃ A c, v = .slice A xs.length c ∧ (0 < xs.length → ∃ g, A = some ⟨g, 0, none⟩ ∧ g < w.heap.size ∧ ∀ k x, xs[k]? = some x → w.cell? ⟨g, 0 + k, none⟩ = some (.int .i64 x))
theorem OwnI.row {e : TypeId} {w : World} {base : Nat} {v : Value} {xs : List Int} (h : OwnI e w base v xs) : RowI w v xs := by
  rcases h.2 with ⟨rfl, h0⟩ | ⟨g, cap, cur, rfl, hb, hg, hn, hc, hsz, ht⟩
  · exact ⟨none, 0, by rw [h0], fun hp => absurd hp (by omega)⟩
  · refine ⟨some ⟨g, 0, none⟩, cap, rfl, fun _ => ⟨g, rfl, (Array.getElem?_eq_some_iff.1 hg).1, fun k x hk => ?_⟩⟩
    have hlt : k < xs.length := (List.getElem?_eq_some_iff.1 hk).1
    rw [cell_of_row w g _ cur e (0, 0) hg, Nat.zero_add, ← Array.getElem?_toList]
    have : (cur.toList.take (xs.length * 1))[k]? = some (.int .i64 x) := by rw [ht, List.getElem?_map, hk]; rfl
    rwa [List.getElem?_take_of_lt (by omega)] at this

theorem take_put (cu : Array Value) (k : Nat) (u : Value) (h : k < cu.size) : (cu.setIfInBounds k u).toList.take (k + 1) = cu.toList.take k ++ [u] := by
  have hl : k < cu.toList.length := by simpa using h
  rw [Array.toList_setIfInBounds, List.take_add_one, List.take_set_of_le (Nat.le_refl _), List.getElem?_set_self hl]; rfl

theorem eqIntS_same (v v' : Value) (xs : List Int) (w : World) (hn : xs.length ≤ 1048576) (hr : RowI w v xs) (hr' : RowI w v' xs) :
    Calls Try.prog 13 #[v, v'] w fun e w' => e = .returned (.bool true) ∧ Below w.heap.size w w' := by
  obtain ⟨A, c, rfl, HA⟩ := hr
  obtain ⟨A', c', rfl, HA'⟩ := hr'
  generalize hn' : xs.length = n at *
  have HL := Lib.hid hn'
  have HC := Lib.hid HA
  have HC' := Lib.hid HA'
  clear HA HA' hn'
  go_enter Try.func13, Try.ntmps13
  go_wp2
  go_loopw [5] (fun i wr => ∃ k : Nat, k ≤ n ∧ i = .int .i64 k ∧ Below w.heap.size w wr) (fun i _ => n - (intOf i).toNat)
  case atStart => exact ⟨0, by omega, rfl, Below.refl _ _⟩
  case round =>
    obtain ⟨k, hk, rfl, hbel⟩ := hrel
    by_cases hlt : k < n
    · obtain ⟨g, rfl, hb, HD⟩ := HC.out (by omega)
      obtain ⟨g', rfl, hb', HD'⟩ := HC'.out (by omega)
      have hkl : xs[k]? = some (xs[k]'(by have := HL.out; omega)) := List.getElem?_eq_getElem _
      generalize (xs[k]'(by have := HL.out; omega)) = x at hkl
      have g0 := HD k x hkl
      have g0' := HD' k x hkl
      rw [← hbel.cell (p := ⟨g, 0 + k, none⟩) hb] at g0
      rw [← hbel.cell (p := ⟨g', 0 + k, none⟩) hb'] at g0'
      simp only [Nat.zero_add] at g0 g0'
      clear hkl HD HD'
      have i0 : (0 : Int) ≤ (k : Int) := by omega
      have i1 : (k : Int) < (n : Int) := by omega
      go_wp2
      go_quiet (fail)
      go_wp2
      go_roundw
      case rel => exact ⟨k + 1, by omega, by go_num, below_drewN hbel _⟩
      case measure => simp [intOf]; omega
    · go_wp2
      go_ret
      exact ⟨rfl, hbel⟩

/-- The numbers from k on. -/
def fromI (k : Int) (n : Nat) : List Int := (List.range n).map fun j => k + Int.ofNat j
theorem fromI_succ (k : Int) (n : Nat) : fromI k (n + 1) = fromI k n ++ [k + (n : Int)] := by rw [fromI, List.range_succ, List.map_append]; rfl
theorem fromI_get {k : Int} {n j : Nat} (h : j < n) : (fromI k n)[j]? = some (k + (j : Int)) := by rw [fromI, List.getElem?_map, List.getElem?_range h]; rfl
theorem fromI_len (k : Int) (n : Nat) : (fromI k n).length = n := by simp [fromI]

/-- Marks are written into a slice of the call's own: nothing else turns. -/
theorem markIntS_any (v : Value) (xs : List Int) (base : Nat) (k0 : Int) (h0 : k0 = 1) (w : World) (hn : xs.length ≤ 1048576) (hr : OwnI 3 w base v xs) :
    Calls Try.prog 15 #[v, .int .i64 k0] w fun e w' => e = .returned (.int .i64 (1 + xs.length)) ∧ OwnI 3 w' base v (fromI 1 xs.length) ∧ w.grownBy w' v.ownBlock := by
  subst h0
  rcases hr.2 with ⟨rfl, hz⟩ | ⟨g, cap, cur, rfl, hb, hg, hnc, hc, hsz, ht⟩
  · have hx : xs = [] := List.eq_nil_of_length_eq_zero hz
    subst hx
    go_enter Try.func15, Try.ntmps15
    go_wp2
    go_loop [5, 1] (fun i j => i = .int .i64 0 ∧ j = .int .i64 1) (fun _ _ => 0)
    case atStart => exact ⟨rfl, rfl⟩
    case round =>
      obtain ⟨rfl, rfl⟩ := hrel
      go_wp2
      go_ret
      exact ⟨rfl, hr, World.grownBy.refl _ _⟩
  · generalize hlen : xs.length = n at *
    have HR := Lib.hid hr
    have HG := Lib.hid (show IsBlk w g 3 cur from hg)
    have hcur : n ≤ cur.size := by omega
    have HT := Lib.hid ht
    have HLN := Lib.hid hlen
    clear hr hg ht hlen hsz
    go_enter Try.func15, Try.ntmps15
    go_wp2
    go_loopw [5, 1] (fun i j wr => ∃ k : Nat, k ≤ n ∧ i = .int .i64 k ∧ j = .int .i64 ((1 : Int) + k) ∧ w.grownBy wr (some g) ∧ ∃ cu : Array Value, IsBlk wr g 3 cu ∧ cu.size = cur.size ∧ cu.toList.take k = (fromI 1 k).map (Value.int .i64)) (fun i _ _ => n - (intOf i).toNat)
    case atStart => exact ⟨0, by omega, rfl, rfl, World.grownBy.refl _ _, cur, HG.out, rfl, by simp [fromI]⟩
    case round =>
      obtain ⟨k, hk, rfl, rfl, hgr, cu, hblk, hsz, htk⟩ := hrel
      by_cases hlt : k < n
      · have hkc : k < cu.size := by omega
        have c0 : wr.cell? ⟨g, k, none⟩ = some cu[k] := (hblk.cell k).trans (Array.getElem?_eq_getElem hkc)
        have f0 : wr.frozen? ⟨g, k, none⟩ = false := hblk.thaw k
        generalize cu[k] = u at c0
        have HB := Lib.hid hblk
        have HS := Lib.hid hsz
        have HK := Lib.hid htk
        clear hblk hsz htk
        go_wp2
        go_roundw
        case rel =>
          refine ⟨k + 1, by omega, by go_num, by go_num, grown_then hgr (grown_put _ _ _ _), _, HB.out.put k _, by simp [HS.out], ?_⟩
          rw [take_put _ _ _ hkc, HK.out, fromI_succ, List.map_append]; rfl
        case measure => simp [intOf]; omega
      · go_wp2
        go_ret
        obtain rfl : k = n := by omega
        refine ⟨rfl, ?_, hgr⟩
        have hown : World.ownsRow w base 3 1 (.slice (some ⟨g, 0, none⟩) k cap) k (xs.map (Value.int .i64)) := by have h := HR.out; rw [OwnI, HLN.out] at h; exact h
        obtain ⟨_, hz | ⟨g1, cap1, cur1, he, _, hg1, _, _, hs1, _⟩⟩ := hown
        · cases hz.1
        · injection he with he1 he2 he3
          injection he1 with he1
          injection he1 with he1
          subst he1 he3
          have hcc : cur1 = cur := by
            have := HG.out; rw [IsBlk, hg1] at this; injection this with this; injection this
          subst hcc
          show World.ownsRow _ _ _ _ _ (fromI 1 k).length _
          rw [fromI_len]
          exact ⟨by simp [fromI_len], .inr ⟨g, cap, cu, rfl, hb, hblk, hnc, hc, by rw [hsz]; exact hs1, by rw [Nat.mul_one]; exact htk⟩⟩

theorem heldIntS_any (v : Value) (m : Nat) (k0 : Int) (h0 : k0 = 1) (w : World) (hn : m ≤ 1048576) (hr : RowI w v (fromI 1 m)) :
    Calls Try.prog 25 #[v, .int .i64 k0] w fun e w' => e = .returned (.int .i64 (1 + m)) ∧ w = w' := by
  subst h0
  obtain ⟨A, c, rfl, HA⟩ := hr
  rw [fromI_len] at *
  have HC := Lib.hid HA
  clear HA
  go_enter Try.func25, Try.ntmps25
  go_wp2
  go_loop [5, 1] (fun i j => ∃ k : Nat, k ≤ m ∧ i = .int .i64 k ∧ j = .int .i64 ((1 : Int) + k)) (fun i _ => m - (intOf i).toNat)
  case atStart => exact ⟨0, by omega, rfl, rfl⟩
  case round =>
    obtain ⟨k, hk, rfl, rfl⟩ := hrel
    by_cases hlt : k < m
    · obtain ⟨g, rfl, hb, HD⟩ := HC.out (by omega)
      have g0 := HD k _ (fromI_get hlt)
      simp only [Nat.zero_add] at g0
      clear HD
      go_wp2
      go_round
      case rel => exact ⟨k + 1, by omega, by go_num, by go_num⟩
      case measure => simp [intOf]; omega
    · go_wp2
      go_ret
      obtain rfl : k = m := by omega
      exact ⟨rfl, rfl⟩

end Go.Proofs.Ytafgfhjlkdjngaa

/- Conversions, comparisons and marks of the exact laws at slices of truths, and of numbers that come in. -/
namespace Go.Proofs.Ytafgfhjlkdjngaa
open Go.ChangeShapes Go.WideShapes Go.ChangeAt Go.RowKit

theorem take_set1 (cu : Array Value) (k : Nat) (u : Value) (h : k < cu.size) : (cu.setIfInBounds k u).toList.take (k + 1) = cu.toList.take k ++ [u] := by
  have hl : k < cu.toList.length := by simpa using h
  rw [Array.toList_setIfInBounds, List.take_add_one, List.take_set_of_le (Nat.le_refl _), List.getElem?_set_self hl]; rfl

theorem boolInfo : (Try.prog.info? 4).map (fun i => (i.zero, i.size, i.bytes)) = some (some (.bool false), 1, 1) := by kernel_rfl
theorem makeBools (n : Nat) (hn : n ≤ 1048576) (w : World) : (Instr.makeSlice 36 (.int .i64 (n : Int)) (.int .i64 (n : Int))).run Try.prog w = .ok (.slice (some ⟨w.heap.size, 0, none⟩) n n) (w.alloc (.cells (madeCells (Value.bool false).cells n) 4)) := by
  obtain ⟨i0, hi, hz0, hz1, hz2⟩ := info_parts boolInfo
  have := run_make (P := Try.prog) w 36 4 i0 _ Try.underlying36 hi hz0 .i64 .i64 n n (by omega) (by omega) (by rw [hz2]; omega) (by omega)
  rw [this, Int.toNat_natCast, hz1, Nat.mul_one]

theorem toBoolS_any (A : Option Addr) (n c : Nat) (ts : List Bool) (w : World) (hn : n ≤ 1048576) (hr : RowT w A n ts) :
    Calls Try.prog 44 #[.slice A n c] w fun e w' => e = .returned (.slice (some ⟨w.heap.size, 0, none⟩) n n) ∧ OwnT w' w.heap.size (.slice (some ⟨w.heap.size, 0, none⟩) n n) ts ∧ Below w.heap.size w w' ∧ w.heap.size < w'.heap.size := by
  have hmk := makeBools n hn
  have HR := Lib.hid hr
  have HL := Lib.hid hr.len
  clear hr
  go_enter Try.func44, Try.ntmps44
  go_wp2
  clear hmk
  go_loopw [4] (fun i wr => ∃ k : Nat, k ≤ n ∧ i = .int .i64 k ∧ Below w.heap.size w wr ∧ ∃ cu : Array Value, IsBlk wr w.heap.size 4 cu ∧ cu.size = n ∧ cu.toList.take k = (ts.take k).map Value.bool) (fun i _ => n - (intOf i).toNat)
  case atStart => exact ⟨0, by omega, rfl, below_bx _ _, _, IsBlk.new w _ _, size_madeCells _ _, by simp⟩
  case round =>
    obtain ⟨k, hk, rfl, hbel, cu, hblk, hsz, htk⟩ := hrel
    by_cases hlt : k < n
    · obtain ⟨b, off, t, rfl, hb, hkt, g0⟩ := HR.out.at_ hlt
      rw [← hbel.cell (p := ⟨b, off + k, none⟩) hb] at g0
      have hkc : k < cu.size := by omega
      have c0 : wr.cell? ⟨w.heap.size, k, none⟩ = some cu[k] := (hblk.cell k).trans (Array.getElem?_eq_getElem hkc)
      have f0 : wr.frozen? ⟨w.heap.size, k, none⟩ = false := hblk.thaw k
      generalize cu[k] = u at c0
      have HB := Lib.hid hblk
      have HS := Lib.hid hsz
      have HK := Lib.hid htk
      have HT := Lib.hid hkt
      clear hblk hsz htk hkt
      go_wp2
      go_roundw
      case rel =>
        refine ⟨k + 1, by omega, by go_num, hbel.setCell (Nat.le_refl _) _, _, HB.out.put k _, by simp [HS.out], ?_⟩
        rw [take_set1 _ _ _ hkc, HK.out, List.take_add_one, HT.out, List.map_append]; rfl
      case measure => simp [intOf]; omega
    · go_wp2
      go_ret
      obtain rfl : k = n := by omega
      refine ⟨rfl, OwnT.mk HL.out (Nat.le_refl _) hblk (Nat.le_refl _) (by omega) ?_, hbel, hblk.lt⟩
      rw [htk, ← HL.out, List.take_length]

theorem eqBoolS_same (A A' : Option Addr) (n c c' : Nat) (ts : List Bool) (w : World) (hn : n ≤ 1048576) (hr : RowT w A n ts) (hr' : RowT w A' n ts) :
    Calls Try.prog 48 #[.slice A n c, .slice A' n c'] w fun e w' => e = .returned (.bool true) ∧ Below w.heap.size w w' := by
  have HR := Lib.hid hr
  have HR' := Lib.hid hr'
  clear hr hr'
  go_enter Try.func48, Try.ntmps48
  go_wp2
  go_loopw [5] (fun i wr => ∃ k : Nat, k ≤ n ∧ i = .int .i64 k ∧ Below w.heap.size w wr) (fun i _ => n - (intOf i).toNat)
  case atStart => exact ⟨0, by omega, rfl, Below.refl _ _⟩
  case round =>
    obtain ⟨k, hk, rfl, hbel⟩ := hrel
    by_cases hlt : k < n
    · obtain ⟨b, off, t, rfl, hb, hkt, g0⟩ := HR.out.at_ hlt
      obtain ⟨b', off', t', rfl, hb', hkt', g0'⟩ := HR'.out.at_ hlt
      rw [← hbel.cell (p := ⟨b, off + k, none⟩) hb] at g0
      rw [← hbel.cell (p := ⟨b', off' + k, none⟩) hb'] at g0'
      obtain rfl : t' = t := by rw [hkt] at hkt'; injection hkt' with h; exact h.symm
      clear hkt hkt'
      have i0 : (0 : Int) ≤ (k : Int) := by omega
      have i1 : (k : Int) < (n : Int) := by omega
      go_wp2
      go_quiet (fail)
      go_wp2
      go_roundw
      case rel => exact ⟨k + 1, by omega, by go_num, below_drewN hbel _⟩
      case measure => simp [intOf]; omega
    · go_wp2
      go_ret
      exact ⟨rfl, hbel⟩
theorem eqBoolS_own {v v' : Value} {ts : List Bool} {w : World} {b b' : Nat} (hn : ts.length ≤ 1048576) (h : OwnT w b v ts) (h' : OwnT w b' v' ts) :
    Calls Try.prog 48 #[v, v'] w fun e w' => e = .returned (.bool true) ∧ Below w.heap.size w w' := by
  obtain ⟨A, c, rfl, _, h1⟩ := h.row
  obtain ⟨A', c', rfl, _, h2⟩ := h'.row
  exact eqBoolS_same A A' _ c c' ts w hn h1 h2

/-- What marks write. -/
def marksT (k0 : Int) (n : Nat) : List Bool := (List.range n).map fun (j : Nat) => ((k0 + (j : Int)) % 3 == 0)
theorem marksT_len (k0 : Int) (n : Nat) : (marksT k0 n).length = n := by simp [marksT]
theorem marksT_succ (k0 : Int) (n : Nat) : marksT k0 (n + 1) = marksT k0 n ++ [((k0 + (n : Int)) % 3 == 0)] := by rw [marksT, List.range_succ, List.map_append]; rfl
theorem marksT_get {k0 : Int} {n j : Nat} (h : j < n) : (marksT k0 n)[j]? = some ((k0 + (j : Int)) % 3 == 0) := by rw [marksT, List.getElem?_map, List.getElem?_range h]; rfl
theorem markBoolS_any (v : Value) (ts : List Bool) (base : Nat) (k0 : Int) (hk0 : 1 ≤ k0) (hk1 : k0 ≤ 100000000) (w : World) (hn : ts.length ≤ 1048576) (hr : OwnT w base v ts) :
    Calls Try.prog 50 #[v, .int .i64 k0] w fun e w' => e = .returned (.int .i64 (k0 + ts.length)) ∧ OwnT w' base v (marksT k0 ts.length) ∧ w.grownBy w' (tblk v ts) := by
  rcases hr with ⟨A, c, rfl, rfl⟩ | ⟨h0, g, cap, te, cur, rfl, hb, hg, hnc, hsz, ht⟩
  · go_enter Try.func50, Try.ntmps50
    go_wp2
    go_loop [5, 1] (fun i j => i = .int .i64 0 ∧ j = .int .i64 k0) (fun _ _ => 0)
    case atStart => exact ⟨rfl, rfl⟩
    case round =>
      obtain ⟨rfl, rfl⟩ := hrel
      go_wp2
      go_ret
      exact ⟨retI (by simp), .inl ⟨A, c, rfl, rfl⟩, World.grownBy.refl _ _⟩
  · have HQ : tblk (.slice (some ⟨g, 0, none⟩) ts.length cap) ts = some g := by rw [tblk, if_neg (by omega)]; rfl
    rw [HQ]
    clear HQ h0
    generalize hlen : ts.length = n at *
    have HG := Lib.hid hg
    have hcur : n ≤ cur.size := by omega
    clear hg ht hlen
    go_enter Try.func50, Try.ntmps50
    go_wp2
    go_loopw [5, 1] (fun i j wr => ∃ k : Nat, k ≤ n ∧ i = .int .i64 k ∧ j = .int .i64 (k0 + k) ∧ w.grownBy wr (some g) ∧ ∃ cu : Array Value, IsBlk wr g te cu ∧ cu.size = cur.size ∧ cu.toList.take k = (marksT k0 k).map Value.bool) (fun i _ _ => n - (intOf i).toNat)
    case atStart => exact ⟨0, by omega, rfl, by simp, World.grownBy.refl _ _, cur, HG.out, rfl, by simp [marksT]⟩
    case round =>
      obtain ⟨k, hk, rfl, rfl, hgr, cu, hblk, hsz2, htk⟩ := hrel
      by_cases hlt : k < n
      · have hkc : k < cu.size := by omega
        have c0 : wr.cell? ⟨g, k, none⟩ = some cu[k] := (hblk.cell k).trans (Array.getElem?_eq_getElem hkc)
        have f0 : wr.frozen? ⟨g, k, none⟩ = false := hblk.thaw k
        generalize cu[k] = u at c0
        have HB := Lib.hid hblk
        have HS := Lib.hid hsz2
        have HK := Lib.hid htk
        clear hblk hsz2 htk
        go_wp2
        go_roundw
        case rel =>
          refine ⟨k + 1, by omega, by go_num, by go_num, grown_then hgr (grown_put _ _ _ _), _, HB.out.put k _, by simp [HS.out], ?_⟩
          rw [take_set1 _ _ _ hkc, HK.out, marksT_succ, List.map_append]; rfl
        case measure => simp [intOf]; omega
      · go_wp2
        go_ret
        obtain rfl : k = n := by omega
        exact ⟨rfl, OwnT.mk (marksT_len _ _) hb hblk hnc (by omega) htk, hgr⟩
end Go.Proofs.Ytafgfhjlkdjngaa

/- Slices of numbers in the exact laws: conversion, marks from any number on; Changes, of the program and of the model. -/
namespace Go.Proofs.Ytafgfhjlkdjngaa
open Go.ChangeShapes Go.WideShapes Go.ChangeAt Go.RowKit

theorem intInfo6 : (Try.prog.info? 3).map (fun i => (i.zero, i.size, i.bytes)) = some (some (.int .i64 0), 1, 8) := by kernel_rfl
theorem OwnI.mk_ {w : World} {base g n cap : Nat} {cur : Array Value} {zs : List Int} (hn : zs.length = n) (hb : base ≤ g) (hg : IsBlk w g 3 cur) (hc : n ≤ cap) (hm : cap ≤ maxLen) (hs : cur.size = cap) (ht : cur.toList.take n = zs.map (Value.int .i64)) : OwnI 3 w base (.slice (some ⟨g, 0, none⟩) n cap) zs := by
  subst hn
  exact ⟨by simp, .inr ⟨g, cap, cur, rfl, hb, hg, hc, hm, by omega, by rw [Nat.mul_one]; exact ht⟩⟩

theorem makeInts (n : Nat) (hn : n ≤ 1048576) (w : World) : (Instr.makeSlice 22 (.int .i64 (n : Int)) (.int .i64 (n : Int))).run Try.prog w = .ok (.slice (some ⟨w.heap.size, 0, none⟩) n n) (w.alloc (.cells (madeCells (Value.int .i64 0).cells n) 3)) := by
  obtain ⟨i0, hi, hz0, hz1, hz2⟩ := info_parts intInfo6
  have := run_make (P := Try.prog) w 22 3 i0 _ Try.underlying22 hi hz0 .i64 .i64 n n (by omega) (by omega) (by rw [hz2]; omega) (by omega)
  rw [this, Int.toNat_natCast, hz1, Nat.mul_one]
theorem toIntS_any (A : Option Addr) (n c : Nat) (zs : List Int) (w : World) (hn : n ≤ 1048576) (hr : RowZ w A n zs) :
    Calls Try.prog 10 #[.slice A n c] w fun e w' => e = .returned (.slice (some ⟨w.heap.size, 0, none⟩) n n) ∧ OwnI 3 w' w.heap.size (.slice (some ⟨w.heap.size, 0, none⟩) n n) zs ∧ Below w.heap.size w w' ∧ w.heap.size < w'.heap.size := by
  have hmk := makeInts n hn
  have HR := Lib.hid hr
  have HL := Lib.hid hr.len
  clear hr
  go_enter Try.func10, Try.ntmps10
  go_wp2
  clear hmk
  go_loopw [4] (fun i wr => ∃ k : Nat, k ≤ n ∧ i = .int .i64 k ∧ Below w.heap.size w wr ∧ ∃ cu : Array Value, IsBlk wr w.heap.size 3 cu ∧ cu.size = n ∧ cu.toList.take k = (zs.take k).map (Value.int .i64)) (fun i _ => n - (intOf i).toNat)
  case atStart => exact ⟨0, by omega, rfl, below_bx _ _, _, IsBlk.new w _ _, size_madeCells _ _, by simp⟩
  case round =>
    obtain ⟨k, hk, rfl, hbel, cu, hblk, hsz, htk⟩ := hrel
    by_cases hlt : k < n
    · obtain ⟨b, off, t, rfl, hb, hkt, g0⟩ := HR.out.at_ hlt
      rw [← hbel.cell (p := ⟨b, off + k, none⟩) hb] at g0
      have hkc : k < cu.size := by omega
      have c0 : wr.cell? ⟨w.heap.size, k, none⟩ = some cu[k] := (hblk.cell k).trans (Array.getElem?_eq_getElem hkc)
      have f0 : wr.frozen? ⟨w.heap.size, k, none⟩ = false := hblk.thaw k
      generalize cu[k] = u at c0
      have HB := Lib.hid hblk
      have HS := Lib.hid hsz
      have HK := Lib.hid htk
      have HT := Lib.hid hkt
      clear hblk hsz htk hkt
      go_wp2
      go_roundw
      case rel =>
        refine ⟨k + 1, by omega, by go_num, hbel.setCell (Nat.le_refl _) _, _, HB.out.put k _, by simp [HS.out], ?_⟩
        rw [take_set1 _ _ _ hkc, HK.out, List.take_add_one, HT.out, List.map_append]; rfl
      case measure => simp [intOf]; omega
    · go_wp2
      go_ret
      obtain rfl : k = n := by omega
      refine ⟨rfl, OwnI.mk_ HL.out (Nat.le_refl _) hblk (Nat.le_refl _) (by simp only [maxLen]; omega) hsz ?_, hbel, hblk.lt⟩
      rw [htk, ← HL.out, List.take_length]

theorem eqIntS_own {v v' : Value} {zs : List Int} {w : World} {b b' : Nat} (hn : zs.length ≤ 1048576) (h : OwnI 3 w b v zs) (h' : OwnI 3 w b' v' zs) :
    Calls Try.prog 13 #[v, v'] w fun e w' => e = .returned (.bool true) ∧ Below w.heap.size w w' := eqIntS_same v v' zs w hn h.row h'.row

theorem markIntS_gen (v : Value) (zs : List Int) (base : Nat) (k0 : Int) (hk0 : 1 ≤ k0) (hk1 : k0 ≤ 100000000) (w : World) (hn : zs.length ≤ 1048576) (hr : OwnI 3 w base v zs) :
    Calls Try.prog 15 #[v, .int .i64 k0] w fun e w' => e = .returned (.int .i64 (k0 + zs.length)) ∧ OwnI 3 w' base v (fromI k0 zs.length) ∧ w.grownBy w' v.ownBlock := by
  rcases hr.2 with ⟨rfl, hz⟩ | ⟨g, cap, cur, rfl, hb, hg, hnc, hc, hsz, ht⟩
  · have hx : zs = [] := List.eq_nil_of_length_eq_zero hz
    subst hx
    go_enter Try.func15, Try.ntmps15
    go_wp2
    go_loop [5, 1] (fun i j => i = .int .i64 0 ∧ j = .int .i64 k0) (fun _ _ => 0)
    case atStart => exact ⟨rfl, rfl⟩
    case round =>
      obtain ⟨rfl, rfl⟩ := hrel
      go_wp2
      go_ret
      exact ⟨retI (by simp), hr, World.grownBy.refl _ _⟩
  · generalize hlen : zs.length = n at *
    have HG := Lib.hid (show IsBlk w g 3 cur from hg)
    have hcur : n ≤ cur.size := by omega
    have HSZ := Lib.hid hsz
    clear hr hg ht hlen hsz
    go_enter Try.func15, Try.ntmps15
    go_wp2
    go_loopw [5, 1] (fun i j wr => ∃ k : Nat, k ≤ n ∧ i = .int .i64 k ∧ j = .int .i64 (k0 + k) ∧ w.grownBy wr (some g) ∧ ∃ cu : Array Value, IsBlk wr g 3 cu ∧ cu.size = cur.size ∧ cu.toList.take k = (fromI k0 k).map (Value.int .i64)) (fun i _ _ => n - (intOf i).toNat)
    case atStart => exact ⟨0, by omega, rfl, by simp, World.grownBy.refl _ _, cur, HG.out, rfl, by simp [fromI]⟩
    case round =>
      obtain ⟨k, hk, rfl, rfl, hgr, cu, hblk, hsz, htk⟩ := hrel
      by_cases hlt : k < n
      · have hkc : k < cu.size := by omega
        have c0 : wr.cell? ⟨g, k, none⟩ = some cu[k] := (hblk.cell k).trans (Array.getElem?_eq_getElem hkc)
        have f0 : wr.frozen? ⟨g, k, none⟩ = false := hblk.thaw k
        generalize cu[k] = u at c0
        have HB := Lib.hid hblk
        have HS := Lib.hid hsz
        have HK := Lib.hid htk
        clear hblk hsz htk
        go_wp2
        go_roundw
        case rel =>
          refine ⟨k + 1, by omega, by go_num, by go_num, grown_then hgr (grown_put _ _ _ _), _, HB.out.put k _, by simp [HS.out], ?_⟩
          rw [take_set1 _ _ _ hkc, HK.out, fromI_succ, List.map_append]; rfl
        case measure => simp [intOf]; omega
      · go_wp2
        go_ret
        obtain rfl : k = n := by omega
        exact ⟨rfl, OwnI.mk_ (fromI_len _ _) hb hblk hnc hc (by rw [hsz]; simpa using HSZ.out) htk, hgr⟩
theorem heldIntS_gen (v : Value) (m : Nat) (base : Nat) (k0 : Int) (hk0 : 1 ≤ k0) (hk1 : k0 ≤ 100000000) (w : World) (hn : m ≤ 1048576) (hr : OwnI 3 w base v (fromI k0 m)) :
    Calls Try.prog 25 #[v, .int .i64 k0] w fun e w' => e = .returned (.int .i64 (k0 + m)) ∧ w = w' := by
  obtain ⟨A, c, rfl, HA⟩ := hr.row
  rw [fromI_len] at *
  have HC := Lib.hid HA
  clear HA
  go_enter Try.func25, Try.ntmps25
  go_wp2
  go_loop [5, 1] (fun i j => ∃ k : Nat, k ≤ m ∧ i = .int .i64 k ∧ j = .int .i64 (k0 + k)) (fun i _ => m - (intOf i).toNat)
  case atStart => exact ⟨0, by omega, rfl, by simp⟩
  case round =>
    obtain ⟨k, hk, rfl, rfl⟩ := hrel
    by_cases hlt : k < m
    · obtain ⟨g, rfl, hb, HD⟩ := HC.out (by omega)
      have g0 := HD k _ (fromI_get hlt)
      simp only [Nat.zero_add] at g0
      clear HD
      go_wp2
      go_round
      case rel => exact ⟨k + 1, by omega, by go_num, by go_num⟩
      case measure => simp [intOf]; omega
    · go_wp2
      go_ret
      obtain rfl : k = m := by omega
      exact ⟨rfl, rfl⟩

end Go.Proofs.Ytafgfhjlkdjngaa

/- Copies of states, and SwitchLine, of the program and of the model. -/
namespace Go.Proofs.Ytafgfhjlkdjngaa
open Go.ChangeShapes Go.WideShapes Go.ChangeAt Go.RowKit

def swB (bs : Int) (ls : List L3) (ts : List Bool) (line : Int) : Bool := stOk bs ls ts.length && decide (0 ≤ line) && decide (line < (ts.length : Int))
def swF (bs : Int) (ls : List L3) (ts : List Bool) (line : Int) (to : Bool) : List Bool :=
  if stOk bs ls ts.length = true then (if 0 ≤ line ∧ line < (ts.length : Int) then ts.set line.toNat to else ts) else []
theorem stOk_len {bs : Int} {ls : List L3} {m : Nat} (h : stOk bs ls m = true) : m = ls.length ∧ m ≤ 10 := by
  simp only [stOk, Bool.and_eq_true, decide_eq_true_eq] at h
  exact ⟨h.2, by have := (netOk_len h.1).2.2; omega⟩
theorem swF_len (bs : Int) (ls : List L3) (ts : List Bool) (line : Int) (to : Bool) : (swF bs ls ts line to).length ≤ 10 := by
  rw [swF]; split
  · rename_i h
    have := (stOk_len h).2
    split <;> simp <;> omega
  · simp
theorem bool_one (ts : List Bool) : ∀ u ∈ ts.map Value.bool, u.oneCell' = true := by
  intro u hu
  obtain ⟨t, _, rfl⟩ := List.mem_map.1 hu
  rfl
theorem add_none (b off j : Nat) : (⟨b, off, none⟩ : Addr).add j = ⟨b, off + j, none⟩ := by unfold Addr.add; split <;> simp_all
theorem src_cells {w : World} {ad : Addr} {n : Nat} {ts : List Bool} (h : RowT w (some ad) n ts) : ∀ j u, (ts.map Value.bool)[j]? = some u → w.cell? (ad.add j) = some u := by
  intro j u hj
  have hn : 0 < n := by have := (List.getElem?_eq_some_iff.1 hj).1; have := h.1; omega
  obtain ⟨b, off, e, _, hc⟩ := h.2 hn
  injection e with e
  rw [e, add_none]; exact hc j u hj
theorem splice_take (cur cs : List Value) : ((splice cur 0 cs).toArray).toList.take cs.length = cs := by simp [splice]
theorem splice_size (cur cs : List Value) (h : cs.length ≤ cur.length) : ((splice cur 0 cs).toArray).size = cur.length := by simp [splice]; omega
theorem boolInfo5 : (Try.prog.info? 4).map (fun i => (i.zero, i.size, i.bytes)) = some (some (.bool false), 1, 1) := by kernel_rfl
theorem boolSize : (Try.prog.info? 4).map (·.size) = some 1 := by kernel_rfl


theorem OwnT.put_ {w : World} {base : Nat} {v : Value} {ts : List Bool} {k : Nat} {t : Bool} (h : OwnT w base v ts) (hk : k < ts.length) :
    ∃ g cap, v = .slice (some ⟨g, 0, none⟩) ts.length cap ∧ base ≤ g ∧ g < w.heap.size ∧ ts.length ≤ cap ∧ (∃ u, w.cell? ⟨g, k, none⟩ = some u) ∧ w.frozen? ⟨g, k, none⟩ = false ∧ Hid (OwnT (w.setCell ⟨g, k, none⟩ (.bool t)) base v (ts.set k t)) := by
  rcases h with ⟨A, c, _, h⟩ | ⟨h0, g, cap, te, cur, h1, h2, h3, h4, h5, h6⟩
  · subst h; simp at hk
  · refine ⟨g, cap, h1, h2, h3.lt, h4, ⟨cur[k]'(by omega), (h3.cell k).trans (Array.getElem?_eq_getElem (by omega))⟩, h3.thaw k, ?_⟩
    rw [h1]
    have hl : (ts.set k t).length = ts.length := by simp
    refine Lib.hid (OwnT.mk (cur := cur.setIfInBounds k (.bool t)) hl h2 (h3.put k _) h4 (by simpa using h5) ?_)
    rw [Array.toList_setIfInBounds, List.take_set, h6, List.map_set]


end Go.Proofs.Ytafgfhjlkdjngaa
