/- Texts joined: Comparisons of the exact laws, at equal values: they answer true; Marks and marks held, of slices of ints and of lines; equal slices of ints; Conversions, comparisons and marks of the exact laws at slices of truths, and of numbers that come in; Slices of numbers in the exact laws: conversion, marks from any number on; Changes, of the program and of the model; Copies of states, and SwitchLine, of the program and of the model. -/
import Derived.Test.YtafgfhjlkdjngaaDoorBCA
import Derived.Deep.RegionWith
import Derived.OwnWalk
import Derived.Deep.QuietTactic
import Derived.BigQuiet
import Derived.Test.YtafgfhjlkdjngaaDoorBPA
import Derived.Laws.MakeOwn
import Derived.Maps.AppendAt
import Derived.Outline
import Derived.Laws.CopyOwn

/- Comparisons of the exact laws, at equal values: they answer true. -/
namespace Go.Proofs.YtafgfhjlkdjngaaDoor
open Go.ChangeShapes Go.WideShapes Go.ChangeAt Go.RowKit

end Go.Proofs.YtafgfhjlkdjngaaDoor

/- Marks and marks held, of slices of ints and of lines; equal slices of ints. -/
namespace Go.Proofs.YtafgfhjlkdjngaaDoor
open Go.ChangeShapes Go.WideShapes Go.ChangeAt Go.RowKit

/-- A slice of ints that is read: nil and empty, or a row at a block's head. -/
def RowI (w : World) (v : Value) (xs : List Int) : Prop :=
  ∃ A c, v = .slice A xs.length c ∧ (0 < xs.length → ∃ g, A = some ⟨g, 0, none⟩ ∧ g < w.heap.size ∧ ∀ k x, xs[k]? = some x → w.cell? ⟨g, 0 + k, none⟩ = some (.int .i64 x))
theorem OwnI.row {e : TypeId} {w : World} {base : Nat} {v : Value} {xs : List Int} (h : OwnI e w base v xs) : RowI w v xs := by
  rcases h.2 with ⟨rfl, h0⟩ | ⟨g, cap, cur, rfl, hb, hg, hn, hc, hsz, ht⟩
  · exact ⟨none, 0, by rw [h0], fun hp => absurd hp (by omega)⟩
  · refine ⟨some ⟨g, 0, none⟩, cap, rfl, fun _ => ⟨g, rfl, (Array.getElem?_eq_some_iff.1 hg).1, fun k x hk => ?_⟩⟩
    have hlt : k < xs.length := (List.getElem?_eq_some_iff.1 hk).1
    rw [cell_of_row w g _ cur e (0, 0) hg, Nat.zero_add, ← Array.getElem?_toList]
    have : (cur.toList.take (xs.length * 1))[k]? = some (.int .i64 x) := by rw [ht, List.getElem?_map, hk]; rfl
    rwa [List.getElem?_take_of_lt (by omega)] at this

theorem take_put (cu : Array Value) (k : Nat) (u : Value) (h : k < cu.size) : (cu.setIfInBounds k u).toList.take (k + 1) = cu.toList.take k ++ [u] := by
  have hl : k < cu.toList.length := by simpa using h
  rw [Array.toList_setIfInBounds, List.take_add_one, List.take_set_of_le (Nat.le_refl _), List.getElem?_set_self hl]; rfl

/-- The numbers from k on. -/
def fromI (k : Int) (n : Nat) : List Int := (List.range n).map fun j => k + Int.ofNat j
theorem fromI_succ (k : Int) (n : Nat) : fromI k (n + 1) = fromI k n ++ [k + (n : Int)] := by rw [fromI, List.range_succ, List.map_append]; rfl
theorem fromI_get {k : Int} {n j : Nat} (h : j < n) : (fromI k n)[j]? = some (k + (j : Int)) := by rw [fromI, List.getElem?_map, List.getElem?_range h]; rfl
theorem fromI_len (k : Int) (n : Nat) : (fromI k n).length = n := by simp [fromI]

end Go.Proofs.YtafgfhjlkdjngaaDoor

/- Conversions, comparisons and marks of the exact laws at slices of truths, and of numbers that come in. -/
namespace Go.Proofs.YtafgfhjlkdjngaaDoor
open Go.ChangeShapes Go.WideShapes Go.ChangeAt Go.RowKit

theorem take_set1 (cu : Array Value) (k : Nat) (u : Value) (h : k < cu.size) : (cu.setIfInBounds k u).toList.take (k + 1) = cu.toList.take k ++ [u] := by
  have hl : k < cu.toList.length := by simpa using h
  rw [Array.toList_setIfInBounds, List.take_add_one, List.take_set_of_le (Nat.le_refl _), List.getElem?_set_self hl]; rfl

theorem boolInfo : (Tryd.prog.info? 4).map (fun i => (i.zero, i.size, i.bytes)) = some (some (.bool false), 1, 1) := by kernel_rfl
theorem makeBools (n : Nat) (hn : n ≤ 1048576) (w : World) : (Instr.makeSlice 34 (.int .i64 (n : Int)) (.int .i64 (n : Int))).run Tryd.prog w = .ok (.slice (some ⟨w.heap.size, 0, none⟩) n n) (w.alloc (.cells (madeCells (Value.bool false).cells n) 4)) := by
  obtain ⟨i0, hi, hz0, hz1, hz2⟩ := info_parts boolInfo
  have := run_make (P := Tryd.prog) w 34 4 i0 _ Tryd.underlying34 hi hz0 .i64 .i64 n n (by omega) (by omega) (by rw [hz2]; omega) (by omega)
  rw [this, Int.toNat_natCast, hz1, Nat.mul_one]

theorem toBoolS_any (A : Option Addr) (n c : Nat) (ts : List Bool) (w : World) (hn : n ≤ 1048576) (hr : RowT w A n ts) :
    Calls Tryd.prog 84 #[.slice A n c] w fun e w' => e = .returned (.slice (some ⟨w.heap.size, 0, none⟩) n n) ∧ OwnT w' w.heap.size (.slice (some ⟨w.heap.size, 0, none⟩) n n) ts ∧ Below w.heap.size w w' ∧ w.heap.size < w'.heap.size := by
  have hmk := makeBools n hn
  have HR := Lib.hid hr
  have HL := Lib.hid hr.len
  clear hr
  go_enter Tryd.func84, Tryd.ntmps84
  go_wp2
  clear hmk
  go_loopw [4] (fun i wr => ∃ k : Nat, k ≤ n ∧ i = .int .i64 k ∧ Below w.heap.size w wr ∧ ∃ cu : Array Value, IsBlk wr w.heap.size 4 cu ∧ cu.size = n ∧ cu.toList.take k = (ts.take k).map Value.bool) (fun i _ => n - (intOf i).toNat)
  case atStart => exact ⟨0, by omega, rfl, below_bx _ _, _, IsBlk.new w _ _, size_madeCells _ _, by simp⟩
  case round =>
    obtain ⟨k, hk, rfl, hbel, cu, hblk, hsz, htk⟩ := hrel
    by_cases hlt : k < n
    · obtain ⟨b, off, t, rfl, hb, hkt, g0⟩ := HR.out.at_ hlt
      rw [← hbel.cell (p := ⟨b, off + k, none⟩) hb] at g0
      have hkc : k < cu.size := by omega
      have c0 : wr.cell? ⟨w.heap.size, k, none⟩ = some cu[k] := (hblk.cell k).trans (Array.getElem?_eq_getElem hkc)
      have f0 : wr.frozen? ⟨w.heap.size, k, none⟩ = false := hblk.thaw k
      generalize cu[k] = u at c0
      have HB := Lib.hid hblk
      have HS := Lib.hid hsz
      have HK := Lib.hid htk
      have HT := Lib.hid hkt
      clear hblk hsz htk hkt
      go_wp2
      go_roundw
      case rel =>
        refine ⟨k + 1, by omega, by go_num, hbel.setCell (Nat.le_refl _) _, _, HB.out.put k _, by simp [HS.out], ?_⟩
        rw [take_set1 _ _ _ hkc, HK.out, List.take_add_one, HT.out, List.map_append]; rfl
      case measure => simp [intOf]; omega
    · go_wp2
      go_ret
      obtain rfl : k = n := by omega
      refine ⟨rfl, OwnT.mk HL.out (Nat.le_refl _) hblk (Nat.le_refl _) (by omega) ?_, hbel, hblk.lt⟩
      rw [htk, ← HL.out, List.take_length]

theorem eqBoolS_same (A A' : Option Addr) (n c c' : Nat) (ts : List Bool) (w : World) (hn : n ≤ 1048576) (hr : RowT w A n ts) (hr' : RowT w A' n ts) :
    Calls Tryd.prog 86 #[.slice A n c, .slice A' n c'] w fun e w' => e = .returned (.bool true) ∧ Below w.heap.size w w' := by
  have HR := Lib.hid hr
  have HR' := Lib.hid hr'
  clear hr hr'
  go_enter Tryd.func86, Tryd.ntmps86
  go_wp2
  go_loopw [5] (fun i wr => ∃ k : Nat, k ≤ n ∧ i = .int .i64 k ∧ Below w.heap.size w wr) (fun i _ => n - (intOf i).toNat)
  case atStart => exact ⟨0, by omega, rfl, Below.refl _ _⟩
  case round =>
    obtain ⟨k, hk, rfl, hbel⟩ := hrel
    by_cases hlt : k < n
    · obtain ⟨b, off, t, rfl, hb, hkt, g0⟩ := HR.out.at_ hlt
      obtain ⟨b', off', t', rfl, hb', hkt', g0'⟩ := HR'.out.at_ hlt
      rw [← hbel.cell (p := ⟨b, off + k, none⟩) hb] at g0
      rw [← hbel.cell (p := ⟨b', off' + k, none⟩) hb'] at g0'
      obtain rfl : t' = t := by rw [hkt] at hkt'; injection hkt' with h; exact h.symm
      clear hkt hkt'
      have i0 : (0 : Int) ≤ (k : Int) := by omega
      have i1 : (k : Int) < (n : Int) := by omega
      go_wp2
      go_quiet (fail)
      go_wp2
      go_roundw
      case rel => exact ⟨k + 1, by omega, by go_num, below_drewN hbel _⟩
      case measure => simp [intOf]; omega
    · go_wp2
      go_ret
      exact ⟨rfl, hbel⟩
theorem eqBoolS_own {v v' : Value} {ts : List Bool} {w : World} {b b' : Nat} (hn : ts.length ≤ 1048576) (h : OwnT w b v ts) (h' : OwnT w b' v' ts) :
    Calls Tryd.prog 86 #[v, v'] w fun e w' => e = .returned (.bool true) ∧ Below w.heap.size w w' := by
  obtain ⟨A, c, rfl, _, h1⟩ := h.row
  obtain ⟨A', c', rfl, _, h2⟩ := h'.row
  exact eqBoolS_same A A' _ c c' ts w hn h1 h2

/-- What marks write. -/
def marksT (k0 : Int) (n : Nat) : List Bool := (List.range n).map fun (j : Nat) => ((k0 + (j : Int)) % 3 == 0)
theorem marksT_len (k0 : Int) (n : Nat) : (marksT k0 n).length = n := by simp [marksT]
theorem marksT_succ (k0 : Int) (n : Nat) : marksT k0 (n + 1) = marksT k0 n ++ [((k0 + (n : Int)) % 3 == 0)] := by rw [marksT, List.range_succ, List.map_append]; rfl
theorem marksT_get {k0 : Int} {n j : Nat} (h : j < n) : (marksT k0 n)[j]? = some ((k0 + (j : Int)) % 3 == 0) := by rw [marksT, List.getElem?_map, List.getElem?_range h]; rfl
theorem markBoolS_any (v : Value) (ts : List Bool) (base : Nat) (k0 : Int) (hk0 : 1 ≤ k0) (hk1 : k0 ≤ 100000000) (w : World) (hn : ts.length ≤ 1048576) (hr : OwnT w base v ts) :
    Calls Tryd.prog 88 #[v, .int .i64 k0] w fun e w' => e = .returned (.int .i64 (k0 + ts.length)) ∧ OwnT w' base v (marksT k0 ts.length) ∧ w.grownBy w' (tblk v ts) := by
  rcases hr with ⟨A, c, rfl, rfl⟩ | ⟨h0, g, cap, te, cur, rfl, hb, hg, hnc, hsz, ht⟩
  · go_enter Tryd.func88, Tryd.ntmps88
    go_wp2
    go_loop [5, 1] (fun i j => i = .int .i64 0 ∧ j = .int .i64 k0) (fun _ _ => 0)
    case atStart => exact ⟨rfl, rfl⟩
    case round =>
      obtain ⟨rfl, rfl⟩ := hrel
      go_wp2
      go_ret
      exact ⟨retI (by simp), .inl ⟨A, c, rfl, rfl⟩, World.grownBy.refl _ _⟩
  · have HQ : tblk (.slice (some ⟨g, 0, none⟩) ts.length cap) ts = some g := by rw [tblk, if_neg (by omega)]; rfl
    rw [HQ]
    clear HQ h0
    generalize hlen : ts.length = n at *
    have HG := Lib.hid hg
    have hcur : n ≤ cur.size := by omega
    clear hg ht hlen
    go_enter Tryd.func88, Tryd.ntmps88
    go_wp2
    go_loopw [5, 1] (fun i j wr => ∃ k : Nat, k ≤ n ∧ i = .int .i64 k ∧ j = .int .i64 (k0 + k) ∧ w.grownBy wr (some g) ∧ ∃ cu : Array Value, IsBlk wr g te cu ∧ cu.size = cur.size ∧ cu.toList.take k = (marksT k0 k).map Value.bool) (fun i _ _ => n - (intOf i).toNat)
    case atStart => exact ⟨0, by omega, rfl, by simp, World.grownBy.refl _ _, cur, HG.out, rfl, by simp [marksT]⟩
    case round =>
      obtain ⟨k, hk, rfl, rfl, hgr, cu, hblk, hsz2, htk⟩ := hrel
      by_cases hlt : k < n
      · have hkc : k < cu.size := by omega
        have c0 : wr.cell? ⟨g, k, none⟩ = some cu[k] := (hblk.cell k).trans (Array.getElem?_eq_getElem hkc)
        have f0 : wr.frozen? ⟨g, k, none⟩ = false := hblk.thaw k
        generalize cu[k] = u at c0
        have HB := Lib.hid hblk
        have HS := Lib.hid hsz2
        have HK := Lib.hid htk
        clear hblk hsz2 htk
        go_wp2
        go_roundw
        case rel =>
          refine ⟨k + 1, by omega, by go_num, by go_num, grown_then hgr (grown_put _ _ _ _), _, HB.out.put k _, by simp [HS.out], ?_⟩
          rw [take_set1 _ _ _ hkc, HK.out, marksT_succ, List.map_append]; rfl
        case measure => simp [intOf]; omega
      · go_wp2
        go_ret
        obtain rfl : k = n := by omega
        exact ⟨rfl, OwnT.mk (marksT_len _ _) hb hblk hnc (by omega) htk, hgr⟩
theorem heldBoolS_any (v : Value) (m : Nat) (base : Nat) (k0 : Int) (hk0 : 1 ≤ k0) (hk1 : k0 ≤ 100000000) (w : World) (hn : m ≤ 1048576) (hr : OwnT w base v (marksT k0 m)) :
    Calls Tryd.prog 90 #[v, .int .i64 k0] w fun e w' => e = .returned (.int .i64 (k0 + m)) ∧ w = w' := by
  obtain ⟨A, c, rfl, _, hrow⟩ := hr.row
  rw [marksT_len] at *
  have HC := Lib.hid hrow
  clear hrow
  go_enter Tryd.func90, Tryd.ntmps90
  go_wp2
  go_loop [5, 1] (fun i j => ∃ k : Nat, k ≤ m ∧ i = .int .i64 k ∧ j = .int .i64 (k0 + k)) (fun i _ => m - (intOf i).toNat)
  case atStart => exact ⟨0, by omega, rfl, by simp⟩
  case round =>
    obtain ⟨k, hk, rfl, rfl⟩ := hrel
    by_cases hlt : k < m
    · obtain ⟨b, off, t, rfl, hb, hkt, g0⟩ := HC.out.at_ hlt
      obtain rfl : ((k0 + (k : Int)) % 3 == 0) = t := by rw [marksT_get hlt] at hkt; injection hkt
      clear hkt
      go_wp2
      go_round
      case rel => exact ⟨k + 1, by omega, by go_num, by go_num⟩
      case measure => simp [intOf]; omega
    · go_wp2
      go_ret
      obtain rfl : k = m := by omega
      exact ⟨rfl, rfl⟩
end Go.Proofs.YtafgfhjlkdjngaaDoor

/- Slices of numbers in the exact laws: conversion, marks from any number on; Changes, of the program and of the model. -/
namespace Go.Proofs.YtafgfhjlkdjngaaDoor
open Go.ChangeShapes Go.WideShapes Go.ChangeAt Go.RowKit

theorem intInfo6 : (Tryd.prog.info? 3).map (fun i => (i.zero, i.size, i.bytes)) = some (some (.int .i64 0), 1, 8) := by kernel_rfl
theorem OwnI.mk_ {w : World} {base g n cap : Nat} {cur : Array Value} {zs : List Int} (hn : zs.length = n) (hb : base ≤ g) (hg : IsBlk w g 3 cur) (hc : n ≤ cap) (hm : cap ≤ maxLen) (hs : cur.size = cap) (ht : cur.toList.take n = zs.map (Value.int .i64)) : OwnI 3 w base (.slice (some ⟨g, 0, none⟩) n cap) zs := by
  subst hn
  exact ⟨by simp, .inr ⟨g, cap, cur, rfl, hb, hg, hc, hm, by omega, by rw [Nat.mul_one]; exact ht⟩⟩


end Go.Proofs.YtafgfhjlkdjngaaDoor

/- Copies of states, and SwitchLine, of the program and of the model. -/
namespace Go.Proofs.YtafgfhjlkdjngaaDoor
open Go.ChangeShapes Go.WideShapes Go.ChangeAt Go.RowKit

def swB (bs : Int) (ls : List L3) (ts : List Bool) (line : Int) : Bool := stOk bs ls ts.length && decide (0 ≤ line) && decide (line < (ts.length : Int))
def swF (bs : Int) (ls : List L3) (ts : List Bool) (line : Int) (to : Bool) : List Bool :=
  if stOk bs ls ts.length = true then (if 0 ≤ line ∧ line < (ts.length : Int) then ts.set line.toNat to else ts) else []
theorem stOk_len {bs : Int} {ls : List L3} {m : Nat} (h : stOk bs ls m = true) : m = ls.length ∧ m ≤ 10 := by
  simp only [stOk, Bool.and_eq_true, decide_eq_true_eq] at h
  exact ⟨h.2, by have := (netOk_len h.1).2.2; omega⟩
theorem swF_len (bs : Int) (ls : List L3) (ts : List Bool) (line : Int) (to : Bool) : (swF bs ls ts line to).length ≤ 10 := by
  rw [swF]; split
  · rename_i h
    have := (stOk_len h).2
    split <;> simp <;> omega
  · simp
theorem bool_one (ts : List Bool) : ∀ u ∈ ts.map Value.bool, u.oneCell' = true := by
  intro u hu
  obtain ⟨t, _, rfl⟩ := List.mem_map.1 hu
  rfl
theorem add_none (b off j : Nat) : (⟨b, off, none⟩ : Addr).add j = ⟨b, off + j, none⟩ := by unfold Addr.add; split <;> simp_all
theorem src_cells {w : World} {ad : Addr} {n : Nat} {ts : List Bool} (h : RowT w (some ad) n ts) : ∀ j u, (ts.map Value.bool)[j]? = some u → w.cell? (ad.add j) = some u := by
  intro j u hj
  have hn : 0 < n := by have := (List.getElem?_eq_some_iff.1 hj).1; have := h.1; omega
  obtain ⟨b, off, e, _, hc⟩ := h.2 hn
  injection e with e
  rw [e, add_none]; exact hc j u hj
theorem splice_take (cur cs : List Value) : ((splice cur 0 cs).toArray).toList.take cs.length = cs := by simp [splice]
theorem splice_size (cur cs : List Value) (h : cs.length ≤ cur.length) : ((splice cur 0 cs).toArray).size = cur.length := by simp [splice]; omega
theorem boolInfo5 : (Tryd.prog.info? 4).map (fun i => (i.zero, i.size, i.bytes)) = some (some (.bool false), 1, 1) := by kernel_rfl
theorem boolSize : (Tryd.prog.info? 4).map (·.size) = some 1 := by kernel_rfl

theorem l2Copy_any (A : Option Addr) (n c : Nat) (ts : List Bool) (w : World) (hn : n ≤ 1048576) (hr : RowT w A n ts) :
    Calls Tryd.prog 105 #[.slice A n c] w fun e w' => ∃ v, e = .returned v ∧ OwnT w' w.heap.size v ts ∧ Below w.heap.size w w' := by
  obtain ⟨i0, hi, hz0, hz1, hz2⟩ := info_parts boolInfo5
  have HI0 := Lib.hid hi
  have HL := hr.1
  have hown0 := World.ownsRow_lit (base := w.heap.size) (size := 1) (e := 4) w #[] 0 (by omega) (by decide) rfl
  have HO0 := Lib.hid hown0
  clear hi hown0
  rcases A with _ | ad
  · have hn0 : n = 0 := by
      rcases Nat.eq_zero_or_pos n with h0 | h0
      · exact h0
      · obtain ⟨_, _, h, _⟩ := hr.2 h0; cases h
    subst hn0
    have hts : ts = [] := List.eq_nil_of_length_eq_zero (by simpa using HL)
    subst hts
    clear hr HL
    go_enter Tryd.func105, Tryd.ntmps105
    go_wp2
    go_ret
    exact ⟨_, rfl, .inl ⟨_, _, rfl, rfl⟩, below_bx _ _⟩
  · have HC := Lib.hid (src_cells (hr.below (below_bx w (.cells #[] 4))))
    have HL1 := Lib.hid (show (ts.map Value.bool).length = n * 1 by rw [HL, Nat.mul_one])
    clear hr HL
    go_enter Tryd.func105, Tryd.ntmps105
    go_wp2_with (
      at_builtin
      refine wpList_append_own _ rfl _ _ _ rfl w.heap.size 4 i0 (.bool false) 1 1 Tryd.underlying34 HI0.out hz0 hz1 hz2 rfl (by decide) _ _ _ rfl HO0.out ad n c (ts.map Value.bool) rfl HL1.out ?c1 ?c2 ?c3 ?c4 ?c5 ?_
      case c1 => exact HC.out
      case c2 => exact bool_one ts
      case c3 => simp only [maxLen]; omega
      case c4 => omega
      case c5 => simp
      intro v' w3 hown' hgrow _
      have hb3 : Below w.heap.size w w3 := (below_bx w _).grown hgrow (by simp) (fun q hq => (World.ownsRow.lt HO0.out q hq).1))
    go_ret
    exact ⟨_, rfl, OwnT.of_own (by simpa using hown'), hb3⟩

theorem OwnT.put_ {w : World} {base : Nat} {v : Value} {ts : List Bool} {k : Nat} {t : Bool} (h : OwnT w base v ts) (hk : k < ts.length) :
    ∃ g cap, v = .slice (some ⟨g, 0, none⟩) ts.length cap ∧ base ≤ g ∧ g < w.heap.size ∧ ts.length ≤ cap ∧ (∃ u, w.cell? ⟨g, k, none⟩ = some u) ∧ w.frozen? ⟨g, k, none⟩ = false ∧ Hid (OwnT (w.setCell ⟨g, k, none⟩ (.bool t)) base v (ts.set k t)) := by
  rcases h with ⟨A, c, _, h⟩ | ⟨h0, g, cap, te, cur, h1, h2, h3, h4, h5, h6⟩
  · subst h; simp at hk
  · refine ⟨g, cap, h1, h2, h3.lt, h4, ⟨cur[k]'(by omega), (h3.cell k).trans (Array.getElem?_eq_getElem (by omega))⟩, h3.thaw k, ?_⟩
    rw [h1]
    have hl : (ts.set k t).length = ts.length := by simp
    refine Lib.hid (OwnT.mk (cur := cur.setIfInBounds k (.bool t)) hl h2 (h3.put k _) h4 (by simpa using h5) ?_)
    rw [Array.toList_setIfInBounds, List.take_set, h6, List.map_set]


end Go.Proofs.YtafgfhjlkdjngaaDoor
