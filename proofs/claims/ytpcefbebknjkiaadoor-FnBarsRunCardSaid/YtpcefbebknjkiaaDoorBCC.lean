/- Texts joined: Comparisons of the exact laws, at equal values: they answer true; Marks and marks held, of slices of ints and of lines; equal slices of ints; Conversions, comparisons and marks of the exact laws at slices of truths, and of numbers that come in; Slices of numbers in the exact laws: conversion, marks from any number on; Changes, of the program and of the model; Copies of states, and SwitchLine, of the program and of the model. -/
import Derived.Test.YtpcefbebknjkiaaDoorBCA
import Derived.Deep.RegionWith
import Derived.OwnWalk
import Derived.Deep.QuietTactic
import Derived.BigQuiet
import Derived.Test.YtpcefbebknjkiaaDoorBPA
import Derived.Laws.MakeOwn
import Derived.Maps.AppendAt
import Derived.Outline
import Derived.Laws.CopyOwn

/- Comparisons of the exact laws, at equal values: they answer true. -/
namespace Go.Proofs.YtpcefbebknjkiaaDoor
open Go.ChangeShapes Go.WideShapes Go.ChangeAt Go.RowKit

end Go.Proofs.YtpcefbebknjkiaaDoor

/- Marks and marks held, of slices of ints and of lines; equal slices of ints. -/
namespace Go.Proofs.YtpcefbebknjkiaaDoor
open Go.ChangeShapes Go.WideShapes Go.ChangeAt Go.RowKit

/-- A slice of ints that is read: nil and empty, or a row at a block's head. -/
def RowI (w : World) (v : Value) (xs : List Int) : Prop :=
  ∃ A c, v = .slice A xs.length c ∧ (0 < xs.length → ∃ g, A = some ⟨g, 0, none⟩ ∧ g < w.heap.size ∧ ∀ k x, xs[k]? = some x → w.cell? ⟨g, 0 + k, none⟩ = some (.int .i64 x))
theorem OwnI.row {e : TypeId} {w : World} {base : Nat} {v : Value} {xs : List Int} (h : OwnI e w base v xs) : RowI w v xs := by
  rcases h.2 with ⟨rfl, h0⟩ | ⟨g, cap, cur, rfl, hb, hg, hn, hc, hsz, ht⟩
  · exact ⟨none, 0, by rw [h0], fun hp => absurd hp (by omega)⟩
  · refine ⟨some ⟨g, 0, none⟩, cap, rfl, fun _ => ⟨g, rfl, (Array.getElem?_eq_some_iff.1 hg).1, fun k x hk => ?_⟩⟩
    have hlt : k < xs.length := (List.getElem?_eq_some_iff.1 hk).1
    rw [cell_of_row w g _ cur e (0, 0) hg, Nat.zero_add, ← Array.getElem?_toList]
    have : (cur.toList.take (xs.length * 1))[k]? = some (.int .i64 x) := by rw [ht, List.getElem?_map, hk]; rfl
    rwa [List.getElem?_take_of_lt (by omega)] at this

theorem take_put (cu : Array Value) (k : Nat) (u : Value) (h : k < cu.size) : (cu.setIfInBounds k u).toList.take (k + 1) = cu.toList.take k ++ [u] := by
  have hl : k < cu.toList.length := by simpa using h
  rw [Array.toList_setIfInBounds, List.take_add_one, List.take_set_of_le (Nat.le_refl _), List.getElem?_set_self hl]; rfl

/-- The numbers from k on. -/
def fromI (k : Int) (n : Nat) : List Int := (List.range n).map fun j => k + Int.ofNat j
theorem fromI_succ (k : Int) (n : Nat) : fromI k (n + 1) = fromI k n ++ [k + (n : Int)] := by rw [fromI, List.range_succ, List.map_append]; rfl
theorem fromI_get {k : Int} {n j : Nat} (h : j < n) : (fromI k n)[j]? = some (k + (j : Int)) := by rw [fromI, List.getElem?_map, List.getElem?_range h]; rfl
theorem fromI_len (k : Int) (n : Nat) : (fromI k n).length = n := by simp [fromI]

end Go.Proofs.YtpcefbebknjkiaaDoor

/- Conversions, comparisons and marks of the exact laws at slices of truths, and of numbers that come in. -/
namespace Go.Proofs.YtpcefbebknjkiaaDoor
open Go.ChangeShapes Go.WideShapes Go.ChangeAt Go.RowKit

theorem take_set1 (cu : Array Value) (k : Nat) (u : Value) (h : k < cu.size) : (cu.setIfInBounds k u).toList.take (k + 1) = cu.toList.take k ++ [u] := by
  have hl : k < cu.toList.length := by simpa using h
  rw [Array.toList_setIfInBounds, List.take_add_one, List.take_set_of_le (Nat.le_refl _), List.getElem?_set_self hl]; rfl



/-- What marks write. -/
def marksT (k0 : Int) (n : Nat) : List Bool := (List.range n).map fun (j : Nat) => ((k0 + (j : Int)) % 3 == 0)
theorem marksT_len (k0 : Int) (n : Nat) : (marksT k0 n).length = n := by simp [marksT]
theorem marksT_succ (k0 : Int) (n : Nat) : marksT k0 (n + 1) = marksT k0 n ++ [((k0 + (n : Int)) % 3 == 0)] := by rw [marksT, List.range_succ, List.map_append]; rfl
theorem marksT_get {k0 : Int} {n j : Nat} (h : j < n) : (marksT k0 n)[j]? = some ((k0 + (j : Int)) % 3 == 0) := by rw [marksT, List.getElem?_map, List.getElem?_range h]; rfl
end Go.Proofs.YtpcefbebknjkiaaDoor

/- Slices of numbers in the exact laws: conversion, marks from any number on; Changes, of the program and of the model. -/
namespace Go.Proofs.YtpcefbebknjkiaaDoor
open Go.ChangeShapes Go.WideShapes Go.ChangeAt Go.RowKit

theorem intInfo6 : (Tryd.prog.info? 3).map (fun i => (i.zero, i.size, i.bytes)) = some (some (.int .i64 0), 1, 8) := by kernel_rfl
theorem OwnI.mk_ {w : World} {base g n cap : Nat} {cur : Array Value} {zs : List Int} (hn : zs.length = n) (hb : base ≤ g) (hg : IsBlk w g 3 cur) (hc : n ≤ cap) (hm : cap ≤ maxLen) (hs : cur.size = cap) (ht : cur.toList.take n = zs.map (Value.int .i64)) : OwnI 3 w base (.slice (some ⟨g, 0, none⟩) n cap) zs := by
  subst hn
  exact ⟨by simp, .inr ⟨g, cap, cur, rfl, hb, hg, hc, hm, by omega, by rw [Nat.mul_one]; exact ht⟩⟩


end Go.Proofs.YtpcefbebknjkiaaDoor

/- Copies of states, and SwitchLine, of the program and of the model. -/
namespace Go.Proofs.YtpcefbebknjkiaaDoor
open Go.ChangeShapes Go.WideShapes Go.ChangeAt Go.RowKit

def swB (bs : Int) (ls : List L3) (ts : List Bool) (line : Int) : Bool := stOk bs ls ts.length && decide (0 ≤ line) && decide (line < (ts.length : Int))
def swF (bs : Int) (ls : List L3) (ts : List Bool) (line : Int) (to : Bool) : List Bool :=
  if stOk bs ls ts.length = true then (if 0 ≤ line ∧ line < (ts.length : Int) then ts.set line.toNat to else ts) else []
theorem stOk_len {bs : Int} {ls : List L3} {m : Nat} (h : stOk bs ls m = true) : m = ls.length ∧ m ≤ 10 := by
  simp only [stOk, Bool.and_eq_true, decide_eq_true_eq] at h
  exact ⟨h.2, by have := (netOk_len h.1).2.2; omega⟩
theorem swF_len (bs : Int) (ls : List L3) (ts : List Bool) (line : Int) (to : Bool) : (swF bs ls ts line to).length ≤ 10 := by
  rw [swF]; split
  · rename_i h
    have := (stOk_len h).2
    split <;> simp <;> omega
  · simp
theorem bool_one (ts : List Bool) : ∀ u ∈ ts.map Value.bool, u.oneCell' = true := by
  intro u hu
  obtain ⟨t, _, rfl⟩ := List.mem_map.1 hu
  rfl
theorem add_none (b off j : Nat) : (⟨b, off, none⟩ : Addr).add j = ⟨b, off + j, none⟩ := by unfold Addr.add; split <;> simp_all
theorem src_cells {w : World} {ad : Addr} {n : Nat} {ts : List Bool} (h : RowT w (some ad) n ts) : ∀ j u, (ts.map Value.bool)[j]? = some u → w.cell? (ad.add j) = some u := by
  intro j u hj
  have hn : 0 < n := by have := (List.getElem?_eq_some_iff.1 hj).1; have := h.1; omega
  obtain ⟨b, off, e, _, hc⟩ := h.2 hn
  injection e with e
  rw [e, add_none]; exact hc j u hj
theorem splice_take (cur cs : List Value) : ((splice cur 0 cs).toArray).toList.take cs.length = cs := by simp [splice]
theorem splice_size (cur cs : List Value) (h : cs.length ≤ cur.length) : ((splice cur 0 cs).toArray).size = cur.length := by simp [splice]; omega
theorem boolInfo5 : (Tryd.prog.info? 4).map (fun i => (i.zero, i.size, i.bytes)) = some (some (.bool false), 1, 1) := by kernel_rfl
theorem boolSize : (Tryd.prog.info? 4).map (·.size) = some 1 := by kernel_rfl


theorem OwnT.put_ {w : World} {base : Nat} {v : Value} {ts : List Bool} {k : Nat} {t : Bool} (h : OwnT w base v ts) (hk : k < ts.length) :
    ∃ g cap, v = .slice (some ⟨g, 0, none⟩) ts.length cap ∧ base ≤ g ∧ g < w.heap.size ∧ ts.length ≤ cap ∧ (∃ u, w.cell? ⟨g, k, none⟩ = some u) ∧ w.frozen? ⟨g, k, none⟩ = false ∧ Hid (OwnT (w.setCell ⟨g, k, none⟩ (.bool t)) base v (ts.set k t)) := by
  rcases h with ⟨A, c, _, h⟩ | ⟨h0, g, cap, te, cur, h1, h2, h3, h4, h5, h6⟩
  · subst h; simp at hk
  · refine ⟨g, cap, h1, h2, h3.lt, h4, ⟨cur[k]'(by omega), (h3.cell k).trans (Array.getElem?_eq_getElem (by omega))⟩, h3.thaw k, ?_⟩
    rw [h1]
    have hl : (ts.set k t).length = ts.length := by simp
    refine Lib.hid (OwnT.mk (cur := cur.setIfInBounds k (.bool t)) hl h2 (h3.put k _) h4 (by simpa using h5) ?_)
    rw [Array.toList_setIfInBounds, List.take_set, h6, List.map_set]


end Go.Proofs.YtpcefbebknjkiaaDoor
