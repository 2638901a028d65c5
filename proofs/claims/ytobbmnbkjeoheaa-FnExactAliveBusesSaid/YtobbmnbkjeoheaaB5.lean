/- Copies of states, and SwitchLine, of the program and of the model. -/
import Derived.Test.YtobbmnbkjeoheaaB1
import Derived.Test.YtobbmnbkjeoheaaB2
import Derived.Maps.AppendAt
import Derived.Laws.CopyOwn
import Derived.Outline
namespace Go.Proofs.Ytobbmnbkjeoheaa
open Go.ChangeShapes Go.WideShapes Go.ChangeAt Go.RowKit

def swB (bs : Int) (ls : List L3) (ts : List Bool) (line : Int) : Bool := stOk bs ls ts.length && decide (0 ≤ line) && decide (line < (ts.length : Int))
def swF (bs : Int) (ls : List L3) (ts : List Bool) (line : Int) (to : Bool) : List Bool :=
  if stOk bs ls ts.length = true then (if 0 ≤ line ∧ line < (ts.length : Int) then ts.set line.toNat to else ts) else []
theorem stOk_len {bs : Int} {ls : List L3} {m : Nat} (h : stOk bs ls m = true) : m = ls.length ∧ m ≤ 10 := by
  simp only [stOk, Bool.and_eq_true, decide_eq_true_eq] at h
  exact ⟨h.2, by have := (netOk_len h.1).2.2; omega⟩
theorem swF_len (bs : Int) (ls : List L3) (ts : List Bool) (line : Int) (to : Bool) : (swF bs ls ts line to).length ≤ 10 := by
  rw [swF]; split
  · rename_i h
    have := (stOk_len h).2
    split <;> simp <;> omega
  · simp
theorem bool_one (ts : List Bool) : ∀ u ∈ ts.map Value.bool, u.oneCell' = true := by
  intro u hu
  obtain ⟨t, _, rfl⟩ := List.mem_map.1 hu
  rfl
theorem add_none (b off j : Nat) : (⟨b, off, none⟩ : Addr).add j = ⟨b, off + j, none⟩ := by unfold Addr.add; split <;> simp_all
theorem src_cells {w : World} {ad : Addr} {n : Nat} {ts : List Bool} (h : RowT w (some ad) n ts) : ∀ j u, (ts.map Value.bool)[j]? = some u → w.cell? (ad.add j) = some u := by
  intro j u hj
  have hn : 0 < n := by have := (List.getElem?_eq_some_iff.1 hj).1; have := h.1; omega
  obtain ⟨b, off, e, _, hc⟩ := h.2 hn
  injection e with e
  rw [e, add_none]; exact hc j u hj
theorem splice_take (cur cs : List Value) : ((splice cur 0 cs).toArray).toList.take cs.length = cs := by simp [splice]
theorem splice_size (cur cs : List Value) (h : cs.length ≤ cur.length) : ((splice cur 0 cs).toArray).size = cur.length := by simp [splice]; omega
theorem boolInfo5 : (Try.prog.info? 4).map (fun i => (i.zero, i.size, i.bytes)) = some (some (.bool false), 1, 1) := by kernel_rfl
theorem boolSize : (Try.prog.info? 4).map (·.size) = some 1 := by kernel_rfl


theorem OwnT.put_ {w : World} {base : Nat} {v : Value} {ts : List Bool} {k : Nat} {t : Bool} (h : OwnT w base v ts) (hk : k < ts.length) :
    ∃ g cap, v = .slice (some ⟨g, 0, none⟩) ts.length cap ∧ base ≤ g ∧ g < w.heap.size ∧ ts.length ≤ cap ∧ (∃ u, w.cell? ⟨g, k, none⟩ = some u) ∧ w.frozen? ⟨g, k, none⟩ = false ∧ Hid (OwnT (w.setCell ⟨g, k, none⟩ (.bool t)) base v (ts.set k t)) := by
  rcases h with ⟨A, c, _, h⟩ | ⟨h0, g, cap, te, cur, h1, h2, h3, h4, h5, h6⟩
  · subst h; simp at hk
  · refine ⟨g, cap, h1, h2, h3.lt, h4, ⟨cur[k]'(by omega), (h3.cell k).trans (Array.getElem?_eq_getElem (by omega))⟩, h3.thaw k, ?_⟩
    rw [h1]
    have hl : (ts.set k t).length = ts.length := by simp
    refine Lib.hid (OwnT.mk (cur := cur.setIfInBounds k (.bool t)) hl h2 (h3.put k _) h4 (by simpa using h5) ?_)
    rw [Array.toList_setIfInBounds, List.take_set, h6, List.map_set]


end Go.Proofs.Ytobbmnbkjeoheaa
