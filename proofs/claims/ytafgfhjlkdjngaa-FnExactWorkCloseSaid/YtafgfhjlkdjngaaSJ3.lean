/- Slices of the struct Permit of a call's own (written by program). -/
import Derived.Test.YtafgfhjlkdjngaaChecked
import Derived.Test.YtafgfhjlkdjngaaSJ0
import Derived.Laws.MakeOwn
import Derived.Laws.OwnMore
import Derived.ProofKit
namespace Go.Proofs.Ytafgfhjlkdjngaa
open Go.ChangeShapes Go.WideShapes Go.ChangeAt Go.RowKit

theorem permitInfo3 : (Try.prog.info? 66).map (fun i => (i.zero, i.size, i.bytes)) = some (some (.agg #[.int .i64 0, .int .i64 0]), 2, 16) := by kernel_rfl
def OwnJ (w : World) (base : Nat) (v : Value) (us : List TJ) : Prop := w.ownsRow base 66 2 v us.length (us.flatMap fJ)
section
variable {w w' : World} {base base' : Nat} {v : Value} {us : List TJ}
theorem OwnJ.keep (h : OwnJ w base v us) (hb : Below w.heap.size w w') : OwnJ w' base v us :=
  World.ownsRow.kept (row := none) h ⟨hb.os, hb.tape, hb.output, hb.size, fun i hi _ => hb.block i hi⟩ (Classical.em _)
theorem OwnJ.alloc (h : OwnJ w base v us) (o : Obj) : OwnJ (w.alloc o) base v us := h.keep (below_bx w o)
theorem OwnJ.nil {w : World} {base : Nat} : OwnJ w base (.slice none 0 0) [] := World.ownsRow_nil _ _ _ _
theorem OwnJ.far {row : Option Nat} (h : OwnJ w base v us) (hg : w.grownBy w' row) (hne : ∀ q, v.ownBlock = some q → row ≠ some q) : OwnJ w' base v us := by
  refine World.ownsRow.kept h hg ?_
  rcases hq : v.ownBlock with _ | q
  · exact .inl rfl
  · exact .inr (fun e => hne q hq e.symm)
theorem OwnJ.lt (h : OwnJ w base v us) : ∀ q, v.ownBlock = some q → base ≤ q ∧ q < w.heap.size := fun q hq => World.ownsRow.lt h q hq
theorem OwnJ.more (h : OwnJ w base v us) (hb : base' ≤ base) : OwnJ w base' v us := by
  refine ⟨h.1, ?_⟩
  rcases h.2 with h | ⟨g, cap, cur, h1, h2, h3⟩
  · exact .inl h
  · exact .inr ⟨g, cap, cur, h1, Nat.le_trans hb h2, h3⟩
theorem OwnJ.row (h : OwnJ w base v us) : ∃ A c, v = .slice A us.length c ∧ RowJ w A us.length us := by
  rcases h.2 with ⟨rfl, h0⟩ | ⟨g, cap, cur, rfl, hb, hg, hn, hc, hsz, ht⟩
  · exact ⟨none, 0, by rw [h0], rfl, fun hp => absurd hp (by omega)⟩
  · refine ⟨some ⟨g, 0, none⟩, cap, rfl, rfl, fun _ => ⟨g, 0, rfl, (Array.getElem?_eq_some_iff.1 hg).1, fun k l hk => ?_⟩⟩
    have hlt : k < us.length := (List.getElem?_eq_some_iff.1 hk).1
    have one : ∀ j, j < 2 → w.cell? ⟨g, 0 + k * 2 + j, none⟩ = (fJ l)[j]? := by
      intro j hj
      rw [cell_of_row w g _ cur 66 (0, 0) hg, Nat.zero_add, ← Array.getElem?_toList]
      have e := flat_get (f := fJ) fJ_len us k l j hk hj
      rw [← ht, List.getElem?_take_of_lt (by omega)] at e
      exact e
    exact ⟨one 0 (by omega), one 1 (by omega)⟩
/-- A field of an element is stored. -/
theorem OwnJ.put (h : OwnJ w base v us) {k j : Nat} {u u' : TJ} {x : Value} (hk : us[k]? = some u) (hj : j < 2) (hu : fJ u' = (fJ u).set j x) :
    ∃ g cap, v = .slice (some ⟨g, 0, none⟩) us.length cap ∧ base ≤ g ∧ g < w.heap.size ∧ w.frozen? ⟨g, k * 2 + j, none⟩ = false ∧ (∃ z, w.cell? ⟨g, k * 2 + j, none⟩ = some z) ∧ OwnJ (w.setCell ⟨g, k * 2 + j, none⟩ x) base v (us.set k u') := by
  have hlt : k < us.length := (List.getElem?_eq_some_iff.1 hk).1
  have hkm : k * 2 + j < us.length * 2 := by omega
  rcases h.2 with ⟨_, h0⟩ | ⟨g, cap, cur, rfl, hb, hg, hn, hc, hsz, ht⟩
  · omega
  · have hB : IsBlk w g 66 cur := hg
    have hcs : k * 2 + j < cur.size := by omega
    refine ⟨g, cap, rfl, hb, hB.lt, hB.thaw _, ⟨cur[k * 2 + j], (hB.cell _).trans (Array.getElem?_eq_getElem hcs)⟩, ?_⟩
    show World.ownsRow _ _ _ _ _ (us.set k u').length _
    rw [List.length_set]
    refine ⟨by rw [flat_len fJ_len, List.length_set], .inr ⟨g, cap, _, rfl, hb, hB.put _ _, hn, hc, by simpa using hsz, ?_⟩⟩
    rw [Array.toList_setIfInBounds, List.take_set, ht]
    clear ht hsz hn hc hg hB hcs hkm h hlt
    revert k
    induction us with
    | nil => intro k hk; simp at hk
    | cons a t ih =>
      intro k hk
      rcases k with _ | k
      · simp at hk; subst hk
        rw [List.set_cons_zero, List.flatMap_cons, List.flatMap_cons, hu, Nat.zero_mul, Nat.zero_add, List.set_append_left _ _ (by rw [fJ_len]; exact hj)]
      · have := ih (k := k) (by simpa using hk)
        rw [List.set_cons_succ, List.flatMap_cons, List.flatMap_cons, ← this, List.set_append_right _ _ (by rw [fJ_len]; omega), fJ_len]
        congr 2; omega
theorem OwnJ.snoc {u : TJ} (h : w.ownsRow base 66 2 v (us.length + 1) (us.flatMap fJ ++ fJ u)) : OwnJ w base v (us ++ [u]) := by
  show World.ownsRow _ _ _ _ _ (us ++ [u]).length _
  rw [List.length_append, List.flatMap_append, List.flatMap_singleton]; exact h
theorem newJ (w : World) (l : TJ) (t : TypeId) : ∀ j u, (fJ l)[j]? = some u → (w.alloc (.cells (fJ l).toArray t)).cell? ((⟨w.heap.size, 0, none⟩ : Addr).add j) = some u := by
  intro j u hj
  have h := (IsBlk.new w t (fJ l).toArray).cell j
  have ha : (⟨w.heap.size, 0, none⟩ : Addr).add j = ⟨w.heap.size, j, none⟩ := by unfold Addr.add; split <;> simp_all
  rw [ha, h, ← hj]; simp
end
end Go.Proofs.Ytafgfhjlkdjngaa
