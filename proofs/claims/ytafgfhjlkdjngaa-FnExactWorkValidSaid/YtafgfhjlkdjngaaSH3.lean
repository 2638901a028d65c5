/- Slices of the struct WorkDeed of a call's own (written by program). -/
import Derived.Test.YtafgfhjlkdjngaaChecked
import Derived.Test.YtafgfhjlkdjngaaSH0
import Derived.Laws.MakeOwn
import Derived.Laws.OwnMore
import Derived.ProofKit
namespace Go.Proofs.Ytafgfhjlkdjngaa
open Go.ChangeShapes Go.WideShapes Go.ChangeAt Go.RowKit

theorem workDeedInfo3 : (Try.prog.info? 75).map (fun i => (i.zero, i.size, i.bytes)) = some (some (.agg #[.int .i64 0, .int .i64 0, .int .i64 0]), 3, 24) := by kernel_rfl
def OwnH (w : World) (base : Nat) (v : Value) (us : List TH) : Prop := w.ownsRow base 75 3 v us.length (us.flatMap fH)
section
variable {w w' : World} {base base' : Nat} {v : Value} {us : List TH}
theorem OwnH.keep (h : OwnH w base v us) (hb : Below w.heap.size w w') : OwnH w' base v us :=
  World.ownsRow.kept (row := none) h ⟨hb.os, hb.tape, hb.output, hb.size, fun i hi _ => hb.block i hi⟩ (Classical.em _)
theorem OwnH.alloc (h : OwnH w base v us) (o : Obj) : OwnH (w.alloc o) base v us := h.keep (below_bx w o)
theorem OwnH.nil {w : World} {base : Nat} : OwnH w base (.slice none 0 0) [] := World.ownsRow_nil _ _ _ _
theorem OwnH.far {row : Option Nat} (h : OwnH w base v us) (hg : w.grownBy w' row) (hne : ∀ q, v.ownBlock = some q → row ≠ some q) : OwnH w' base v us := by
  refine World.ownsRow.kept h hg ?_
  rcases hq : v.ownBlock with _ | q
  · exact .inl rfl
  · exact .inr (fun e => hne q hq e.symm)
theorem OwnH.lt (h : OwnH w base v us) : ∀ q, v.ownBlock = some q → base ≤ q ∧ q < w.heap.size := fun q hq => World.ownsRow.lt h q hq
theorem OwnH.more (h : OwnH w base v us) (hb : base' ≤ base) : OwnH w base' v us := by
  refine ⟨h.1, ?_⟩
  rcases h.2 with h | ⟨g, cap, cur, h1, h2, h3⟩
  · exact .inl h
  · exact .inr ⟨g, cap, cur, h1, Nat.le_trans hb h2, h3⟩
theorem OwnH.row (h : OwnH w base v us) : ∃ A c, v = .slice A us.length c ∧ RowH w A us.length us := by
  rcases h.2 with ⟨rfl, h0⟩ | ⟨g, cap, cur, rfl, hb, hg, hn, hc, hsz, ht⟩
  · exact ⟨none, 0, by rw [h0], rfl, fun hp => absurd hp (by omega)⟩
  · refine ⟨some ⟨g, 0, none⟩, cap, rfl, rfl, fun _ => ⟨g, 0, rfl, (Array.getElem?_eq_some_iff.1 hg).1, fun k l hk => ?_⟩⟩
    have hlt : k < us.length := (List.getElem?_eq_some_iff.1 hk).1
    have one : ∀ j, j < 3 → w.cell? ⟨g, 0 + k * 3 + j, none⟩ = (fH l)[j]? := by
      intro j hj
      rw [cell_of_row w g _ cur 75 (0, 0) hg, Nat.zero_add, ← Array.getElem?_toList]
      have e := flat_get (f := fH) fH_len us k l j hk hj
      rw [← ht, List.getElem?_take_of_lt (by omega)] at e
      exact e
    exact ⟨one 0 (by omega), one 1 (by omega), one 2 (by omega)⟩
/-- A field of an element is stored. -/
theorem OwnH.put (h : OwnH w base v us) {k j : Nat} {u u' : TH} {x : Value} (hk : us[k]? = some u) (hj : j < 3) (hu : fH u' = (fH u).set j x) :
    ∃ g cap, v = .slice (some ⟨g, 0, none⟩) us.length cap ∧ base ≤ g ∧ g < w.heap.size ∧ w.frozen? ⟨g, k * 3 + j, none⟩ = false ∧ (∃ z, w.cell? ⟨g, k * 3 + j, none⟩ = some z) ∧ OwnH (w.setCell ⟨g, k * 3 + j, none⟩ x) base v (us.set k u') := by
  have hlt : k < us.length := (List.getElem?_eq_some_iff.1 hk).1
  have hkm : k * 3 + j < us.length * 3 := by omega
  rcases h.2 with ⟨_, h0⟩ | ⟨g, cap, cur, rfl, hb, hg, hn, hc, hsz, ht⟩
  · omega
  · have hB : IsBlk w g 75 cur := hg
    have hcs : k * 3 + j < cur.size := by omega
    refine ⟨g, cap, rfl, hb, hB.lt, hB.thaw _, ⟨cur[k * 3 + j], (hB.cell _).trans (Array.getElem?_eq_getElem hcs)⟩, ?_⟩
    show World.ownsRow _ _ _ _ _ (us.set k u').length _
    rw [List.length_set]
    refine ⟨by rw [flat_len fH_len, List.length_set], .inr ⟨g, cap, _, rfl, hb, hB.put _ _, hn, hc, by simpa using hsz, ?_⟩⟩
    rw [Array.toList_setIfInBounds, List.take_set, ht]
    clear ht hsz hn hc hg hB hcs hkm h hlt
    revert k
    induction us with
    | nil => intro k hk; simp at hk
    | cons a t ih =>
      intro k hk
      rcases k with _ | k
      · simp at hk; subst hk
        rw [List.set_cons_zero, List.flatMap_cons, List.flatMap_cons, hu, Nat.zero_mul, Nat.zero_add, List.set_append_left _ _ (by rw [fH_len]; exact hj)]
      · have := ih (k := k) (by simpa using hk)
        rw [List.set_cons_succ, List.flatMap_cons, List.flatMap_cons, ← this, List.set_append_right _ _ (by rw [fH_len]; omega), fH_len]
        congr 2; omega
theorem OwnH.snoc {u : TH} (h : w.ownsRow base 75 3 v (us.length + 1) (us.flatMap fH ++ fH u)) : OwnH w base v (us ++ [u]) := by
  show World.ownsRow _ _ _ _ _ (us ++ [u]).length _
  rw [List.length_append, List.flatMap_append, List.flatMap_singleton]; exact h
theorem newH (w : World) (l : TH) (t : TypeId) : ∀ j u, (fH l)[j]? = some u → (w.alloc (.cells (fH l).toArray t)).cell? ((⟨w.heap.size, 0, none⟩ : Addr).add j) = some u := by
  intro j u hj
  have h := (IsBlk.new w t (fH l).toArray).cell j
  have ha : (⟨w.heap.size, 0, none⟩ : Addr).add j = ⟨w.heap.size, j, none⟩ := by unfold Addr.add; split <;> simp_all
  rw [ha, h, ← hj]; simp
end
end Go.Proofs.Ytafgfhjlkdjngaa
