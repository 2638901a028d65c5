/- Reading of texts, the model's half: l1Line. -/
import Derived.Test.YtfedffekbemcoaaDoorR2
import Derived.StillTailTactics
import Derived.Deep.DeepCutAuto
import Derived.Deep.CutBlock
import Derived.Outline
namespace Go.Proofs.YtfedffekbemcoaaDoor
open Go.ChangeShapes Go.WideShapes Go.ChangeAt Go.RowKit

theorem cutA_le (sep : UInt8) : ∀ (r cur : Bs), ∀ p ∈ cutA sep cur r, p.length ≤ cur.length + r.length
  | [], cur, p, h => by simp [cutA] at h; subst h; simp
  | c :: r, cur, p, h => by
    rw [cutA] at h
    split at h
    · rcases List.mem_cons.1 h with h | h
      · subst h; simp
      · have := cutA_le sep r [] p h; simp at this ⊢; omega
    · have := cutA_le sep r (cur ++ [c]) p h; simp at this ⊢; omega
theorem size_str (p : Bs) : (⟨p.toArray⟩ : ByteArray).size = p.length := by rw [Lib.size_eq]
theorem data_str (p : Bs) : (⟨p.toArray⟩ : ByteArray).data.toList = p := rfl
theorem l1Read_still (p : Bs) (hp : p.length ≤ 2000000) (w : World) :
    Calls Tryd.prog 52 #[.string ⟨p.toArray⟩] w fun e w' => e = .returned (.int .i64 (readS p)) ∧ w' = w :=
  (l1Read_any ⟨p.toArray⟩ w (by rw [size_str]; omega)).mono fun _ _ h => ⟨h.1, h.2.symm⟩
theorem RowV.at {w : World} {A : Option Addr} {n : Nat} {xs : List Value} (h : RowV w A n xs) {k : Nat} (hk : k < n) : ∃ b off x, A = some ⟨b, off, none⟩ ∧ b < w.heap.size ∧ xs[k]? = some x ∧ w.cell? ⟨b, off + k, none⟩ = some x := by
  obtain ⟨b, off, e, hlt, hc⟩ := h.2 (by omega)
  have hl : k < xs.length := by rw [h.1]; exact hk
  exact ⟨b, off, xs[k], e, hlt, List.getElem?_eq_getElem hl, hc k _ (List.getElem?_eq_getElem hl)⟩

end Go.Proofs.YtfedffekbemcoaaDoor
