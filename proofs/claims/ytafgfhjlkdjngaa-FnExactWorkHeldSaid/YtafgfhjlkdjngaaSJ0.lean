/- Rows of the struct Permit in memory, no program (written by program). -/
import Derived.Test.YtafgfhjlkdjngaaBPA
namespace Go.Proofs.Ytafgfhjlkdjngaa
open Go.RowKit

abbrev TJ := Int × Int
def fJ (u : TJ) : List Value := [.int .i64 u.1, .int .i64 u.2]
theorem fJ_len (u : TJ) : (fJ u).length = 2 := rfl
/-- They lie at block b from off on. -/
def AtJ (w : World) (b off : Nat) (us : List TJ) : Prop := ∀ k u, us[k]? = some u → w.cell? ⟨b, off + k * 2, none⟩ = some (.int .i64 u.1) ∧ w.cell? ⟨b, off + k * 2 + 1, none⟩ = some (.int .i64 u.2)
/-- A slice of n of them reads as us; it may be nil if it is empty. -/
def RowJ (w : World) (A : Option Addr) (n : Nat) (us : List TJ) : Prop := us.length = n ∧ (0 < n → ∃ b off, A = some ⟨b, off, none⟩ ∧ b < w.heap.size ∧ AtJ w b off us)
section
variable {w w' : World} {A : Option Addr} {n : Nat} {us : List TJ}
theorem RowJ.len (h : RowJ w A n us) : us.length = n := h.1
theorem RowJ.below (h : RowJ w A n us) (hb : Below w.heap.size w w') : RowJ w' A n us := by
  refine ⟨h.1, fun hn => ?_⟩
  obtain ⟨b, off, e, hlt, hc⟩ := h.2 hn
  refine ⟨b, off, e, Nat.lt_of_lt_of_le hlt hb.size, fun k l hk => ?_⟩
  obtain ⟨h0, h1⟩ := hc k l hk
  exact ⟨(hb.cell (p := ⟨b, off + k * 2, none⟩) hlt).trans h0, (hb.cell (p := ⟨b, off + k * 2 + 1, none⟩) hlt).trans h1⟩
theorem RowJ.none_ {w : World} {A : Option Addr} : RowJ w A 0 [] := ⟨rfl, fun h => absurd h (by omega)⟩
theorem RowJ.at_ (h : RowJ w A n us) {k : Nat} (hk : k < n) : ∃ b off u, A = some ⟨b, off, none⟩ ∧ b < w.heap.size ∧ us[k]? = some u ∧ w.cell? ⟨b, off + k * 2, none⟩ = some (.int .i64 u.1) ∧ w.cell? ⟨b, off + k * 2 + 1, none⟩ = some (.int .i64 u.2) := by
  obtain ⟨b, off, e, hlt, hc⟩ := h.2 (by omega)
  have hl : us[k]? = some (us[k]'(by have := h.1; omega)) := List.getElem?_eq_getElem _
  exact ⟨b, off, _, e, hlt, hl, hc k _ hl⟩
theorem RowJ.grown {row : Option Nat} (h : RowJ w A n us) (hg : w.grownBy w' row) (hne : ∀ b off, A = some ⟨b, off, none⟩ → row ≠ some b) : RowJ w' A n us := by
  refine ⟨h.1, fun hn => ?_⟩
  obtain ⟨b, off, e, hlt, hc⟩ := h.2 hn
  refine ⟨b, off, e, Nat.lt_of_lt_of_le hlt hg.size, fun k l hk => ?_⟩
  obtain ⟨h0, h1⟩ := hc k l hk
  have hb := hg.block b hlt (fun e2 => hne b off e e2.symm)
  exact ⟨(World.cell?_of_block (a := ⟨b, off + k * 2, none⟩) hb).trans h0, (World.cell?_of_block (a := ⟨b, off + k * 2 + 1, none⟩) hb).trans h1⟩
end
/-- A block of them reads as a slice. -/
theorem IsBlk.rowJ {w : World} {g : Nat} {t : TypeId} {us : List TJ} {n : Nat} (h : IsBlk w g t (rowArr fJ us)) (hn : us.length = n) : RowJ w (some ⟨g, 0, none⟩) n us := by
  refine ⟨hn, fun _ => ⟨g, 0, rfl, h.lt, fun k l hk => ?_⟩⟩
  have e := rowArr_get (f := fJ) fJ_len hk
  rw [h.cell, h.cell]
  simp only [Nat.zero_add]
  exact ⟨e 0 (by omega), e 1 (by omega)⟩
end Go.Proofs.Ytafgfhjlkdjngaa
