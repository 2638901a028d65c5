/- NetText of the model: the text of a network. -/
import Derived.Test.YtfedffekbemcoaaDoorT1
import Derived.Deep.RegionHeld3
namespace Go.Proofs.YtfedffekbemcoaaDoor
open Go.ChangeShapes Go.WideShapes Go.ChangeAt Go.RowKit

theorem l1Number_int (x : Int) (w : World) (h0 : 0 ≤ x) (h1 : x ≤ 9223372036854775807) :
    Calls Tryd.prog 47 #[.int .i64 x] w fun e w' => e = .returned (.string (decStr x.toNat)) ∧ Below w.heap.size w w' := by
  have h := l1Number_any x.toNat w (by omega)
  rwa [show ((x.toNat : Nat) : Int) = x by omega] at h

def chr (c : UInt8) : ByteArray := ⟨#[c]⟩
def addLine (s : ByteArray) (l : L3) : ByteArray := s ++ chr 32 ++ decStr l.1.toNat ++ chr 45 ++ decStr l.2.1.toNat ++ chr 58 ++ decStr l.2.2.toNat
def textTo (bs : Int) (ls : List L3) (k : Nat) : ByteArray := (ls.take k).foldl addLine (decStr bs.toNat)
def textF (bs : Int) (ls : List L3) : ByteArray := if netOk bs ls = true then textTo bs ls ls.length else ⟨#[]⟩
theorem textTo_succ {bs : Int} {ls : List L3} {k : Nat} {l : L3} (h : ls[k]? = some l) : textTo bs ls (k + 1) = addLine (textTo bs ls k) l := by
  unfold textTo
  rw [List.take_add_one, h]
  simp

theorem addLine_size (s : ByteArray) (l : L3) : (addLine s l).size ≤ s.size + l.1.toNat + l.2.1.toNat + l.2.2.toNat + 6 := by
  have h1 := decStr_size l.1.toNat
  have h2 := decStr_size l.2.1.toNat
  have h3 := decStr_size l.2.2.toNat
  simp [addLine, chr, ByteArray.size_append]
  have e : ∀ c, ByteArray.size ⟨#[c]⟩ = 1 := fun _ => rfl
  simp [e]
  omega
theorem textTo_size {bs : Int} {ls : List L3} (h : netOk bs ls = true) (k : Nat) : (textTo bs ls k).size ≤ 9 + k * 1030 := by
  induction k with
  | zero =>
    have h1 := decStr_size bs.toNat
    have h2 := netOk_len h
    simp [textTo]
    omega
  | succ k ih =>
    rcases hk : ls[k]? with _ | l
    · have e : textTo bs ls (k + 1) = textTo bs ls k := by
        unfold textTo
        rw [List.take_add_one, hk, Option.toList, List.append_nil]
      rw [e]
      exact Nat.le_trans ih (by omega)
    · rw [textTo_succ hk]
      have h1 := addLine_size (textTo bs ls k) l
      have h2 := netOk_line h hk
      have h3 := netOk_len h
      simp [lineOk, inB] at h2
      omega

theorem start3 (w : World) (t : TypeId) (a b c : Value) :
    Below (w.alloc (.cells #[a, b, c] t)).heap.size (w.alloc (.cells #[a, b, c] t)) (w.alloc (.cells #[a, b, c] t)).drew ∧ (w.alloc (.cells #[a, b, c] t)).drew.cell? ⟨w.heap.size, 0, none⟩ = some a ∧ (w.alloc (.cells #[a, b, c] t)).drew.cell? ⟨w.heap.size, 1, none⟩ = some b ∧ (w.alloc (.cells #[a, b, c] t)).drew.cell? ⟨w.heap.size, 2, none⟩ = some c := by
  obtain ⟨h0, h1, h2, _⟩ := (IsBlk.new w t #[a, b, c]).three
  exact ⟨(Below.refl _ _).drew, h0, h1, h2⟩
theorem keep3 {W wA w' : World} {g : Nat} {a b c : Value}
    (h : Below W.heap.size W wA ∧ wA.cell? ⟨g, 0, none⟩ = some a ∧ wA.cell? ⟨g, 1, none⟩ = some b ∧ wA.cell? ⟨g, 2, none⟩ = some c) (hb : Below wA.heap.size wA w') :
    Below W.heap.size W w' ∧ w'.cell? ⟨g, 0, none⟩ = some a ∧ w'.cell? ⟨g, 1, none⟩ = some b ∧ w'.cell? ⟨g, 2, none⟩ = some c := by
  obtain ⟨h0, h1, h2, h3⟩ := h
  have hg := World.block_lt_of_cell? wA _ h1
  refine ⟨h0.trans (hb.mono h0.size), ?_, ?_, ?_⟩
  · rw [hb.cell (p := ⟨g, 0, none⟩) hg]; exact h1
  · rw [hb.cell (p := ⟨g, 1, none⟩) hg]; exact h2
  · rw [hb.cell (p := ⟨g, 2, none⟩) hg]; exact h3

end Go.Proofs.YtfedffekbemcoaaDoor
