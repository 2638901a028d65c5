/- IslandsOf: how many islands and buses there are at most. -/
import Derived.Test.YtlofhkhfomhdaaaJ1
import Derived.Test.YtlofhkhfomhdaaaJ3
namespace Go.Proofs.Ytlofhkhfomhdaaa
open Go.RowKit

theorem iofF_len (bs : Int) (ls : List L3) (ts : List Bool) : (iofF bs ls ts).length ≤ 8 := by
  rw [iofF]; split
  · rename_i h
    have := (stOk_bs h).2
    rw [List.length_map]
    have := heads_len (edgesOn ls ts) bs.toNat
    omega
  · simp
theorem sum_le_mul (xs : List Nat) (m : Nat) (h : ∀ x ∈ xs, x ≤ m) : xs.sum ≤ xs.length * m := by
  induction xs with
  | nil => simp
  | cons a t ih =>
    have h1 := h a (by simp)
    have h2 := ih (fun x hx => h x (by simp [hx]))
    rw [List.sum_cons, List.length_cons, Nat.succ_mul]; omega
theorem iofF_row {bs : Int} {ls : List L3} {ts : List Bool} {zs : List Int} (h : zs ∈ iofF bs ls ts) : zs.length ≤ 8 := by
  rw [iofF] at h; split at h
  · rename_i hs
    have := (stOk_bs hs).2
    obtain ⟨b, _, rfl⟩ := List.mem_map.1 h
    rw [ofN_len, rchTo_all]
    have := rchTo_len (edgesOn ls ts) b bs.toNat
    omega
  · simp at h
theorem iofF_tot (bs : Int) (ls : List L3) (ts : List Bool) : tot (iofF bs ls ts) (iofF bs ls ts).length ≤ 64 := by
  rw [tot, List.take_length]
  have h1 := sum_le_mul ((iofF bs ls ts).map List.length) 8 (fun x hx => by
    obtain ⟨zs, hz, rfl⟩ := List.mem_map.1 hx
    exact iofF_row hz)
  have h2 := iofF_len bs ls ts
  rw [List.length_map] at h1
  omega
end Go.Proofs.Ytlofhkhfomhdaaa
