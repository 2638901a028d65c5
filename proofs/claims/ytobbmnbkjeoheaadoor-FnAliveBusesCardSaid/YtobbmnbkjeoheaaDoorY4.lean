/- The laws' own helpers of chapter 5; what a region holds. -/
import Derived.Test.YtobbmnbkjeoheaaDoorD3
import Derived.Test.YtobbmnbkjeoheaaDoorBPA
import Derived.Test.YtobbmnbkjeoheaaDoorBPC
import Derived.Test.YtobbmnbkjeoheaaDoorJ1
import Derived.Test.YtobbmnbkjeoheaaDoorBCD
import Derived.Test.YtobbmnbkjeoheaaDoorV6
import Derived.Test.YtobbmnbkjeoheaaDoorBDC
namespace Go.Proofs.YtobbmnbkjeoheaaDoor
open Go.ChangeShapes Go.WideShapes Go.ChangeAt Go.RowKit

theorem loads_any (A : Option Addr) (n c : Nat) (us : List U2) (w : World) (hn : n ≤ 8) (hf : ∀ b, 0 ≤ ld us b ∧ ld us b ≤ 999) (hr : RowU w A n us) :
    Calls Tryd.prog 21 #[.slice A n c] w fun e w' => e = .returned (.int .i64 (gsum (fun _ => true) (ld us) n)) ∧ w = w' := by
  have HR := Lib.hid hr
  have HF := Lib.hid hf
  clear hr hf
  go_enter Tryd.func21, Tryd.ntmps21
  go_wp2
  go_loop [3, 4] (fun s i => ∃ k : Nat, k ≤ n ∧ i = .int .i64 k ∧ s = .int .i64 (gsum (fun _ => true) (ld us) k)) (fun _ i => n - (intOf i).toNat)
  case atStart => exact ⟨0, by omega, rfl, rfl⟩
  case round =>
    obtain ⟨k, hk, rfl, rfl⟩ := hrel
    by_cases hlt : k < n
    · obtain ⟨b, off, u, rfl, hb, hku, g0, g1⟩ := HR.out.at_ hlt
      have h1 := gall_bd (k := k) HF.out (by omega)
      have h2 := HF.out k
      have HN := Lib.hid (gsum_yes (p := fun _ => true) (f := ld us) (k := k) rfl)
      rw [ld_at hku] at h2 HN
      have v1 : IntKind.i64.wrap (gsum (fun _ => true) (ld us) k + u.2) = gsum (fun _ => true) (ld us) k + u.2 := IntWalk.i64_in _ (by omega)
      clear hku h1 h2
      go_wp2
      go_round
      case rel => exact ⟨k + 1, by omega, by go_num, by rw [HN.out]⟩
      case measure => simp [intOf]; omega
    · obtain rfl : k = n := by omega
      go_wp2
      go_ret
      exact ⟨rfl, rfl⟩

theorem holdH {w w' : World} {X b o b' o' : Nat} {u v x z : Value} (p0 : w.cell? ⟨X, 0, none⟩ = some u) (p1 : w.cell? ⟨X, 1, none⟩ = some v) (hX : X < w.heap.size) (g0 : w.cell? ⟨b, o, none⟩ = some x) (hbb : b < w.heap.size) (e0 : w.cell? ⟨b', o', none⟩ = some z) (hbe : b' < w.heap.size) (hb : Below w.heap.size w w') :
    Below w.heap.size w w' ∧ w'.cell? ⟨X, 0, none⟩ = some u ∧ w'.cell? ⟨X, 1, none⟩ = some v ∧ w'.cell? ⟨b, o, none⟩ = some x ∧ w'.cell? ⟨b', o', none⟩ = some z :=
  ⟨hb, (hb.cell (p := ⟨X, 0, none⟩) hX).trans p0, (hb.cell (p := ⟨X, 1, none⟩) hX).trans p1, (hb.cell (p := ⟨b, o, none⟩) hbb).trans g0, (hb.cell (p := ⟨b', o', none⟩) hbe).trans e0⟩
end Go.Proofs.YtobbmnbkjeoheaaDoor
