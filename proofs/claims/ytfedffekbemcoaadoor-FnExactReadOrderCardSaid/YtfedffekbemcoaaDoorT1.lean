/- Numerals: spec.l1Number writes the decimal digits of a number that is not below 0. -/
import Derived.Test.YtfedffekbemcoaaDoorBCA
import Derived.Lib.ItoaNum
import Derived.Lib.LaidTab
import Derived.Lib.SmallJoins
import Derived.Laws.IdiomStrings
import Derived.Deep.RegionWith
import Derived.Below
import Derived.IntWalk
namespace Go.Proofs.YtfedffekbemcoaaDoor
open Go.ChangeShapes Go.WideShapes Go.ChangeAt Go.RowKit

/-- The numeral of a number; one digit of it. -/
def decStr (n : Nat) : ByteArray := ⟨(Lib.decDigits n).toArray⟩
def oneStr (d : Nat) : ByteArray := ⟨#[UInt8.ofNat (48 + d)]⟩

theorem decStr_one {n : Nat} (h : n < 10) : decStr n = oneStr n := by
  unfold decStr oneStr
  rw [Lib.decDigits, dif_pos h]

theorem decStr_more {n : Nat} (h : ¬ n < 10) : decStr n = decStr (n / 10) ++ oneStr (n % 10) := by
  unfold decStr oneStr
  rw [Lib.decDigits, dif_neg h]
  apply ByteArray.ext
  simp

theorem nDigits_le (u : Nat) : Lib.nDigits u ≤ u + 1 := by
  induction u using Nat.strongRecOn with
  | _ u ih =>
    by_cases h : u < 10
    · rw [Lib.nDigits_small h]; omega
    · rw [Lib.nDigits_big h]
      have := ih (u / 10) (by omega)
      omega

theorem decStr_size (n : Nat) : (decStr n).size ≤ n + 1 := by
  have h := Lib.decDigits_length n
  have h2 := nDigits_le n
  have h3 : (decStr n).size = (Lib.decDigits n).length := by simp [decStr, ByteArray.size]
  omega

/-- A row of one digit's byte, as a string. -/
theorem one_byte (w : World) (g : Nat) (d : Nat) (x : Int) (hx : x = (48 : Int) + (d : Int)) (hd : d < 10) (h : w.cell? ⟨g, 0, none⟩ = some (.int .u8 x)) :
    (convert 22 9 (.slice (some ⟨g, 0, none⟩) 1 1)).run Tryd.prog w = .ok (.string (oneStr d)) w := by
  subst hx
  exact run_convert_bytes_back (P := Tryd.prog) w 22 9 5 ⟨g, 0, none⟩ 1 [UInt8.ofNat (48 + d)] (by kernel_rfl) (by kernel_rfl) (by kernel_rfl) (by
    intro j hj
    have hj0 : j = 0 := by simpa using hj
    subst hj0
    show w.cell? ⟨g, 0, none⟩ = _
    rw [h]
    simp
    omega)

theorem one_byte_new (w : World) (g : Nat) (d : Nat) (x : Int) (hx : x = (48 : Int) + (d : Int)) (hd : d < 10) (hg : g = w.heap.size) :
    (convert 22 9 (.slice (some ⟨g, 0, none⟩) 1 1)).run Tryd.prog (w.alloc (.cells #[.int .u8 x] 5)) = .ok (.string (oneStr d)) (w.alloc (.cells #[.int .u8 x] 5)) := by
  subst hg
  exact one_byte _ _ d x hx hd (by rw [Go.Joins.cell_alloc_mark_at w _ 5 (0, 0) _ 0 rfl]; simp)

theorem one_byte_drew (w : World) (g : Nat) (d : Nat) (x : Int) (hx : x = (48 : Int) + (d : Int)) (hd : d < 10) (hg : g = w.heap.size) :
    (convert 22 9 (.slice (some ⟨g, 0, none⟩) 1 1)).run Tryd.prog (w.alloc (.cells #[.int .u8 x] 5)).drew = .ok (.string (oneStr d)) (w.alloc (.cells #[.int .u8 x] 5)).drew := by
  subst hg
  exact one_byte _ _ d x hx hd (by show (w.alloc (.cells #[.int .u8 x] 5)).cell? _ = _; rw [Go.Joins.cell_alloc_mark_at w _ 5 (0, 0) _ 0 rfl]; simp)

theorem mid_byte {w w' : World} {d : Nat} {x : Int} (hb : Below (w.alloc (.cells #[.int .u8 x] 5)).drew.heap.size (w.alloc (.cells #[.int .u8 x] 5)).drew w') (hx : x = (48 : Int) + (d : Int)) (hd : d < 10) :
    (convert 22 9 (.slice (some ⟨w.heap.size, 0, none⟩) 1 1)).run Tryd.prog w' = .ok (.string (oneStr d)) w' := by
  refine one_byte w' _ d x hx hd ?_
  rw [hb.cell (p := ⟨w.heap.size, 0, none⟩) (by show w.heap.size < (w.heap.push _).size; rw [Array.size_push]; exact Nat.lt_succ_self _)]
  show (w.alloc (.cells #[.int .u8 x] 5)).cell? _ = _
  rw [Go.Joins.cell_alloc_mark_at w _ 5 (0, 0) _ 0 rfl]
  simp

set_option maxRecDepth 100000 in
theorem l1Number_any : ∀ (n : Nat) (w : World), n ≤ 9223372036854775807 →
    Calls Tryd.prog 47 #[.int .i64 (n : Int)] w fun e w' => e = .returned (.string (decStr n)) ∧ Below w.heap.size w w' := by
  intro n
  induction n using Nat.strongRecOn with
  | _ n ih =>
    intro w hn
    by_cases h10 : n < 10
    · have HC2 := one_byte_new w w.heap.size n _ rfl h10 rfl
      clear ih
      go_enter Tryd.func47, Tryd.ntmps47
      go_wp2
      go_ret
      rw [decStr_one h10]
      exact ⟨rfl, (Below.refl _ _).alloc (Nat.le_refl _) _⟩
    · have hr : ∀ (w : World), Calls Tryd.prog 47 #[.int .i64 ((n : Int) / 10)] w fun e w' => e = .returned (.string (decStr (n / 10))) ∧ Below w.heap.size w w' := by
        intro w
        have := ih (n / 10) (by omega) w (by omega)
        rwa [show (((n / 10 : Nat) : Int)) = (n : Int) / 10 by omega] at this
      have W1 : IntKind.i64.wrap ((n : Int) / 10) = (n : Int) / 10 := IntWalk.i64_in _ (by omega)
      have W2 : IntKind.i64.wrap (48 + (n : Int) % 10) = 48 + (n : Int) % 10 := IntWalk.i64_in _ (by omega)
      have W3 : IntKind.u8.wrap (48 + (n : Int) % 10) = 48 + (n : Int) % 10 := by
        simp [IntKind.wrap, IntKind.bits]
        omega
      have T1 : (n : Int).tmod 10 = (n : Int) % 10 := Int.tmod_eq_emod_of_nonneg (by omega)
      have HC : ∀ (w : World), (convert 22 9 (.slice (some ⟨w.heap.size, 0, none⟩) 1 1)).run Tryd.prog (w.alloc (.cells #[.int .u8 (48 + (n : Int) % 10)] 5)) = .ok (.string (oneStr (n % 10))) (w.alloc (.cells #[.int .u8 (48 + (n : Int) % 10)] 5)) :=
        fun w => one_byte_new w w.heap.size (n % 10) _ (by omega) (by omega) rfl
      have HCd : ∀ (w : World), (convert 22 9 (.slice (some ⟨w.heap.size, 0, none⟩) 1 1)).run Tryd.prog (w.alloc (.cells #[.int .u8 (48 + (n : Int) % 10)] 5)).drew = .ok (.string (oneStr (n % 10))) (w.alloc (.cells #[.int .u8 (48 + (n : Int) % 10)] 5)).drew :=
        fun w => one_byte_drew w w.heap.size (n % 10) _ (by omega) (by omega) rfl
      have HS : ¬ 9223372036854775807 < (decStr (n / 10)).size + (oneStr (n % 10)).size := by
        have h1 := decStr_size (n / 10)
        have h2 : (oneStr (n % 10)).size = 1 := rfl
        omega
      have HX := Lib.hid (show (48 : Int) + (n : Int) % 10 = 48 + ((n % 10 : Nat) : Int) by omega)
      have HD := Lib.hid (show n % 10 < 10 by omega)
      have HI := Lib.hid hr
      clear hr
      clear ih
      go_enter Tryd.func47, Tryd.ntmps47
      go_wp2_with fail
      go_region_with (first | (go_at_call 47; refine (HI.out _).mono ?_; rintro e w' ⟨rfl, hb⟩; first | (have hk := mid_byte hb (d := n % 10) HX.out HD.out) | skip))
      all_goals go_wp2
      all_goals go_ret
      all_goals rw [decStr_more h10]
      all_goals refine ⟨rfl, ?_⟩
      · have h := (Below.refl w.heap.size w).drew
        exact (h.trans (hb.mono h.size)).alloc (h.trans (hb.mono h.size)).size _
      all_goals exact ((Below.refl w.heap.size w).alloc (Nat.le_refl _) _).drew.trans (hb.mono ((Below.refl w.heap.size w).alloc (Nat.le_refl _) _).drew.size)
end Go.Proofs.YtfedffekbemcoaaDoor
