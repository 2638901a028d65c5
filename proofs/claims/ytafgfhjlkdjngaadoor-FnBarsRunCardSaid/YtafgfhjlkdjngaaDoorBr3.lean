/- Busbars: bars as a number, of the program. -/
import Derived.Test.YtafgfhjlkdjngaaDoorBr2
import Derived.Test.YtafgfhjlkdjngaaDoorBCC
import Derived.Lib.EndianBits
import Derived.Deep.RegionWith
import Derived.Deep.CutBlock
import Derived.Deep.DeepCutAuto
import Derived.Outline
namespace Go.Proofs.YtafgfhjlkdjngaaDoor
open Go.ChangeShapes Go.WideShapes Go.ChangeAt Go.RowKit

theorem isolatorPlace_any (k j : Nat) (hk : k ≤ 1000) (hj : j ≤ 3) (w : World) :
    Calls Tryd.prog 97 #[.int .i64 k, .int .i64 j] w fun e w' => e = .returned (.int .i64 ((2 * k + j : Nat) : Int)) ∧ w = w' := by
  have hj' : (j : Int) ≤ 3 := by omega
  have hk' : (k : Int) ≤ 1000 := by omega
  go_enter Tryd.func97, Tryd.ntmps97
  go_wp2
  go_ret
  exact ⟨retI (by omega), rfl⟩
theorem wraps63 (n : Int) (h0 : 0 ≤ n) (h1 : n < 2 ^ 63) : IntKind.i64.wrap n = n := by rw [IntKind.wrap_i64]; omega
theorem or_up {p N z : Nat} (hN : N < 2 ^ p) (hz : z ≤ 3) (hp : p ≤ 12) : bits .or .i64 (N : Int) ((z * 2 ^ p : Nat) : Int) = ((N + z * 2 ^ p : Nat) : Int) := by
  have h1 : 2 ^ p ≤ 2 ^ 12 := Nat.pow_le_pow_right (by decide) hp
  have h2 : (2 : Nat) ^ 12 = 4096 := by decide
  have h3 : z * 2 ^ p ≤ 3 * 4096 := Nat.mul_le_mul hz (by omega)
  have := bits_join_low .i64 63 (by decide) wraps63 p (N : Int) ((z * 2 ^ p : Nat) : Int) (by omega) (by exact_mod_cast hN) (by omega) (by omega) (by
    rw [Int.natCast_mul, Int.natCast_pow]; exact Int.mul_emod_left _ _) (by omega)
  rw [this]; omega
theorem and_three (x : Int) (h0 : 0 ≤ x) (h1 : x < 9223372036854775808) : bits .and .i64 x 3 = x % 4 :=
  bits_mask .i64 63 (by decide) wraps63 2 (by decide) x h0 (by omega)
theorem and_one (x : Int) (h0 : 0 ≤ x) (h1 : x < 9223372036854775808) : bits .and .i64 x 1 = x % 2 :=
  bits_mask .i64 63 (by decide) wraps63 1 (by decide) x h0 (by omega)
theorem div_castR (m k : Nat) : (m : Int) / 2 ^ k = ((m / 2 ^ k : Nat) : Int) := by
  rw [Int.natCast_ediv, Int.natCast_pow]; rfl
theorem numS_take {ss : List Int} {k : Nat} {z : Nat} (hz : ss[k]? = some (z : Int)) : numS (ss.take (k + 1)) = numS (ss.take k) + z * 4 ^ k := by
  have hl := (List.getElem?_eq_some_iff.1 hz).1
  rw [List.take_add_one, hz, Option.toList_some, numS_snoc, List.length_take, Nat.min_eq_left (by omega), Int.toNat_natCast]

set_option maxHeartbeats 4000000 in
theorem barsNumber_any (A : Option Addr) (n c : Nat) (ss : List Int) (cp : Bool) (w : World) (hn : n ≤ 6) (hin : ∀ s ∈ ss, 0 ≤ s ∧ s ≤ 3) (hr : RowZ w A n ss) :
    Calls Tryd.prog 61 #[.agg #[.slice A n c, .bool cp]] w fun e w' => e = .returned (.int .i64 (numR (ss, cp) : Int)) ∧ Below w.heap.size w w' := by
  have HR := Lib.hid hr
  have HL := Lib.hid hr.len
  have HIN := Lib.hid hin
  clear hr hin
  obtain ⟨p0, p1, -⟩ := (IsBlk.new w 25 #[.slice A n c, .bool cp]).two
  go_enter Tryd.func61, Tryd.ntmps61
  have HG := Lib.hid (show ∀ (b o : Nat) (x : Value), b < w.heap.size → w.cell? ⟨b, o, none⟩ = some x → (w.alloc (.cells #[.slice A n c, .bool cp] 25)).cell? ⟨b, o, none⟩ = some x from
    fun b o x hb h => ((below_bx w (.cells #[.slice A n c, .bool cp] 25)).cell (p := ⟨b, o, none⟩) hb).trans h)
  obtain ⟨t, ht⟩ : ∃ t, t = cp.toNat := ⟨_, rfl⟩
  have HT := Lib.hid ht
  have ht1 : t ≤ 1 := by rw [ht]; cases cp <;> decide
  clear ht
  cases cp
  all_goals
    go_wp2
    go_loop [3, 11] (fun s i => ∃ (k N : Nat), k ≤ n ∧ i = .int .i64 k ∧ s = .int .i64 N ∧ N = 2 * numS (ss.take k) + t) (fun _ i => n - (intOf i).toNat)
    case atStart => exact ⟨0, t, by omega, rfl, by rw [HT.out]; rfl, by simp [numS]⟩
    case round =>
      obtain ⟨k, N, hk, rfl, rfl, hN⟩ := hrel
      by_cases hlt : k < n
      · obtain ⟨b, off, z, rfl, hb, hz, g0⟩ := HR.out.at_ hlt
        replace g0 := HG.out b (off + k) _ hb g0
        obtain ⟨hz0, hz3⟩ := HIN.out z (List.mem_of_getElem? hz)
        obtain ⟨z, rfl⟩ := Int.eq_ofNat_of_zero_le hz0
        have hst := numS_take hz
        have hnl := numS_lt (ss.take k) (fun s hs => HIN.out s (List.mem_of_mem_take hs))
        have hlen : (ss.take k).length = k := by rw [List.length_take]; have := HL.out; omega
        rw [hlen] at hnl
        have h4 : (4 : Nat) ^ k * 2 = 2 ^ (2 * k + 1) := by rw [show (4 : Nat) = 2 ^ 2 from rfl, ← Nat.pow_mul, Nat.pow_succ]
        obtain ⟨p, hp⟩ : ∃ p, p = 2 * k + 1 := ⟨_, rfl⟩
        rw [← hp] at h4
        have hor := or_up (p := p) (N := N) (z := z) (by omega) (by omega) (by omega)
        have hpc : (2 : Nat) ^ p ≤ 2 ^ 12 := Nat.pow_le_pow_right (by decide) (by omega)
        have hpd : (2 : Nat) ^ 12 = 4096 := by decide
        have hzp : z * 2 ^ p ≤ 3 * 4096 := Nat.mul_le_mul (by omega) (by omega)
        have HN := Lib.hid (show N + z * 2 ^ p = 2 * numS (ss.take (k + 1)) + t by rw [hst, hN, ← h4, ← Nat.mul_assoc, Nat.mul_add]; omega)
        have hsh : (z : Int) * 2 ^ p = ((z * 2 ^ p : Nat) : Int) := by rw [Int.natCast_mul, Int.natCast_pow]; rfl
        have hmin : min p 64 = p := by omega
        have hNb : N < 4096 := by omega
        generalize z * 2 ^ p = X at *
        generalize N + X = N' at *
        have HP := Lib.hid hp
        clear hst hnl hlen h4 hpc hpd hN hz hp
        have ii1 : (k : Int) < (n : Int) := by omega
        go_wp2_with fail
        refine (isolatorPlace_any k 1 (by omega) (by omega) _).mono ?_
        rintro e w' ⟨rfl, rfl⟩
        rw [← HP.out]
        go_wp2
        go_round
        case rel => exact ⟨k + 1, N', by omega, by go_num, rfl, HN.out⟩
        case measure => simp [intOf]; omega
      · obtain rfl : k = n := by omega
        go_wp2
        go_ret
        refine ⟨retI ?_, below_bx _ _⟩
        rw [← HL.out, List.take_length, HT.out, numR]
        simp only
        omega
end Go.Proofs.YtafgfhjlkdjngaaDoor
