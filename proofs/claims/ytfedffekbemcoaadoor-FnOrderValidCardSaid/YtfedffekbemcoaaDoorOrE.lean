/- Switching orders: OrderText, of the model. -/
import Derived.Test.YtfedffekbemcoaaDoorOr0
import Derived.Test.YtfedffekbemcoaaDoorOr2
import Derived.Test.YtfedffekbemcoaaDoorT2
namespace Go.Proofs.YtfedffekbemcoaaDoor
open Go.ChangeShapes Go.WideShapes Go.ChangeAt Go.RowKit

/-- The text of steps as it grows: nothing for no step. -/
def partO : List TP → Bs
  | [] => []
  | p :: r => stepW p ++ r.flatMap fun x => 59 :: stepW x
theorem partO_snoc0 (p : TP) : partO ([] ++ [p]) = stepW p := by simp [partO]
theorem partO_snoc1 {ss : List TP} (h : 0 < ss.length) (p : TP) : partO (ss ++ [p]) = partO ss ++ 59 :: stepW p := by
  cases ss with
  | nil => simp at h
  | cons q r => simp [partO]
theorem partO_list {ss : List TP} (h : 0 < ss.length) : partO ss = listO ss := by
  cases ss with
  | nil => simp at h
  | cons q r => rfl
theorem partO_size {ss : List TP} (h : ∀ p ∈ ss, 0 ≤ p.1 ∧ p.1 ≤ 9) : (partO ss).length ≤ 6 * ss.length := by
  cases ss with
  | nil => simp [partO]
  | cons p r =>
    have h2 := stepW_len (h p (by simp))
    have h3 : (r.flatMap fun x => 59 :: stepW x).length ≤ 6 * r.length := by
      have hr : ∀ q ∈ r, 0 ≤ q.1 ∧ q.1 ≤ 9 := fun q hq => h q (by simp [hq])
      clear h h2
      induction r with
      | nil => simp
      | cons q r ih =>
        rw [List.flatMap_cons, List.length_append]
        have := ih (fun q hq => hr q (by simp [hq]))
        have := stepW_len (hr q (by simp))
        simp only [List.length_cons]; omega
    rw [partO, List.length_append, List.length_cons]; omega
def bytesO (l : Bs) : ByteArray := ⟨l.toArray⟩
theorem bytesO_size (l : Bs) : (bytesO l).size = l.length := by rw [bytesO, Lib.size_eq]
theorem grow_on (s : Bs) (x : Int) : bytesO s ++ ⟨#[111, 110, 32]⟩ ++ decStr x.toNat = bytesO (s ++ stepW (x, true)) := by apply ByteArray.ext; simp [bytesO, decStr, stepW, wordO]
theorem grow_off (s : Bs) (x : Int) : bytesO s ++ ⟨#[111, 102, 102, 32]⟩ ++ decStr x.toNat = bytesO (s ++ stepW (x, false)) := by apply ByteArray.ext; simp [bytesO, decStr, stepW, wordO]
theorem grow_sep (s : Bs) : bytesO s ++ ⟨#[59]⟩ = bytesO (s ++ [59]) := by apply ByteArray.ext; simp [bytesO]
theorem textO_bytes {ss : List TP} (h : ordOk ss = true) : textO ss = bytesO (listO ss) := by rw [textO, if_pos h]; rfl

set_option maxRecDepth 100000 in
set_option maxHeartbeats 4000000 in
theorem specOrderText_any (A : Option Addr) (n c : Nat) (ss : List TP) (w : World) (hn : n ≤ 1048577) (hr : RowP w A n ss) :
    Calls Tryd.prog 17 #[.slice A n c] w fun e w' => e = .returned (.string (textO ss)) ∧ Below w.heap.size w w' := by
  have HR := Lib.hid hr
  have HL := Lib.hid hr.len
  clear hr
  cases ho : ordOk ss
  · have HF := Lib.hid (textO_no ho)
    go_enter Tryd.func17, Tryd.ntmps17
    go_wp2_with fail
    refine (specOrderValid_any A n c ss _ hn HR.out).mono ?_
    rintro e w1 ⟨rfl, rfl⟩
    rw [ho]
    go_wp2
    go_ret
    exact ⟨by rw [HF.out]; rfl, Below.refl _ _⟩
  have HOk := Lib.hid ho
  have HF := Lib.hid (textO_bytes ho)
  clear ho
  have hn12 : n ≤ 12 := by have := ordOk_len HOk.out; have := HL.out; omega
  go_enter Tryd.func17, Tryd.ntmps17
  go_wp2_with fail
  refine (specOrderValid_any A n c ss _ hn HR.out).mono ?_
  rintro e w1 ⟨rfl, rfl⟩
  rw [HOk.out]
  go_wp2
  go_loopw [3, 4] (fun s i wr => ∃ k : Nat, k ≤ n ∧ i = .int .i64 (k : Int) ∧ s = .string (bytesO (partO (ss.take k))) ∧ Below w.heap.size w wr) (fun _ i _ => n - (intOf i).toNat)
  case atStart => exact ⟨0, by omega, rfl, rfl, Below.refl _ _⟩
  case round =>
    obtain ⟨k, hk, rfl, rfl, hbel⟩ := hrel
    have BL := Lib.hid hbel
    clear hbel
    have hsz := partO_size (ss := ss.take k) (fun p hp => (ordOk_iff.1 HOk.out).1 p (List.mem_of_mem_take hp))
    rw [List.length_take] at hsz
    by_cases hlt : k < n
    · obtain ⟨b, off, p, rfl, hb, hkp, g0, g1⟩ := HR.out.at_ hlt
      rw [← BL.out.cell (p := ⟨b, off + k * 2, none⟩) hb] at g0
      rw [← BL.out.cell (p := ⟨b, off + k * 2 + 1, none⟩) hb] at g1
      have hp := ordOk_get HOk.out hkp
      have HT := Lib.hid (take_snocT hkp)
      have hlk : (ss.take k).length = k := by rw [List.length_take]; have := HL.out; omega
      obtain ⟨x, t⟩ := p
      simp only at g0 g1 hp
      have hx0 := hp.1
      have hx9 := hp.2
      have hd := decStr_size x.toNat
      rcases Nat.eq_zero_or_pos k with rfl | hk0
      · have HS := Lib.hid (show partO (ss.take (0 + 1)) = [] ++ stepW (x, t) by rw [HT.out, List.take_zero, partO_snoc0]; rfl)
        rw [List.take_zero] at *
        rw [show partO [] = [] from rfl] at *
        simp only [Nat.zero_mul, Nat.add_zero] at g0 g1
        have hs0 := bytesO_size []
        generalize hS : bytesO [] = S at *
        have HSS := Lib.hid hS.symm
        have n1 : ¬ 9223372036854775807 < S.size + 3 := by rw [hs0]; simp
        have n2 : ¬ 9223372036854775807 < S.size + 4 := by rw [hs0]; simp
        have n3 : ¬ 9223372036854775807 < S.size + 3 + (decStr x.toNat).size := by rw [hs0]; simp; omega
        have n4 : ¬ 9223372036854775807 < S.size + 4 + (decStr x.toNat).size := by rw [hs0]; simp; omega
        clear hd hs0 hS hlk hkp hsz
        cases t
        · go_wp2_with fail
          refine (l1Number_int x _ hx0 (by omega)).mono ?_
          rintro e w2 ⟨rfl, hb2⟩
          go_wp2
          go_roundw
          case rel => exact ⟨0 + 1, by omega, by go_num, by rw [HS.out, HSS.out, grow_off], BL.out.trans (hb2.mono BL.out.size)⟩
          case measure => simp [intOf]; omega
        · go_wp2_with fail
          refine (l1Number_int x _ hx0 (by omega)).mono ?_
          rintro e w2 ⟨rfl, hb2⟩
          go_wp2
          go_roundw
          case rel => exact ⟨0 + 1, by omega, by go_num, by rw [HS.out, HSS.out, grow_on], BL.out.trans (hb2.mono BL.out.size)⟩
          case measure => simp [intOf]; omega
      · have HS := Lib.hid (show partO (ss.take (k + 1)) = (partO (ss.take k) ++ [59]) ++ stepW (x, t) by rw [HT.out, partO_snoc1 (by omega)]; simp)
        have hk0' : (0 : Int) < (k : Int) := by omega
        generalize partO (ss.take k) = l at *
        have hs0 := bytesO_size l
        generalize hS : bytesO l = S at *
        have HSS := Lib.hid hS.symm
        have n0 : ¬ 9223372036854775807 < S.size + 1 := by omega
        have n1 : ¬ 9223372036854775807 < S.size + 1 + 3 := by omega
        have n2 : ¬ 9223372036854775807 < S.size + 1 + 4 := by omega
        have n3 : ¬ 9223372036854775807 < S.size + 1 + 3 + (decStr x.toNat).size := by omega
        have n4 : ¬ 9223372036854775807 < S.size + 1 + 4 + (decStr x.toNat).size := by omega
        clear hd hs0 hS hlk hkp hsz
        cases t
        · go_wp2_with fail
          refine (l1Number_int x _ hx0 (by omega)).mono ?_
          rintro e w2 ⟨rfl, hb2⟩
          go_wp2
          go_roundw
          case rel => exact ⟨k + 1, by omega, by go_num, by rw [HS.out, HSS.out, grow_sep, grow_off], BL.out.trans (hb2.mono BL.out.size)⟩
          case measure => simp [intOf]; omega
        · go_wp2_with fail
          refine (l1Number_int x _ hx0 (by omega)).mono ?_
          rintro e w2 ⟨rfl, hb2⟩
          go_wp2
          go_roundw
          case rel => exact ⟨k + 1, by omega, by go_num, by rw [HS.out, HSS.out, grow_sep, grow_on], BL.out.trans (hb2.mono BL.out.size)⟩
          case measure => simp [intOf]; omega
    · obtain rfl : k = n := by omega
      rw [← HL.out, List.take_length]
      rcases Nat.eq_zero_or_pos ss.length with h0 | h0
      · obtain rfl : ss = [] := List.eq_nil_of_length_eq_zero h0
        rw [show partO [] = [] from rfl]
        have h1 : (bytesO []).toList.isEmpty = true := by rw [Lib.toList_data]; rfl
        go_wp2
        go_ret
        exact ⟨by rw [HF.out]; rfl, BL.out⟩
      · rw [partO_list h0]
        have h1 : (bytesO (listO ss)).toList.isEmpty = false := by
          rw [Lib.toList_data]
          have := listO_pos ss
          show (listO ss).isEmpty = false
          rw [List.isEmpty_eq_false_iff]; exact this
        go_wp2
        go_ret
        exact ⟨by rw [HF.out]; rfl, BL.out⟩
end Go.Proofs.YtfedffekbemcoaaDoor
