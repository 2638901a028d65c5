/- Reading of texts, the model's half: l1Cut. -/
import Derived.Test.YtfedffekbemcoaaDoorR1
namespace Go.Proofs.YtfedffekbemcoaaDoor
open Go.ChangeShapes Go.WideShapes Go.ChangeAt Go.RowKit

theorem strV_extract (s : ByteArray) (a b : Nat) : Value.string (s.extract a b) = strV ((s.data.toList.drop a).take (b - a)) := by
  unfold strV
  rw [Lib.extract_eq]
theorem cutA_yes {sep : UInt8} {cur r : Bs} {c : UInt8} (h : c = sep) : cutA sep cur (c :: r) = cur :: cutA sep [] r := by rw [cutA, if_pos h]
theorem cutA_no {sep : UInt8} {cur r : Bs} {c : UInt8} (h : ¬ c = sep) : cutA sep cur (c :: r) = cutA sep (cur ++ [c]) r := by rw [cutA, if_neg h]
theorem mid_snoc {s : ByteArray} {f k : Nat} (hf : f ≤ k) (hk : k < s.size) : (s.data.toList.drop f).take (k + 1 - f) = (s.data.toList.drop f).take (k - f) ++ [s[k]] := by
  have hl : k - f < (s.data.toList.drop f).length := by rw [List.length_drop, sized]; omega
  rw [show k + 1 - f = k - f + 1 by omega, List.take_succ_eq_append_getElem hl]
  congr 2
  rw [List.getElem_drop]
  have : f + (k - f) = k := by omega
  simp only [this]; rfl

set_option maxHeartbeats 1000000 in
theorem l1Cut_any (s : ByteArray) (sep : UInt8) (z : Int) (hz : z = (sep.toNat : Int)) (w : World) (hs : s.size ≤ 2000000) :
    Calls Tryd.prog 51 #[.string s, .int .u8 z] w fun e w' => ∃ v, e = .returned v ∧ OwnS w' w.heap.size v (cutA sep [] s.data.toList) ∧ Below w.heap.size w w' := by
  obtain ⟨i0, hi, hz0, hz1, hz2⟩ := info_parts strInfo
  have HI := Lib.hid hi
  have HZ := Lib.hid hz
  clear hi hz
  go_enter Tryd.func51, Tryd.ntmps51
  go_wp2_with fail
  go_loopw [5, 6, 7] (fun v f i wr => ∃ (k j : Nat) (ps : List Bs), k ≤ s.size ∧ j ≤ k ∧ i = .int .i64 k ∧ f = .int .i64 j ∧ OwnS wr w.heap.size v ps ∧ ps.length ≤ k ∧ cutA sep [] s.data.toList = ps ++ cutA sep ((s.data.toList.drop j).take (k - j)) (s.data.toList.drop k) ∧ Below w.heap.size w wr) (fun _ _ i _ => s.size - (intOf i).toNat)
  case atStart =>
    refine ⟨0, 0, [], by omega, by omega, rfl, rfl, ?_, by simp, by simp, (Below.refl _ _).alloc (Nat.le_refl _) _⟩
    simpa [OwnS] using World.ownsRow_lit (base := w.heap.size) (size := 1) (e := 9) w #[] 0 (Nat.le_refl _) (by decide) rfl
  case round =>
    obtain ⟨k, j, ps, hk, hj, rfl, rfl, hown, hlen, hcut, hbel⟩ := hrel
    have HO := Lib.hid hown
    have HC := Lib.hid hcut
    clear hown hcut
    have hz : w.heap.size ≤ wr.heap.size := hbel.size
    by_cases hlt : k < s.size
    · have HK := Lib.hid (drop_at hlt)
      have HM := Lib.hid (mid_snoc hj hlt)
      by_cases he : s[k] = sep
      · have h1 : ((s[k].toNat : Int) == z) = true := by rw [HZ.out, he]; simp
        have HE := Lib.hid (show cutA sep [] s.data.toList = (ps ++ [(s.data.toList.drop j).take (k - j)]) ++ cutA sep ((s.data.toList.drop (k + 1)).take (k + 1 - (k + 1))) (s.data.toList.drop (k + 1)) by
          rw [HC.out, HK.out, cutA_yes he, Nat.sub_self, List.take_zero, List.append_assoc]; rfl)
        clear he
        go_wp2_with (
          at_builtin
          refine wpList_append_own _ rfl _ _ _ rfl w.heap.size 9 i0 (.string ByteArray.empty) 1 16 Tryd.underlying65 HI.out hz0 hz1 hz2 rfl (by decide) _ _ _ rfl (World.ownsRow.alloc HO.out _) ⟨wr.heap.size, 0, none⟩ 1 1 [.string (s.extract j k)] rfl rfl ?c1 ?c2 ?c3 ?c4 ?c5 ?_
          case c1 => exact cell_one_new _ _ _
          case c2 => intro u hu; simp at hu; subst hu; rfl
          case c3 => simp only [maxLen]; omega
          case c4 => omega
          case c5 => simp; omega
          intro v' w3 hown' hgrow _
          have hb3 : Below w.heap.size w w3 := (hbel.alloc hz _).grown hgrow (by simp; omega) (fun q hq => by have := (World.ownsRow.lt HO.out q hq).1; omega))
        go_roundw
        case rel => exact ⟨k + 1, k + 1, ps ++ [(s.data.toList.drop j).take (k - j)], by omega, by omega, by go_num, by go_num, by rw [strV_extract] at hown'; simpa [OwnS] using hown', by simp; omega, HE.out, hb3⟩
        case measure => simp [intOf]; omega
      · have h1 : ((s[k].toNat : Int) == z) = false := by
          rw [HZ.out, beq_eq_false_iff_ne]; exact fun e => he (UInt8.toNat_inj.1 (by omega))
        have HE := Lib.hid (show cutA sep [] s.data.toList = ps ++ cutA sep ((s.data.toList.drop j).take (k + 1 - j)) (s.data.toList.drop (k + 1)) by
          rw [HC.out, HK.out, cutA_no he, HM.out])
        clear he
        go_wp2
        go_roundw
        case rel => exact ⟨k + 1, j, ps, by omega, by omega, by go_num, rfl, HO.out, by omega, HE.out, hbel⟩
        case measure => simp [intOf]; omega
    · obtain rfl : k = s.size := by omega
      have HE := Lib.hid (show cutA sep [] s.data.toList = ps ++ [(s.data.toList.drop j).take (s.size - j)] by
        rw [HC.out, show s.data.toList.drop s.size = [] from List.drop_of_length_le (by rw [sized]; exact Nat.le_refl _)]; rfl)
      go_wp2_with (
        at_builtin
        refine wpList_append_own _ rfl _ _ _ rfl w.heap.size 9 i0 (.string ByteArray.empty) 1 16 Tryd.underlying65 HI.out hz0 hz1 hz2 rfl (by decide) _ _ _ rfl (World.ownsRow.alloc HO.out _) ⟨wr.heap.size, 0, none⟩ 1 1 [.string (s.extract j s.size)] rfl rfl ?c1 ?c2 ?c3 ?c4 ?c5 ?_
        case c1 => exact cell_one_new _ _ _
        case c2 => intro u hu; simp at hu; subst hu; rfl
        case c3 => simp only [maxLen]; omega
        case c4 => omega
        case c5 => simp; omega
        intro v' w3 hown' hgrow _
        have hb3 : Below w.heap.size w w3 := (hbel.alloc hz _).grown hgrow (by simp; omega) (fun q hq => by have := (World.ownsRow.lt HO.out q hq).1; omega))
      go_ret
      exact ⟨_, rfl, by rw [HE.out]; rw [strV_extract] at hown'; simpa [OwnS] using hown', hb3⟩
end Go.Proofs.YtfedffekbemcoaaDoor
