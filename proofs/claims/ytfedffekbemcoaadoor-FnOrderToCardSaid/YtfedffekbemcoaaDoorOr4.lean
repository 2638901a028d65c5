/- Switching orders: OrderTo, of the program. -/
import Derived.Test.YtfedffekbemcoaaDoorOr3
import Derived.RegionTactic
namespace Go.Proofs.YtfedffekbemcoaaDoor
open Go.ChangeShapes Go.WideShapes Go.ChangeAt Go.RowKit

set_option maxRecDepth 100000 in
set_option maxHeartbeats 2000000 in
theorem orderTo_any (A : Option Addr) (n c : Nat) (xs : List Bool) (B : Option Addr) (m d : Nat) (ys : List Bool) (w : World) (hn : n ≤ 1048576) (hr : RowT w A n xs) (hm : m ≤ 1048576) (hr' : RowT w B m ys) :
    Calls Tryd.prog 23 #[.slice A n c, .slice B m d] w fun e w' => ∃ v, e = .returned v ∧ OwnP w' w.heap.size v (toO xs ys) ∧ Below w.heap.size w w' := by
  have HX := Lib.hid hr
  have HY := Lib.hid hr'
  have HLX := Lib.hid hr.len
  have HLY := Lib.hid hr'.len
  clear hr hr'
  by_cases h10 : n ≤ 10
  rotate_left
  · have h10' : (10 : Int) < (n : Int) := by omega
    have HF := Lib.hid (show toO xs ys = [] by rw [toO, if_neg (by rw [HLX.out]; exact h10)])
    go_enter Tryd.func23, Tryd.ntmps23
    go_wp2
    go_ret
    refine ⟨_, rfl, ?_, Below.refl _ _⟩
    rw [HF.out]; exact OwnP.nil
  · have h10' : ¬ (10 : Int) < (n : Int) := by omega
    have HF := Lib.hid (show toO xs ys = offL ys (chF xs ys) ++ onL ys (chF xs ys) by rw [toO, if_pos (by rw [HLX.out]; exact h10)])
    have HAt := Lib.hid (fun z (h : z ∈ chF xs ys) => chF_at h)
    have HCL := Lib.hid (chF_len xs ys)
    generalize toO xs ys = res at *
    go_enter Tryd.func23, Tryd.ntmps23
    go_wp2_with fail
    refine (changes_any A n c xs B m d ys _ hn HX.out hm HY.out).mono ?_
    rintro e w1 ⟨v, rfl, hO, hb1⟩
    obtain ⟨Z, cz, rfl, hz⟩ := OwnI.formR hO
    have HZ := Lib.hid hz
    have B1 := Lib.hid hb1
    have HY1 := Lib.hid (HY.out.below hb1)
    clear hO hz hb1 HX
    generalize chF xs ys = zs at *
    have hzl : zs.length ≤ 10 := by have := HCL.out; have := HLX.out; omega
    go_wp2
    go_loopw [5, 6, 16] (fun v5 v6 i wr => ∃ k : Nat, k ≤ zs.length ∧ i = .int .i64 (k : Int) ∧ ToSt w1 wr v5 v6 (offL ys (zs.take k)) (onL ys (zs.take k))) (fun _ _ i _ => zs.length - (intOf i).toNat)
    case atStart => exact ⟨0, by omega, rfl, ToSt.start w1⟩
    case round =>
      obtain ⟨k, hk, rfl, hst⟩ := hrel
      have S := Lib.hid hst
      clear hst
      by_cases hlt : k < zs.length
      · obtain ⟨b, off, z, rfl, hb, hkz, g0⟩ := HZ.out.at_ hlt
        obtain ⟨hxy, j, rfl, hj, _⟩ := HAt.out z (List.mem_of_getElem? hkz)
        have hjm : j < m := by have := HLY.out; omega
        obtain ⟨b', off', t, rfl, hb', hjt, g1⟩ := HY1.out.at_ hjm
        rw [← S.out.bel.cell (p := ⟨b, off + k, none⟩) hb] at g0
        rw [← S.out.bel.cell (p := ⟨b', off' + j, none⟩) hb'] at g1
        have ht : onB ys (j : Int) = t := by rw [onB, Int.toNat_natCast, List.getD_eq_getElem?_getD, hjt]; rfl
        have HT1 := Lib.hid (take_snoc hkz)
        have hl1 := offL_len ys (zs.take k)
        have hl2 := onL_len ys (zs.take k)
        rw [List.length_take] at hl1 hl2
        have L1 := Lib.hid (show (offL ys (zs.take k)).length ≤ 10 by omega)
        have L2 := Lib.hid (show (onL ys (zs.take k)).length ≤ 10 by omega)
        have ho := offL_snoc ys (zs.take k) (j : Int)
        have hq := onL_snoc ys (zs.take k) (j : Int)
        rw [ht, ← HT1.out] at ho hq
        have HO := Lib.hid ho
        have HQ := Lib.hid hq
        clear hkz hjt ht hl1 hl2 ho hq hxy hj HT1
        generalize offL ys (zs.take k) = us at *
        generalize onL ys (zs.take k) = vs at *
        have hjm' : (j : Int) < (m : Int) := by omega
        cases t
        · go_wp2_with (
            at_builtin
            refine wpList_append_step rfl (.tmp 29) (.tmp 32) rfl w1.heap.size wr.heap.size _ us ((j : Int), false) rfl rfl (S.out.own5.alloc _) (newP wr ((j : Int), false) _) (by have := L1.out; omega) (by have := S.out.bel.size; simp; omega) ?_
            intro v' w8 hown hgrow hat
            have S2 := Lib.hid (S.out.push5 _ hown hgrow hat))
          go_roundw
          case rel =>
            refine ⟨k + 1, by omega, by go_num, ?_⟩
            have h := S2.out
            rw [HO.out, HQ.out]; exact h
          case measure => simp [intOf]; omega
        · go_wp2_with (
            at_builtin
            refine wpList_append_step rfl (.tmp 24) (.tmp 27) rfl w1.heap.size wr.heap.size _ vs ((j : Int), true) rfl rfl (S.out.own6.alloc _) (newP wr ((j : Int), true) _) (by have := L2.out; omega) (by have := S.out.bel.size; simp; omega) ?_
            intro v' w8 hown hgrow hat
            have S2 := Lib.hid (S.out.push6 _ hown hgrow hat))
          go_roundw
          case rel =>
            refine ⟨k + 1, by omega, by go_num, ?_⟩
            have h := S2.out
            rw [HO.out, HQ.out]; exact h
          case measure => simp [intOf]; omega
      · obtain rfl : k = zs.length := by omega
        rw [List.take_length] at S
        have L1 := Lib.hid (toO_len2 ys zs)
        generalize offL ys zs = us at *
        generalize onL ys zs = vs at *
        go_wp2_with (
          at_builtin
          refine wpList_append_steps rfl (.tmp 35) (.tmp 36) rfl w1.heap.size w1.heap.size _ _ us vs rfl rfl S.out.own5 S.out.own6 S.out.bel.size (by have := L1.out; omega) ?_
          intro v' w8 hown hgrow hat)
        go_ret
        refine ⟨_, rfl, ?_, B1.out.trans ((S.out.bel.grown hgrow S.out.bel.size (fun q hq => (S.out.own5.lt q hq).1)).mono B1.out.size)⟩
        rw [HF.out]; exact hown.more B1.out.size
end Go.Proofs.YtfedffekbemcoaaDoor
