/- Switching orders: FnOrderText, FnReadOrder: the walks. -/
import Derived.Test.YtfedffekbemcoaaDoorOrI
import Derived.Test.YtfedffekbemcoaaDoorOrK
import Derived.Test.YtfedffekbemcoaaDoorD3
import Derived.Test.YtfedffekbemcoaaDoorR7
import Derived.Test.YtfedffekbemcoaaDoorT5
namespace Go.Proofs.YtfedffekbemcoaaDoor
open Go.ChangeShapes Go.WideShapes Go.ChangeAt Go.RowKit

set_option maxRecDepth 100000 in
set_option maxHeartbeats 4000000 in
theorem orderText_walk (hC : CutSays) (hA : AtoiSays) (hSp : SplitSaysO) (hI : ItoaSays) (hJ : JoinSays) (w : World) (A : Option Addr) (n c : Nat) (code : List Int) (hr : RowB w A n code) (hnc : n ≤ c) (hc : c ≤ 9223372036854775807) (hl : LibEnv w) :
    Calls Tryd.prog 4 #[.slice A n c] w fun e w' => e = .returned (.bool true) ∧ Below w.heap.size w w' := by
  by_cases hlen : n ≤ 1048576
  · have hlen' : ¬ (1048576 : Int) < (n : Int) := by omega
    have HE := Lib.hid hl
    clear hl
    go_enter Tryd.func4, Tryd.ntmps4
    go_wp2_with fail
    refine (drawOrderText_any A n c code _ hr hnc hc).mono ?_
    rintro e w1 ⟨v, us, rfl, hO, hl, b1⟩
    obtain ⟨Av, cv, rfl, hR⟩ := hO.row
    have R1 := Lib.hid hR
    have O1 := Lib.hid hO
    have B1 := Lib.hid b1
    clear hr hO hR b1
    go_wp2_with fail
    refine (orderText_any hI hJ _ us.length cv us _ (by omega) R1.out (HE.out.keep B1.out).pow).mono ?_
    rintro e w2 ⟨rfl, hb2⟩
    have B2 := Lib.hid (B1.out.trans (hb2.mono B1.out.size))
    have O2 := Lib.hid (O1.out.keep hb2)
    have R2 := Lib.hid (R1.out.below hb2)
    clear hb2
    go_wp2_with fail
    refine (specOrderText_any _ us.length cv us _ (by omega) R2.out).mono ?_
    rintro e w3 ⟨rfl, hb3⟩
    have B3 := Lib.hid (B2.out.trans (hb3.mono B2.out.size))
    have O3 := Lib.hid (O2.out.keep hb3)
    have R3 := Lib.hid (R2.out.below hb3)
    clear hb3
    cases ho : ordOk us
    · have HO := Lib.hid ho
      rw [textO_no ho]
      clear ho
      go_wp2_with fail
      refine (orderValid_any _ us.length cv us _ (by omega) R3.out).mono ?_
      rw [HO.out]
      rintro e w4 ⟨rfl, hb4⟩
      have B4 := Lib.hid (B3.out.trans (hb4.mono B3.out.size))
      go_wp2_with fail
      refine (alive_any _).mono ?_
      rintro e w5 ⟨rfl, hb5⟩
      go_wp2
      go_ret
      exact ⟨rfl, B4.out.trans (hb5.mono B4.out.size)⟩
    · have HP := Lib.hid (readOrder_any hC hA hSp hI hJ (textO us))
      rw [readO_text ho] at HP
      have hz : (textO us).size ≤ 100 := by
        have h2 := listO_size ho
        rw [textO_bytes ho, bytesO_size]; omega
      have he : (textO us).toList.isEmpty = false := by
        rw [Lib.toList_data, textO_list ho, List.isEmpty_eq_false_iff]; exact listO_pos us
      clear ho
      generalize textO us = t at *
      have hne : (t.toList == t.toList) = true := by simp
      go_wp2_with fail
      refine (HP.out _ (by omega) (HE.out.keep B3.out)).mono ?_
      rintro e w4 ⟨x, rfl, hX, hb4⟩
      have B4 := Lib.hid (B3.out.trans (hb4.mono B3.out.size))
      have O4 := Lib.hid (O3.out.keep hb4)
      have X4 := Lib.hid hX
      clear hX hb4
      go_wp2_with fail
      refine (sameSteps_own (by omega) X4.out O4.out).mono ?_
      rintro e w5 ⟨rfl, hb5⟩
      go_wp2
      go_ret
      exact ⟨rfl, B4.out.trans (hb5.mono B4.out.size)⟩
  · have hl2 : (1048576 : Int) < (n : Int) := by omega
    go_enter Tryd.func4, Tryd.ntmps4
    go_wp2
    go_ret
    exact ⟨rfl, Below.refl _ _⟩
set_option maxRecDepth 100000 in
set_option maxHeartbeats 4000000 in
theorem lawReadOrder_walk (hC : CutSays) (hA : AtoiSays) (hSp : SplitSaysO) (hI : ItoaSays) (hJ : JoinSays) (w : World) (A : Option Addr) (n c : Nat) (code : List Int) (hr : RowB w A n code) (hnc : n ≤ c) (hc : c ≤ 9223372036854775807) (hl : LibEnv w) :
    Calls Tryd.prog 5 #[.slice A n c] w fun e w' => e = .returned (.bool true) ∧ Below w.heap.size w w' := by
  by_cases hlen : n ≤ 1048576
  · have hlen' : ¬ (1048576 : Int) < (n : Int) := by omega
    have HE := Lib.hid hl
    have HI := Lib.hid hI
    have HJ := Lib.hid hJ
    have HP := Lib.hid (fun (s : ByteArray) (hz : s.size ≤ 1100000) (w : World) (h : LibEnv w) => readOrder_any hC hA hSp hI hJ s w hz h)
    clear hl hC hA hSp hI hJ
    go_enter Tryd.func5, Tryd.ntmps5
    go_wp2_with fail
    refine (drawReadOrder_any A n c code _ hr hnc hc).mono ?_
    rintro e w1 ⟨s, rfl, hz, b1⟩
    have B1 := Lib.hid b1
    have HP1 := Lib.hid (HP.out s (by omega))
    have HS1 := Lib.hid (fun w => specReadOrder_any s w (by omega))
    have HP2 := Lib.hid (HP.out (s ++ ⟨#[59]⟩) (by rw [ByteArray.size_append]; show s.size + 1 ≤ _; omega))
    rw [readO_semi] at HP2
    have HF := Lib.hid (fun c (h : readO s = some c) => readO_some h)
    clear hr b1 HP
    rcases hrd : readO s with _ | ss
    · rw [hrd] at HP1 HS1
      clear hrd HF HP2
      go_wp2_with fail
      refine (HP1.out _ (HE.out.keep B1.out)).mono ?_
      rintro e w2 ⟨⟨x, rfl, hX⟩, hb2⟩
      have B2 := Lib.hid (B1.out.trans (hb2.mono B1.out.size))
      have X2 := Lib.hid hX
      clear hX hb2
      go_wp2_with fail
      refine (HS1.out _).mono ?_
      rintro e w3 ⟨⟨y, rfl, hY⟩, hb3⟩
      have B3 := Lib.hid (B2.out.trans (hb3.mono B2.out.size))
      have X3 := Lib.hid (X2.out.keep hb3)
      have Y3 := Lib.hid hY
      clear hY hb3 X2
      obtain ⟨Ax, cx, rfl, _⟩ := X3.out.row
      go_wp2_with fail
      refine (sameSteps_own (by simp) X3.out Y3.out).mono ?_
      rintro e w4 ⟨rfl, hb4⟩
      have B4 := Lib.hid (B3.out.trans (hb4.mono B3.out.size))
      go_wp2_with fail
      refine (alive_any _).mono ?_
      rintro e w5 ⟨rfl, hb5⟩
      go_wp2
      go_ret
      exact ⟨rfl, B4.out.trans (hb5.mono B4.out.size)⟩
    · obtain ⟨hv, ht⟩ := HF.out _ hrd
      rw [hrd] at HP1 HS1
      have hsl : ss.length ≤ 12 := ordOk_len hv
      have HT := Lib.hid ht
      clear hrd HF hv ht
      go_wp2_with fail
      refine (HP1.out _ (HE.out.keep B1.out)).mono ?_
      rintro e w2 ⟨x, rfl, hX, hb2⟩
      have B2 := Lib.hid (B1.out.trans (hb2.mono B1.out.size))
      have X2 := Lib.hid hX
      clear hX hb2
      go_wp2_with fail
      refine (HS1.out _).mono ?_
      rintro e w3 ⟨y, rfl, hY, hb3⟩
      have B3 := Lib.hid (B2.out.trans (hb3.mono B2.out.size))
      have X3 := Lib.hid (X2.out.keep hb3)
      have Y3 := Lib.hid hY
      clear hY hb3 X2
      obtain ⟨Ax, cx, rfl, hx⟩ := X3.out.row
      have RX := Lib.hid hx
      clear hx
      go_wp2_with fail
      refine (sameSteps_own (by omega) X3.out Y3.out).mono ?_
      rintro e w4 ⟨rfl, hb4⟩
      have B4 := Lib.hid (B3.out.trans (hb4.mono B3.out.size))
      have R4 := Lib.hid (RX.out.below hb4)
      clear hb4 RX X3 Y3
      have hsum : ¬ 9223372036854775807 < s.size + 1 := by omega
      go_wp2_with fail
      refine (HP2.out _ (HE.out.keep B4.out)).mono ?_
      rintro e w5 ⟨⟨z, rfl, hZ⟩, hb5⟩
      have B5 := Lib.hid (B4.out.trans (hb5.mono B4.out.size))
      have R5 := Lib.hid (R4.out.below hb5)
      clear hZ hb5 R4
      go_wp2_with fail
      refine (orderText_any HI.out HJ.out _ ss.length cx ss _ (by omega) R5.out (HE.out.keep B5.out).pow).mono ?_
      rw [HT.out]
      rintro e w6 ⟨rfl, hb6⟩
      have hne : (s.toList == s.toList) = true := by simp
      go_wp2
      go_ret
      exact ⟨rfl, B5.out.trans (hb6.mono B5.out.size)⟩
  · have hl2 : (1048576 : Int) < (n : Int) := by omega
    go_enter Tryd.func5, Tryd.ntmps5
    go_wp2
    go_ret
    exact ⟨rfl, Below.refl _ _⟩
theorem orderText_row (W : World) (A : Option Addr) (n c : Nat) (code : List Int) (hr : RowB W A n code) (hnc : n ≤ c) (hc : c ≤ 9223372036854775807) (hl : LibEnv W) :
    Calls Tryd.prog 4 #[.slice A n c] W fun e W' => e = .returned (.bool true) ∧ Below W.heap.size W W' :=
  orderText_walk cutSays atoiSays splitSaysO itoaSays joinSays W A n c code hr hnc hc hl
theorem lawReadOrder_row (W : World) (A : Option Addr) (n c : Nat) (code : List Int) (hr : RowB W A n code) (hnc : n ≤ c) (hc : c ≤ 9223372036854775807) (hl : LibEnv W) :
    Calls Tryd.prog 5 #[.slice A n c] W fun e W' => e = .returned (.bool true) ∧ Below W.heap.size W W' :=
  lawReadOrder_walk cutSays atoiSays splitSaysO itoaSays joinSays W A n c code hr hnc hc hl
end Go.Proofs.YtfedffekbemcoaaDoor
