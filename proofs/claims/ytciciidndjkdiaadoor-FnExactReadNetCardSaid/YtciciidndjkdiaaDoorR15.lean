/- FnReadNet: the walk. -/
import Derived.Test.YtciciidndjkdiaaDoorR10
import Derived.Test.YtciciidndjkdiaaDoorR14
namespace Go.Proofs.YtciciidndjkdiaaDoor
open Go.ChangeShapes Go.WideShapes Go.ChangeAt Go.RowKit

set_option maxRecDepth 100000 in
set_option maxHeartbeats 4000000 in
theorem readNet_walk (hC : CutSays) (hA : AtoiSays) (hSp : SplitSays) (hI : ItoaSays) (w : World) (A : Option Addr) (n c : Nat) (code : List Int) (hr : RowB w A n code) (hnc : n ≤ c) (hc : c ≤ 9223372036854775807) (hl : LibEnv w) :
    Calls Tryd.prog 4 #[.slice A n c] w fun e w' => e = .returned (.bool true) ∧ Below w.heap.size w w' := by
  by_cases hlen : n ≤ 1048576
  · have HE := Lib.hid hl
    have HI := Lib.hid hI
    have HP := Lib.hid (fun (s : ByteArray) (hz : s.size ≤ 1100000) (w : World) (h : LibEnv w) => (readNet_any hC hA hSp hI s w hz h).mono fun e w' he => ReadEnd.gen (by rw [cand_eq] at he; exact (show ReadEnd (readF s) w e w' from he)))
    have HS := Lib.hid (fun (s : ByteArray) (hz : s.size ≤ 1048576) (w : World) => (specReadNet_any s w hz).mono fun e w' he => ReadEnd.gen (show ReadEnd (readF s) w e w' from he))
    clear hC hA hSp hI hl
    go_enter Tryd.func4, Tryd.ntmps4
    go_wp2_with fail
    refine (drawReadNet_any A n c code _ hr hnc hc).mono ?_
    rintro e w1 ⟨s, rfl, hz, b1⟩
    have hn := out3_len s
    have HX := Lib.hid (readF_space s)
    have HP1 := Lib.hid (HP.out s (by omega))
    have HS1 := Lib.hid (HS.out s (by omega))
    have HP2 := Lib.hid (HP.out (s ++ ⟨#[32]⟩) (by rw [ByteArray.size_append]; show s.size + 1 ≤ _; omega))
    have HF := Lib.hid (fun c (h : readF s = some c) => readF_some h)
    clear HP HS hr
    rcases hrd : readF s with _ | ⟨bs, ls⟩
    · rw [hrd] at HP1 HS1
      clear hrd HF HP2 HX hn
      simp only [out3, List.length_nil] at HP1 HS1
      go_wp2_with fail
      refine (HP1.out _ (HE.out.keep b1)).mono ?_
      rintro e w2 ⟨A1, c1, rfl, hO1, hb2⟩
      have b2 := b1.trans (hb2.mono b1.size)
      have b2' : Below w.heap.size w (w2.alloc (.cells #[.int .i64 0, .slice A1 0 c1] 25)) := b2.alloc b2.size _
      have K0_0 := Lib.hid (IsBlk.new w2 25 #[.int .i64 0, .slice A1 0 c1])
      clear hO1 hb2 b2
      go_wp2_with fail
      refine (HS1.out _).mono ?_
      rintro e w3 ⟨A2, c2, rfl, hO2, hb3⟩
      have b3 := b2'.trans (hb3.mono b2'.size)
      have b3' : Below w.heap.size w (w3.alloc (.cells #[.int .i64 0, .slice A2 0 c2] 25)) := b3.alloc b3.size _
      have K0_1 := Lib.hid ((K0_0.out.keep hb3).alloc (.cells #[.int .i64 0, .slice A2 0 c2] 25))
      have K1_0 := Lib.hid (IsBlk.new w3 25 #[.int .i64 0, .slice A2 0 c2])
      have hz3 : w2.heap.size + 1 ≤ w3.heap.size := by have := hb3.size; simpa using this
      clear hO2 hb3 K0_0 b2' b3
      obtain ⟨p0, p1, p2, p3⟩ := K0_1.out.two
      obtain ⟨q0, q1, q2, q3⟩ := K1_0.out.two
      go_wp2_with fail
      refine (sameNet_same 0 A1 A2 0 c1 c2 [] _ (by omega) ⟨rfl, fun h => absurd h (by omega)⟩ ⟨rfl, fun h => absurd h (by omega)⟩).mono ?_
      rintro e w4 ⟨rfl, hb4⟩
      have b4 := b3'.trans (hb4.mono b3'.size)
      have K0_2 := Lib.hid (K0_1.out.keep hb4)
      clear p0 p1 p2 p3 q0 q1 q2 q3 hb4
      obtain ⟨p0, p1, p2, p3⟩ := K0_2.out.two
      go_wp2_with fail
      refine (alive_any _).mono ?_
      rintro e w5 ⟨rfl, hb5⟩
      go_wp2
      go_ret
      exact ⟨rfl, b4.trans (hb5.mono b4.size)⟩
    · obtain ⟨hv, ht⟩ := HF.out _ hrd
      rw [hrd] at HP1 HS1 hn
      rw [HX.out] at HP2
      simp only at hv ht
      have HV := Lib.hid hv
      have HT := Lib.hid ht
      clear hrd HF HX hv ht
      simp only [out3, List.length_nil] at HP1 HS1 HP2 hn
      have hls : ls.length ≤ 1048576 := by omega
      go_wp2_with fail
      refine (HP1.out _ (HE.out.keep b1)).mono ?_
      rintro e w2 ⟨A1, c1, rfl, hO1, hb2⟩
      have b2 := b1.trans (hb2.mono b1.size)
      have hbx := below_bx w2 (.cells #[.int .i64 bs, .slice A1 ls.length c1] 25)
      have b2' : Below w.heap.size w (w2.alloc (.cells #[.int .i64 bs, .slice A1 ls.length c1] 25)) := b2.alloc b2.size _
      have K0_0 := Lib.hid (IsBlk.new w2 25 #[.int .i64 bs, .slice A1 ls.length c1])
      have R0_0 := Lib.hid (hO1.rowL.below hbx)
      clear hO1 hb2 b2 hbx
      go_wp2_with fail
      refine (HS1.out _).mono ?_
      rintro e w3 ⟨A2, c2, rfl, hO2, hb3⟩
      have b3 := b2'.trans (hb3.mono b2'.size)
      have hbx := below_bx w3 (.cells #[.int .i64 bs, .slice A2 ls.length c2] 25)
      have b3' : Below w.heap.size w (w3.alloc (.cells #[.int .i64 bs, .slice A2 ls.length c2] 25)) := b3.alloc b3.size _
      have K0_1 := Lib.hid ((K0_0.out.keep hb3).keep hbx)
      have R0_1 := Lib.hid ((R0_0.out.below hb3).below hbx)
      have R1_0 := Lib.hid (hO2.rowL.below hbx)
      have K1_0 := Lib.hid (IsBlk.new w3 25 #[.int .i64 bs, .slice A2 ls.length c2])
      have hz3 : w2.heap.size + 1 ≤ w3.heap.size := by have := hb3.size; simpa using this
      clear hO2 hb3 K0_0 R0_0 b2' b3 hbx
      obtain ⟨p0, p1, p2, p3⟩ := K0_1.out.two
      obtain ⟨q0, q1, q2, q3⟩ := K1_0.out.two
      go_wp2_with fail
      refine (sameNet_same bs A1 A2 ls.length c1 c2 ls _ hls R0_1.out R1_0.out).mono ?_
      rintro e w4 ⟨rfl, hb4⟩
      have b4 := b3'.trans (hb4.mono b3'.size)
      have K0_2 := Lib.hid (K0_1.out.keep hb4)
      have R0_2 := Lib.hid (R0_1.out.below hb4)
      clear p0 p1 p2 p3 q0 q1 q2 q3 hb4 K0_1 R0_1 R1_0 K1_0
      have hsum : ¬ 9223372036854775807 < s.size + 1 := by omega
      go_wp2_with fail
      refine (HP2.out _ (HE.out.keep b4)).mono ?_
      rintro e w5 ⟨A3, c3, rfl, hO3, hb5⟩
      have b5 := b4.trans (hb5.mono b4.size)
      have hbx := below_bx w5 (.cells #[.int .i64 0, .slice A3 0 c3] 25)
      have b5' : Below w.heap.size w (w5.alloc (.cells #[.int .i64 0, .slice A3 0 c3] 25)) := b5.alloc b5.size _
      have K0_3 := Lib.hid ((K0_2.out.keep hb5).keep hbx)
      have R0_3 := Lib.hid ((R0_2.out.below hb5).below hbx)
      clear hO3 hb5 hbx K0_2 R0_2 b5
      obtain ⟨p0, p1, p2, p3⟩ := K0_3.out.two
      go_wp2_with fail
      refine (netValid_any bs A1 ls.length c1 ls _ hls R0_3.out).mono ?_
      rintro e w6 ⟨rfl, hb6⟩
      rw [HV.out]
      have b6 := b5'.trans (hb6.mono b5'.size)
      have K0_4 := Lib.hid (K0_3.out.keep hb6)
      have R0_4 := Lib.hid (R0_3.out.below hb6)
      clear p0 p1 p2 p3
      obtain ⟨p0, p1, p2, p3⟩ := K0_4.out.two
      go_wp2_with fail
      refine (netText_any HI.out bs A1 ls.length c1 ls _ hls R0_4.out (HE.out.keep b6).pow).mono ?_
      rw [HT.out]
      rintro e w7 ⟨rfl, hb7⟩
      go_wp2
      go_ret
      exact ⟨rfl, b6.trans (hb7.mono b6.size)⟩
  · have hl2 : (1048576 : Int) < (n : Int) := by omega
    go_enter Tryd.func4, Tryd.ntmps4
    go_wp2
    go_ret
    exact ⟨rfl, Below.refl _ _⟩
end Go.Proofs.YtciciidndjkdiaaDoor
