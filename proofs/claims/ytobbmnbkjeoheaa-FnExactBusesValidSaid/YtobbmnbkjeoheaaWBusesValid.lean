/- The exact law of BusesValid: the walk (written by program). -/
import Derived.Test.YtobbmnbkjeoheaaA3
import Derived.Test.YtobbmnbkjeoheaaA4
import Derived.Test.YtobbmnbkjeoheaaA5
import Derived.Test.YtobbmnbkjeoheaaA11
import Derived.Test.YtobbmnbkjeoheaaB1
import Derived.Test.YtobbmnbkjeoheaaB6
import Derived.Test.YtobbmnbkjeoheaaSU1
import Derived.Test.YtobbmnbkjeoheaaV6
import Derived.Deep.DeepCutAuto
namespace Go.Proofs.Ytobbmnbkjeoheaa
open Go.ChangeShapes Go.WideShapes Go.ChangeAt Go.RowKit

set_option maxRecDepth 100000 in
set_option maxHeartbeats 4000000 in
theorem exactBusesValid_walk (w : World) (bs0 : Int) (A0 : Option Addr) (n0 c0 : Nat) (ls0 : List L3) (hn0 : n0 ≤ 9223372036854775807) (hr0 : RowL w A0 n0 ls0) (A1 : Option Addr) (n1 c1 : Nat) (us1 : List TU) (hn1 : n1 ≤ 9223372036854775807) (hr1 : RowU w A1 n1 us1) :
    Calls Try.prog 3 #[.agg #[.int .i64 bs0, .slice A0 n0 c0], .slice A1 n1 c1] w fun e w' => e = .returned (.bool true) ∧ Below w.heap.size w w' := by
  have HR0 := Lib.hid hr0
  have HL0 := Lib.hid hr0.1
  clear hr0
  have HR1 := Lib.hid hr1
  have HL1 := Lib.hid hr1.len
  clear hr1
  by_cases h0 : n0 ≤ 1048576
  rotate_left
  · go_enter Try.func3, Try.ntmps3
    go_wp2_with fail
    refine (szNet_any bs0 A0 n0 c0 hn0 _).mono ?_
    rintro e w1 ⟨rfl, hb1⟩
    simp only [h0, if_false]
    go_wp2
    go_ret
    exact ⟨rfl, (below_bx w _).trans (hb1.mono (by simp))⟩
  by_cases H1 : (n1 : Int) ≤ ((1048576 : Int) - (n0 : Int))
  rotate_left
  · go_enter Try.func3, Try.ntmps3
    go_wp2_with fail
    refine (szNet_any bs0 A0 n0 c0 hn0 _).mono ?_
    rintro e w1 ⟨rfl, hb1⟩
    simp only [h0, if_true]
    have hps1 : ¬ (((1048576 : Int) - (n0 : Int)) < 0) := by omega
    go_wp2_with fail
    refine (szBusS_any A1 n1 c1 ((1048576 : Int) - (n0 : Int)) (by omega) (by omega) hn1 _).mono ?_
    rintro e w' ⟨rfl, rfl⟩
    go_wp2
    go_ret
    exact ⟨rfl, (below_bx w _).trans (hb1.mono (by simp))⟩
  have h1 : n1 ≤ 1048576 := by omega
  go_enter Try.func3, Try.ntmps3
  go_wp2_with fail
  have K_0 := Lib.hid (IsBlk.new w 24 #[.int .i64 bs0, .slice A0 n0 c0])
  have hpos : ¬ ((1048576 : Int) - (n0 : Int) < 0) := by omega
  refine (szNet_any bs0 A0 n0 c0 hn0 _).mono ?_
  rintro e w1 ⟨rfl, hb1⟩
  simp only [h0, if_true]
  have a1 : Below w.heap.size w w1 := (below_bx w (.cells #[.int .i64 bs0, .slice A0 n0 c0] 24)).trans (hb1.mono (below_bx w (.cells #[.int .i64 bs0, .slice A0 n0 c0] 24)).size)
  have Z1 := Lib.hid (show w.heap.size + 1 ≤ w1.heap.size by have := hb1.size; (try simp at this); omega)
  have K_1 := Lib.hid (K_0.out.keep hb1)
  clear K_0
  obtain ⟨K0, K1, K2, K3⟩ := K_1.out.two
  go_wp2_with fail
  refine (szBusS_any A1 n1 c1 ((1048576 : Int) - (n0 : Int)) (by omega) (by omega) hn1 _).mono ?_
  rintro e w' ⟨rfl, rfl⟩
  clear K0 K1 K2 K3
  simp only [H1, if_true]
  have hps1 : ¬ (((1048576 : Int) - (n0 : Int)) - (n1 : Int) < 0) := by omega
  obtain ⟨K0, K1, K2, K3⟩ := K_1.out.two
  go_wp2_with fail
  refine (toNet_any bs0 A0 n0 c0 ls0 _ h0 (HR0.out.below a1)).mono ?_
  rintro e w3 ⟨gs0, rfl, hb3, hgs0, hks0⟩
  clear K0 K1 K2 K3
  have a3 : Below w.heap.size w w3 := a1.trans (hb3.mono a1.size)
  have Z3 := Lib.hid (show w1.heap.size ≤ w3.heap.size by have := hb3.size; (try simp at this); omega)
  have K_2 := Lib.hid (K_1.out.keep hb3)
  clear K_1
  have hlts0 := hks0.lt
  have Ys0_0 := Lib.hid hks0
  clear hks0
  have Bs0 := Lib.hid (show w1.heap.size ≤ gs0 ∧ gs0 < w3.heap.size from ⟨by simpa using hgs0, hlts0⟩)
  clear hgs0 hlts0
  obtain ⟨K0, K1, K2, K3⟩ := K_2.out.two
  go_wp2_with fail
  refine (toBusS_any A1 n1 c1 us1 _ h1 (HR1.out.below a3)).mono ?_
  rintro e w4 ⟨gs1, rfl, hb4, hgs1, hks1⟩
  clear K0 K1 K2 K3
  have a4 : Below w.heap.size w w4 := a3.trans (hb4.mono a3.size)
  have Z4 := Lib.hid (show w3.heap.size ≤ w4.heap.size by have := hb4.size; (try simp at this); omega)
  have K_3 := Lib.hid (K_2.out.keep hb4)
  clear K_2
  have Ys0_1 := Lib.hid (Ys0_0.out.keep hb4)
  clear Ys0_0
  have hlts1 := hks1.lt
  have Ys1_0 := Lib.hid hks1
  clear hks1
  have Bs1 := Lib.hid (show w3.heap.size ≤ gs1 ∧ gs1 < w4.heap.size from ⟨by simpa using hgs1, hlts1⟩)
  clear hgs1 hlts1
  obtain ⟨K0, K1, K2, K3⟩ := K_3.out.two
  go_wp2_with fail
  refine (specBusesValid_any bs0 _ n0 n0 ls0 _ n1 n1 us1 _ h0 (Ys0_1.out.row HL0.out) h1 (Ys1_0.out.rowU HL1.out)).mono ?_
  rintro e w5 ⟨rfl, hb5⟩
  clear K0 K1 K2 K3
  have a5 : Below w.heap.size w w5 := a4.trans (hb5.mono a4.size)
  have Z5 := Lib.hid (show w4.heap.size ≤ w5.heap.size by have := hb5.size; (try simp at this); omega)
  have K_4 := Lib.hid (K_3.out.keep hb5)
  clear K_3
  have Ys0_2 := Lib.hid (Ys0_1.out.keep hb5)
  clear Ys0_1
  have Ys1_1 := Lib.hid (Ys1_0.out.keep hb5)
  clear Ys1_0
  obtain ⟨K0, K1, K2, K3⟩ := K_4.out.two
  go_wp2_with fail
  refine (toNet_any bs0 A0 n0 c0 ls0 _ h0 (HR0.out.below a5)).mono ?_
  rintro e w6 ⟨gx0, rfl, hb6, hgx0, hkx0⟩
  clear K0 K1 K2 K3
  have a6 : Below w.heap.size w w6 := a5.trans (hb6.mono a5.size)
  have Z6 := Lib.hid (show w5.heap.size ≤ w6.heap.size by have := hb6.size; (try simp at this); omega)
  have K_5 := Lib.hid (K_4.out.keep hb6)
  clear K_4
  have hltx0 := hkx0.lt
  have Yx0_0 := Lib.hid hkx0
  clear hkx0
  have Bx0 := Lib.hid (show w5.heap.size ≤ gx0 ∧ gx0 < w6.heap.size from ⟨by simpa using hgx0, hltx0⟩)
  clear hgx0 hltx0
  obtain ⟨K0, K1, K2, K3⟩ := K_5.out.two
  go_wp2_with fail
  clear K0 K1 K2 K3
  have X_0 := Lib.hid (IsBlk.new w6 31 #[.int .i64 bs0, .slice (some ⟨gx0, 0, none⟩) n0 n0])
  have K_6 := Lib.hid (K_5.out.alloc (.cells #[.int .i64 bs0, .slice (some ⟨gx0, 0, none⟩) n0 n0] 31))
  clear K_5
  have Yx0_1 := Lib.hid (Yx0_0.out.alloc (.cells #[.int .i64 bs0, .slice (some ⟨gx0, 0, none⟩) n0 n0] 31))
  clear Yx0_0
  have aX : Below w.heap.size w (w6.alloc (.cells #[.int .i64 bs0, .slice (some ⟨gx0, 0, none⟩) n0 n0] 31)) := a6.alloc a6.size _
  refine (toBusS_any A1 n1 c1 us1 _ h1 (HR1.out.below aX)).mono ?_
  rintro e w7 ⟨gx1, rfl, hb7, hgx1, hkx1⟩
  have a7 : Below w.heap.size w w7 := aX.trans (hb7.mono aX.size)
  have Z7 := Lib.hid (show w6.heap.size + 1 ≤ w7.heap.size by have := hb7.size; (try simp at this); omega)
  have K_7 := Lib.hid (K_6.out.keep hb7)
  clear K_6
  have Yx0_2 := Lib.hid (Yx0_1.out.keep hb7)
  clear Yx0_1
  have X_1 := Lib.hid (X_0.out.keep hb7)
  clear X_0
  have hltx1 := hkx1.lt
  have Yx1_0 := Lib.hid hkx1
  clear hkx1
  have Bx1 := Lib.hid (show w6.heap.size + 1 ≤ gx1 ∧ gx1 < w7.heap.size from ⟨by simpa using hgx1, hltx1⟩)
  clear hgx1 hltx1
  obtain ⟨K0, K1, K2, K3⟩ := K_7.out.two
  obtain ⟨X0, X1, X2, X3⟩ := X_1.out.two
  go_wp2_with fail
  refine (busesValid_any bs0 _ n0 n0 ls0 _ n1 n1 us1 _ h0 (Yx0_2.out.row HL0.out) h1 (Yx1_0.out.rowU HL1.out)).mono ?_
  rintro e w8 ⟨rfl, hb8⟩
  clear K0 K1 K2 K3
  clear X0 X1 X2 X3
  have a8 : Below w.heap.size w w8 := a7.trans (hb8.mono a7.size)
  have Z8 := Lib.hid (show w7.heap.size ≤ w8.heap.size by have := hb8.size; (try simp at this); omega)
  have K_8 := Lib.hid (K_7.out.keep hb8)
  clear K_7
  have Yx0_3 := Lib.hid (Yx0_2.out.keep hb8)
  clear Yx0_2
  have X_2 := Lib.hid (X_1.out.keep hb8)
  clear X_1
  have Yx1_1 := Lib.hid (Yx1_0.out.keep hb8)
  clear Yx1_0
  obtain ⟨K0, K1, K2, K3⟩ := K_8.out.two
  obtain ⟨X0, X1, X2, X3⟩ := X_2.out.two
  go_upto_region 14 with fail
  have RD := Lib.hid (show RowL w8.drew A0 n0 ls0 from HR0.out.below a8.drew)
  have XD := Lib.hid (show IsBlk w8.drew _ 31 #[.int .i64 bs0, .slice (some ⟨gx0, 0, none⟩) n0 n0] from X_2.out)
  have YD := Lib.hid (show IsBlk w8.drew gx0 68 (rowArr fL ls0) from Yx0_3.out)
  go_cut [39] (fun s wx => s = .bool false ∧ Below w8.heap.size w8 wx)
  case first =>
    go_region_with (first
      | (go_at_call 11; refine (toNet_any bs0 A0 n0 c0 ls0 _ h0 RD.out).mono ?_; rintro e wy ⟨gy, rfl, hby, hgy, hky⟩; obtain ⟨r0, r1, _, _⟩ := (XD.out.keep hby).two; have Y8 := Lib.hid (YD.out.keep hby); have K8 := Lib.hid hky; clear hky)
      | (go_at_call 14; refine (eqNet_same bs0 _ _ n0 n0 n0 ls0 _ h0 (Y8.out.row HL0.out) (K8.out.row HL0.out)).mono ?_; rintro e wz ⟨rfl, hbz⟩))
    all_goals (go_wp2_with fail; go_meet; exact ⟨rfl, (((Below.refl w8.heap.size w8).drew).trans hby).trans (hbz.mono hby.size)⟩)
  case rest =>
    obtain ⟨rfl, hb9⟩ := hcut
    clear K0 K1 K2 K3
    clear X0 X1 X2 X3
    clear RD XD YD
    have a9 : Below w.heap.size w wc := a8.trans (hb9.mono a8.size)
    have Z9 := Lib.hid (show w8.heap.size ≤ wc.heap.size by have := hb9.size; (try simp at this); omega)
    have K_9 := Lib.hid (K_8.out.keep hb9)
    clear K_8
    have Yx0_4 := Lib.hid (Yx0_3.out.keep hb9)
    clear Yx0_3
    have X_3 := Lib.hid (X_2.out.keep hb9)
    clear X_2
    have Yx1_2 := Lib.hid (Yx1_1.out.keep hb9)
    clear Yx1_1
    obtain ⟨K0, K1, K2, K3⟩ := K_9.out.two
    obtain ⟨X0, X1, X2, X3⟩ := X_3.out.two
    go_wp2_with fail
    refine (toBusS_any A1 n1 c1 us1 _ h1 (HR1.out.below a9)).mono ?_
    rintro e w10 ⟨gy1, rfl, hb10, hgy1, hky1⟩
    clear K0 K1 K2 K3
    clear X0 X1 X2 X3
    have a10 : Below w.heap.size w w10 := a9.trans (hb10.mono a9.size)
    have Z10 := Lib.hid (show wc.heap.size ≤ w10.heap.size by have := hb10.size; (try simp at this); omega)
    have K_10 := Lib.hid (K_9.out.keep hb10)
    clear K_9
    have Yx0_5 := Lib.hid (Yx0_4.out.keep hb10)
    clear Yx0_4
    have X_4 := Lib.hid (X_3.out.keep hb10)
    clear X_3
    have Yx1_3 := Lib.hid (Yx1_2.out.keep hb10)
    clear Yx1_2
    have hlty1 := hky1.lt
    have Yy1_0 := Lib.hid hky1
    clear hky1
    have By1 := Lib.hid (show wc.heap.size ≤ gy1 ∧ gy1 < w10.heap.size from ⟨by simpa using hgy1, hlty1⟩)
    clear hgy1 hlty1
    obtain ⟨K0, K1, K2, K3⟩ := K_10.out.two
    obtain ⟨X0, X1, X2, X3⟩ := X_4.out.two
    go_wp2_with fail
    refine (eqBusS_same _ _ n1 n1 n1 us1 _ h1 (Yx1_3.out.rowU HL1.out) (Yy1_0.out.rowU HL1.out)).mono ?_
    rintro e w11 ⟨rfl, hb11⟩
    clear K0 K1 K2 K3
    clear X0 X1 X2 X3
    have a11 : Below w.heap.size w w11 := a10.trans (hb11.mono a10.size)
    have Z11 := Lib.hid (show w10.heap.size ≤ w11.heap.size by have := hb11.size; (try simp at this); omega)
    have K_11 := Lib.hid (K_10.out.keep hb11)
    clear K_10
    have Yx0_6 := Lib.hid (Yx0_5.out.keep hb11)
    clear Yx0_5
    have X_5 := Lib.hid (X_4.out.keep hb11)
    clear X_4
    have Yx1_4 := Lib.hid (Yx1_3.out.keep hb11)
    clear Yx1_3
    have Yy1_1 := Lib.hid (Yy1_0.out.keep hb11)
    clear Yy1_0
    go_wp2
    go_ret
    exact ⟨rfl, a11⟩
end Go.Proofs.Ytobbmnbkjeoheaa
