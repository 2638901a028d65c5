/- FnSpanningLines: the walk. -/
import Derived.Test.YtcdliaabbhoagaaDoorU6
import Derived.Test.YtcdliaabbhoagaaDoorQ7
namespace Go.Proofs.YtcdliaabbhoagaaDoor
open Go.ChangeShapes Go.WideShapes Go.ChangeAt Go.RowKit

set_option maxRecDepth 100000 in
set_option maxHeartbeats 4000000 in
theorem spanningLines_walk (w : World) (A : Option Addr) (n c : Nat) (code : List Int) (hr : RowB w A n code) (hnc : n ≤ c) (hc : c ≤ 9223372036854775807) :
    Calls Tryd.prog 4 #[.slice A n c] w fun e w' => e = .returned (.bool true) ∧ Below w.heap.size w w' := by
  by_cases hlen : n ≤ 1048576
  · go_enter Tryd.func4, Tryd.ntmps4
    go_wp2_with fail
    refine (drawSpanningLines_any A n c code _ hr hnc hc).mono ?_
    rintro e w1 ⟨bs, A1, c1, ls, v, ts, rfl, hrow, hls, hb0, hb9, hO, hts, a1⟩
    have hbx := below_bx w1 (.cells #[.int .i64 bs, .slice A1 ls.length c1] 25)
    have HR1 := Lib.hid (hrow.below hbx)
    have k1 := Lib.hid (IsBlk.new w1 25 #[.int .i64 bs, .slice A1 ls.length c1])
    have b1 : Below w.heap.size w (w1.alloc (.cells #[.int .i64 bs, .slice A1 ls.length c1] 25)) := a1.alloc a1.size _
    obtain ⟨A2, c2, rfl, _, hrt⟩ := hO.row
    have T1 := Lib.hid (hrt.below hbx)
    clear hrow hr hO hrt
    have h1 : ls.length ≤ 1048576 := by omega
    have h2 : ts.length ≤ 1048576 := by omega
    have hlr : (spaF bs ls ts).length ≤ 1048576 := Nat.le_trans (spaF_len _ _ _) (by decide)
    go_wp2_with fail
    refine (spanningLines_any bs A1 ls.length c1 ls A2 ts.length c2 ts _ h1 HR1.out h2 T1.out).mono ?_
    rintro e w2 ⟨v2, rfl, hO2, hb2⟩
    have b2 := b1.trans (hb2.mono b1.size)
    have HR2 := Lib.hid (HR1.out.below hb2)
    have k2 := Lib.hid (k1.out.keep hb2)
    have T2 := Lib.hid (T1.out.below hb2)
    have L2 := Lib.hid hO2
    obtain ⟨A3, c3, rfl, _⟩ := hO2.sl
    clear hO2 HR1 k1 T1
    obtain ⟨p0, p1, _, _⟩ := k2.out.two
    go_wp2_with fail
    refine (specSpan_any bs A1 ls.length c1 ls A2 ts.length c2 ts _ h1 HR2.out h2 T2.out).mono ?_
    rintro e w3 ⟨v3, rfl, hO3, hb3⟩
    have b3 := b2.trans (hb3.mono b2.size)
    have HR3 := Lib.hid (HR2.out.below hb3)
    have k3 := Lib.hid (k2.out.keep hb3)
    have T3 := Lib.hid (T2.out.below hb3)
    have L3 := Lib.hid (OwnI.keep L2.out hb3)
    have M3 := Lib.hid hO3
    clear hO3 HR2 k2 T2 L2 p0 p1
    go_wp2_with fail
    refine (sameInts_own hlr L3.out M3.out).mono ?_
    rintro e w4 ⟨rfl, hb4⟩
    have b4 := b3.trans (hb4.mono b3.size)
    have HR4 := Lib.hid (HR3.out.below hb4)
    have k4 := Lib.hid (k3.out.keep hb4)
    have T4 := Lib.hid (T3.out.below hb4)
    have L4 := Lib.hid (OwnI.keep L3.out hb4)
    clear HR3 k3 T3 L3 M3
    obtain ⟨p0, p1, _, _⟩ := k4.out.two
    go_wp2_with fail
    refine (specStateValid_any bs A1 ls.length c1 ls A2 ts.length c2 _ h1 HR4.out (by omega)).mono ?_
    rintro e w5 ⟨rfl, hb5⟩
    have b5 := b4.trans (hb5.mono b4.size)
    have HR5 := Lib.hid (HR4.out.below hb5)
    have k5 := Lib.hid (k4.out.keep hb5)
    have T5 := Lib.hid (T4.out.below hb5)
    have L5 := Lib.hid (OwnI.keep L4.out hb5)
    clear HR4 k4 T4 L4 p0 p1
    by_cases hs : stOk bs ls ts.length = true
    · obtain ⟨hsm, hno, hcn⟩ := span_all hs
      have HX := Lib.hid (onF_span hs)
      have hxl : (spX ls ts ts.length).length = ts.length := spX_len _ _ _
      have HAsc := Lib.hid (spaF_asc bs ls ts)
      have Z5 := Lib.hid L5.out.rowZ
      have hla : (iofF bs ls ts).length ≤ 8 := iofF_few _ _ _
      have hli : (islF bs ls ts).length ≤ 1048576 := Nat.le_trans (islF_len _ _ _) (by decide)
      rw [hs]
      go_wp2_with fail
      refine (onOnly_any ts.length h2 A3 (spaF bs ls ts).length c3 (spaF bs ls ts) _ hlr Z5.out).mono ?_
      rintro e w6 ⟨rfl, hO6, hb6⟩
      rw [HX.out] at hO6
      have b6 := b5.trans (hb6.mono b5.size)
      have hT6 : RowT w6 (some ⟨w5.heap.size, 0, none⟩) ts.length (spX ls ts ts.length) := hO6.rowT
      have hR6 := HR5.out.below hb6
      have hTo := T5.out.below hb6
      have hZ6 := Z5.out.below hb6
      have k6 := k5.out.keep hb6
      have hX6 : w1.heap.size < w6.heap.size := k6.lt
      obtain ⟨p0, p1, _, _⟩ := k6.two
      have CX := fun (W : World) (hW : Below w6.heap.size w6 W) => isl_any bs A1 ls.length c1 ls (some ⟨w5.heap.size, 0, none⟩) ts.length ts.length (spX ls ts ts.length) W h1 (hR6.below hW) h2 (hT6.below hW)
      have CO := fun (W : World) (hW : Below w6.heap.size w6 W) => isl_any bs A1 ls.length c1 ls A2 ts.length c2 ts W h1 (hR6.below hW) h2 (hTo.below hW)
      have CH := fun (W : World) (hW : Below w6.heap.size w6 W) => hasCycle_any bs A1 ls.length c1 ls (some ⟨w5.heap.size, 0, none⟩) ts.length ts.length (spX ls ts ts.length) W h1 (hR6.below hW) h2 (hT6.below hW)
      have CI := fun (W : World) (hW : Below w6.heap.size w6 W) => islands_any bs A1 ls.length c1 ls A2 ts.length c2 ts W h1 (hR6.below hW) h2 (hTo.below hW)
      have CA := fun (W : World) (hW : Below w6.heap.size w6 W) => ascend_any A3 (spaF bs ls ts).length c3 (spaF bs ls ts) W hlr (hZ6.below hW) HAsc.out
      simp only [hsm] at CX
      simp only [hno] at CH
      generalize spX ls ts ts.length = xs at *
      generalize (iofF bs ls ts).length = na at *
      generalize islF bs ls ts = zi at *
      generalize spaF bs ls ts = zs at *
      have hd : IntKind.i64.wrap (bs - (na : Int)) = (zs.length : Int) := by rw [IntWalk.i64_in _ (by omega)]; omega
      have DX := Lib.hid CX
      have DO := Lib.hid CO
      have DH := Lib.hid CH
      have DI := Lib.hid CI
      have DA := Lib.hid CA
      clear CX CO CH CI CA hT6 hR6 hTo hZ6 k6 hO6 HR5 T5 L5 Z5 k5 hs hsm hno hcn HX HAsc hxl
      go_upto_region 10 with fail
      go_region_held3 (fun w' => Below w6.heap.size w6 w' ∧ w'.cell? ⟨w1.heap.size, 0, none⟩ = some (.int .i64 bs) ∧ w'.cell? ⟨w1.heap.size, 1, none⟩ = some (.slice A1 ls.length c1))
        (first | exact holdB p0 p1 hX6 hB12 | exact holdB p0 p1 hX6 hB11 | exact holdB p0 p1 hX6 hB10 | exact holdB p0 p1 hX6 hB9 | exact holdB p0 p1 hX6 hB8 | exact holdB p0 p1 hX6 hB7 | exact holdB p0 p1 hX6 (Below.drew (Below.refl _ _)) | exact holdB p0 p1 hX6 (Below.refl _ _))
        (first
          | (go_at_call 18; (with_reducible refine (DA.out _ (And.left (by assumption))).mono ?_); rintro e w12 ⟨rfl, hb12⟩; have hB12 := runQ (by assumption) hb12)
          | (go_at_call 11; (with_reducible refine (DI.out _ (And.left (by assumption))).mono ?_); rintro e w11 ⟨rfl, hb11⟩; have hB11 := runQ (by assumption) hb11)
          | (go_at_call 6; (with_reducible refine (DH.out _ (And.left (by assumption))).mono ?_); rintro e w10 ⟨rfl, hb10⟩; have hB10 := runQ (by assumption) hb10)
          | (go_at_call 14; (first | refine (sameInts_own hli O7.out P8.out).mono ?_ | refine (sameInts_own hli P7.out O8.out).mono ?_); rintro e w9 ⟨rfl, hb9'⟩; have hB9 := runQ (by assumption) hb9')
          | (go_at_call 17; (with_reducible refine (DX.out _ (And.left (by assumption))).mono ?_); rintro e w7 ⟨v7, rfl, hO7, hb7⟩; have hB7 := runQ (by assumption) hb7; have O7 := Lib.hid hO7; obtain ⟨A7, c7, rfl, _⟩ := hO7.sl; clear hO7; first | (have P8 := Lib.hid (OwnI.keep O8.out hb7)) | skip)
          | (go_at_call 17; (with_reducible refine (DO.out _ (And.left (by assumption))).mono ?_); rintro e w8 ⟨v8, rfl, hO8, hb8⟩; have hB8 := runQ (by assumption) hb8; have O8 := Lib.hid hO8; obtain ⟨A8, c8, rfl, _⟩ := hO8.sl; clear hO8; first | (have P7 := Lib.hid (OwnI.keep O7.out hb8)) | skip))
      rename_i hF
      have bz := b6.trans (hF.1.mono b6.size)
      clear hF
      go_wp2_with fail
      go_ret
      exact ⟨rfl, bz⟩
    · have hs' : stOk bs ls ts.length = false := by rwa [Bool.not_eq_true] at hs
      rw [hs', spaF_not hs']
      go_wp2_with fail
      refine (alive_any _).mono ?_
      rintro e w6 ⟨rfl, hb6⟩
      go_wp2
      go_ret
      exact ⟨rfl, b5.trans (hb6.mono b5.size)⟩
  · have hl2 : (1048576 : Int) < (n : Int) := by omega
    go_enter Tryd.func4, Tryd.ntmps4
    go_wp2
    go_ret
    exact ⟨rfl, Below.refl _ _⟩
end Go.Proofs.YtcdliaabbhoagaaDoor
