/- FnCycleLines: the walk. -/
import Derived.Test.YtlofhkhfomhdaaaDoorD3
import Derived.Test.YtlofhkhfomhdaaaDoorG3
import Derived.Test.YtlofhkhfomhdaaaDoorI9
import Derived.Test.YtlofhkhfomhdaaaDoorK3
import Derived.Test.YtlofhkhfomhdaaaDoorK4
import Derived.Test.YtlofhkhfomhdaaaDoorQ5
import Derived.Test.YtlofhkhfomhdaaaDoorU1
import Derived.Deep.RegionHeld3
namespace Go.Proofs.YtlofhkhfomhdaaaDoor
open Go.ChangeShapes Go.WideShapes Go.ChangeAt Go.RowKit

theorem sw_in {bs : Int} {ls : List L3} {ts : List Bool} {k : Nat} (hk : k < ts.length) (hs : stOk bs ls ts.length = true) (sw : Bool) : swF bs ls ts (k : Int) sw = ts.set k sw := by
  rw [swF, if_pos hs, if_pos (by omega)]; rfl
theorem holdT {w w' : World} {X b o : Nat} {u v x : Value} (p0 : w.cell? ⟨X, 0, none⟩ = some u) (p1 : w.cell? ⟨X, 1, none⟩ = some v) (hX : X < w.heap.size) (g0 : w.cell? ⟨b, o, none⟩ = some x) (hbb : b < w.heap.size) (hb : Below w.heap.size w w') :
    Below w.heap.size w w' ∧ w'.cell? ⟨X, 0, none⟩ = some u ∧ w'.cell? ⟨X, 1, none⟩ = some v ∧ w'.cell? ⟨b, o, none⟩ = some x :=
  ⟨hb, (hb.cell (p := ⟨X, 0, none⟩) hX).trans p0, (hb.cell (p := ⟨X, 1, none⟩) hX).trans p1, (hb.cell (p := ⟨b, o, none⟩) hbb).trans g0⟩
/-- A line of a cycle: it is on, and without it the numbers of the islands are the same. -/
theorem cyc_at {bs : Int} {ls : List L3} {ts : List Bool} {j : Nat} {z : Int} (h : (linF bs ls ts false)[j]? = some z) : ∃ k : Nat, z = (k : Int) ∧ k < ts.length ∧ ts[k]? = some true ∧ stOk bs ls ts.length = true ∧ islF bs ls (ts.set k false) = islF bs ls ts := by
  obtain ⟨hs, k, rfl, hk, hl⟩ := linF_at h
  rw [linB, if_neg (by decide)] at hl
  obtain ⟨h1, h2⟩ := cyc_same hs hk hl
  exact ⟨k, rfl, hk, h2, hs, h1⟩

set_option maxRecDepth 100000 in
set_option maxHeartbeats 2000000 in
theorem cycleLines_walk (w : World) (A : Option Addr) (n c : Nat) (code : List Int) (hr : RowB w A n code) (hnc : n ≤ c) (hc : c ≤ 9223372036854775807) :
    Calls Tryd.prog 7 #[.slice A n c] w fun e w' => e = .returned (.bool true) ∧ Below w.heap.size w w' := by
  by_cases hlen : n ≤ 1048576
  · go_enter Tryd.func7, Tryd.ntmps7
    go_wp2_with fail
    refine (drawCycleLines_any A n c code _ hr hnc hc).mono ?_
    rintro e w1 ⟨bs, A1, c1, ls, v, ts, rfl, hrow, hls, hb0, hb9, hO, hts, a1⟩
    have hbx := below_bx w1 (.cells #[.int .i64 bs, .slice A1 ls.length c1] 25)
    have HR1 := Lib.hid (hrow.below hbx)
    have k1 := Lib.hid (IsBlk.new w1 25 #[.int .i64 bs, .slice A1 ls.length c1])
    have b1 : Below w.heap.size w (w1.alloc (.cells #[.int .i64 bs, .slice A1 ls.length c1] 25)) := a1.alloc a1.size _
    obtain ⟨A2, c2, rfl, _, hrt⟩ := hO.row
    have T1 := Lib.hid (hrt.below hbx)
    clear hrow hr hO hrt
    have h1 : ls.length ≤ 1048576 := by omega
    have h2 : ts.length ≤ 1048576 := by omega
    have hlr : (linF bs ls ts false).length ≤ 1048576 := Nat.le_trans (linF_len _ _ _ _) (by decide)
    have hli : (islF bs ls ts).length ≤ 1048576 := Nat.le_trans (islF_len _ _ _) (by decide)
    go_wp2_with fail
    refine (cycleLines_any bs A1 ls.length c1 ls A2 ts.length c2 ts _ h1 HR1.out h2 T1.out).mono ?_
    rintro e w2 ⟨v2, rfl, hO2, hb2⟩
    have b2 := b1.trans (hb2.mono b1.size)
    have HR2 := Lib.hid (HR1.out.below hb2)
    have k2 := Lib.hid (k1.out.keep hb2)
    have T2 := Lib.hid (T1.out.below hb2)
    have L2 := Lib.hid hO2
    obtain ⟨A3, c3, rfl, _⟩ := hO2.sl
    clear hO2 HR1 k1 T1
    obtain ⟨p0, p1, _, _⟩ := k2.out.two
    go_wp2_with fail
    refine (specCyc_any bs A1 ls.length c1 ls A2 ts.length c2 ts _ h1 HR2.out h2 T2.out).mono ?_
    rintro e w3 ⟨v3, rfl, hO3, hb3⟩
    have b3 := b2.trans (hb3.mono b2.size)
    have HR3 := Lib.hid (HR2.out.below hb3)
    have k3 := Lib.hid (k2.out.keep hb3)
    have T3 := Lib.hid (T2.out.below hb3)
    have L3 := Lib.hid (OwnI.keep L2.out hb3)
    have M3 := Lib.hid hO3
    clear hO3 HR2 k2 T2 L2 p0 p1
    go_wp2_with fail
    refine (sameInts_own hlr L3.out M3.out).mono ?_
    rintro e w4 ⟨rfl, hb4⟩
    have b4 := b3.trans (hb4.mono b3.size)
    have HR4 := Lib.hid (HR3.out.below hb4)
    have k4 := Lib.hid (k3.out.keep hb4)
    have T4 := Lib.hid (T3.out.below hb4)
    have L4 := Lib.hid (OwnI.keep L3.out hb4)
    clear HR3 k3 T3 L3 M3
    obtain ⟨p0, p1, _, _⟩ := k4.out.two
    go_wp2_with fail
    refine (isl_any bs A1 ls.length c1 ls A2 ts.length c2 ts _ h1 HR4.out h2 T4.out).mono ?_
    rintro e w5 ⟨v5, rfl, hO5, hb5⟩
    have b5 := b4.trans (hb5.mono b4.size)
    have HR5 := Lib.hid (HR4.out.below hb5)
    have k5 := Lib.hid (k4.out.keep hb5)
    have T5 := Lib.hid (T4.out.below hb5)
    have L5 := Lib.hid (OwnI.keep L4.out hb5)
    have I5 := Lib.hid hO5
    obtain ⟨A5, c5, rfl, _⟩ := hO5.sl
    clear hO5 HR4 k4 T4 L4 p0 p1
    have HAt := Lib.hid (fun (j : Nat) (z : Int) (h : (linF bs ls ts false)[j]? = some z) => cyc_at h)
    have HAsc := Lib.hid (linF_asc bs ls ts false)
    generalize linF bs ls ts false = zs at *
    go_wp2_with fail
    go_loopw [7] (fun i wr => ∃ k : Nat, k ≤ zs.length ∧ i = .int .i64 k ∧ Below w5.heap.size w5 wr) (fun i _ => zs.length - (intOf i).toNat)
    case atStart => exact ⟨0, by omega, rfl, Below.refl _ _⟩
    case round =>
      obtain ⟨k, hk, rfl, hbel⟩ := hrel
      have k6 := k5.out.keep hbel
      have hR6 := HR5.out.below hbel
      have hT6 := T5.out.below hbel
      have L6 := Lib.hid (OwnI.keep L5.out hbel)
      by_cases hlt : k < zs.length
      · obtain ⟨bl, ol, z, hAl, hbl, hkl, g0⟩ := L6.out.rowZ.at_ hlt
        obtain ⟨q, rfl, hql, hqt, hs, hsame⟩ := HAt.out k z hkl
        have HSame := Lib.hid hsame
        have CO := fun (W : World) (hW : Below wr.heap.size wr W) => offOn_any bs A1 ls.length c1 ls A2 ts.length c2 ts q W h1 (hR6.below hW) h2 (hT6.below hW)
        rw [sw_in hql hs, sw_in hql hs] at CO
        obtain ⟨bt, ot, t, hAt, hbt, hkt, e0⟩ := hT6.at_ hql
        rw [hqt] at hkt; injection hkt with hkt; subst hkt
        obtain ⟨p0, p1, _, _⟩ := k6.two
        have HO := Lib.hid CO
        have HR6 := Lib.hid hR6
        have hX : w1.heap.size < wr.heap.size := k6.lt
        have q0 : (0 : Int) ≤ (k : Int) := by omega
        have q1 : (k : Int) < (zs.length : Int) := by omega
        have q2 : (0 : Int) ≤ (q : Int) := by omega
        have q3 : (q : Int) < (ts.length : Int) := by omega
        subst hAl hAt
        clear CO hR6 hT6 k6 hkl hsame hs hqt
        go_upto_region 11 with fail
        go_region_held3 (fun w' => Below wr.heap.size wr w' ∧ w'.cell? ⟨w1.heap.size, 0, none⟩ = some (.int .i64 bs) ∧ w'.cell? ⟨w1.heap.size, 1, none⟩ = some (.slice A1 ls.length c1) ∧ w'.cell? ⟨bl, ol + k, none⟩ = some (.int .i64 (q : Int)))
          (first | exact holdT p0 p1 hX g0 hbl hB8 | exact holdT p0 p1 hX g0 hbl (Below.drew (Below.refl _ _)) | exact holdT p0 p1 hX g0 hbl (Below.refl _ _))
          ((go_at_call 21; (with_reducible refine (HO.out _ (And.left (by assumption))).mono ?_); rintro e w8 ⟨va, vb, rfl, hOa, hOb, hb8⟩; have hB8 := runQ (by assumption) hb8; obtain ⟨Aa, ca, rfl, _, hTa⟩ := hOa.row; obtain ⟨Ab, cb, rfl, _, _⟩ := hOb.row))
        rename_i hF
        rw [List.length_set] at hTa
        have gg0 := (hF.1.cell (p := ⟨bl, ol + k, none⟩) hbl).trans g0
        have ee0 := (hF.1.cell (p := ⟨bt, ot + q, none⟩) hbt).trans e0
        have pp0 := hF.2.1
        have pp1 := hF.2.2.1
        have b8 : Below w5.heap.size w5 w8 := hbel.trans (hF.1.mono hbel.size)
        have HR8 := Lib.hid (HR6.out.below hF.1)
        have HT8 := Lib.hid hTa
        have I8 := Lib.hid (OwnI.keep I5.out b8)
        clear hF HO HR6 hB8 hb8 hTa hOa hOb g0 e0 p0 p1
        go_wp2_with fail
        refine (isl_any bs A1 ls.length c1 ls Aa ts.length ca (ts.set q false) _ h1 HR8.out h2 HT8.out).mono ?_
        rintro e w9 ⟨v9, rfl, hO9, hb9'⟩
        rw [HSame.out] at hO9
        have J9 := Lib.hid hO9
        have I9 := Lib.hid (OwnI.keep I8.out hb9')
        have b9 := b8.trans (hb9'.mono b8.size)
        obtain ⟨A9, c9, rfl, _⟩ := hO9.sl
        clear hO9 hb9' gg0 ee0 pp0 pp1
        go_wp2_with fail
        refine (sameInts_own hli J9.out I9.out).mono ?_
        rintro e w10 ⟨rfl, hb10⟩
        have b10 := b9.trans (hb10.mono b9.size)
        go_wp2_with fail
        go_roundw
        case rel => exact ⟨k + 1, by omega, by go_num, b10⟩
        case measure => simp [intOf]; omega
      · have b6 := b5.trans (hbel.mono b5.size)
        have Z6 := Lib.hid L6.out.rowZ
        go_wp2_with fail
        refine (ascend_any A3 zs.length c3 zs _ hlr Z6.out HAsc.out).mono ?_
        rintro e w7 ⟨rfl, hb7⟩
        go_wp2_with fail
        refine (alive_any _).mono ?_
        rintro e w8 ⟨rfl, hb8⟩
        go_wp2
        go_ret
        exact ⟨rfl, (b6.trans (hb7.mono b6.size)).trans (hb8.mono (b6.trans (hb7.mono b6.size)).size)⟩
  · have hl2 : (1048576 : Int) < (n : Int) := by omega
    go_enter Tryd.func7, Tryd.ntmps7
    go_wp2
    go_ret
    exact ⟨rfl, Below.refl _ _⟩
end Go.Proofs.YtlofhkhfomhdaaaDoor
