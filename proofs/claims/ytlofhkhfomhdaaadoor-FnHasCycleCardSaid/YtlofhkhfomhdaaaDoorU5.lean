/- FnBridgeLines: the walk. -/
import Derived.Test.YtlofhkhfomhdaaaDoorU3
import Derived.Test.YtlofhkhfomhdaaaDoorU4
import Derived.Test.YtlofhkhfomhdaaaDoorQ6
namespace Go.Proofs.YtlofhkhfomhdaaaDoor
open Go.ChangeShapes Go.WideShapes Go.ChangeAt Go.RowKit

theorem bri_at {bs : Int} {ls : List L3} {ts : List Bool} {j : Nat} {z : Int} (h : (linF bs ls ts true)[j]? = some z) : ∃ k : Nat, z = (k : Int) ∧ k < ts.length ∧ stOk bs ls ts.length = true ∧ ((iofF bs ls (ts.set k false)).length : Int) = (iofF bs ls (ts.set k true)).length + 1 := by
  obtain ⟨hs, k, rfl, hk, hl⟩ := linF_at h
  rw [linB, if_pos rfl] at hl
  exact ⟨k, rfl, hk, hs, bri_more hs hk hl⟩
theorem holdB {w w' : World} {X : Nat} {u v : Value} (p0 : w.cell? ⟨X, 0, none⟩ = some u) (p1 : w.cell? ⟨X, 1, none⟩ = some v) (hX : X < w.heap.size) (hb : Below w.heap.size w w') : Below w.heap.size w w' ∧ w'.cell? ⟨X, 0, none⟩ = some u ∧ w'.cell? ⟨X, 1, none⟩ = some v :=
  ⟨hb, (hb.cell (p := ⟨X, 0, none⟩) hX).trans p0, (hb.cell (p := ⟨X, 1, none⟩) hX).trans p1⟩

set_option maxRecDepth 100000 in
set_option maxHeartbeats 2000000 in
theorem bridgeLines_walk (w : World) (A : Option Addr) (n c : Nat) (code : List Int) (hr : RowB w A n code) (hnc : n ≤ c) (hc : c ≤ 9223372036854775807) :
    Calls Tryd.prog 8 #[.slice A n c] w fun e w' => e = .returned (.bool true) ∧ Below w.heap.size w w' := by
  by_cases hlen : n ≤ 1048576
  · go_enter Tryd.func8, Tryd.ntmps8
    go_wp2_with fail
    refine (drawBridgeLines_any A n c code _ hr hnc hc).mono ?_
    rintro e w1 ⟨bs, A1, c1, ls, v, ts, rfl, hrow, hls, hb0, hb9, hO, hts, a1⟩
    have hbx := below_bx w1 (.cells #[.int .i64 bs, .slice A1 ls.length c1] 25)
    have HR1 := Lib.hid (hrow.below hbx)
    have k1 := Lib.hid (IsBlk.new w1 25 #[.int .i64 bs, .slice A1 ls.length c1])
    have b1 : Below w.heap.size w (w1.alloc (.cells #[.int .i64 bs, .slice A1 ls.length c1] 25)) := a1.alloc a1.size _
    obtain ⟨A2, c2, rfl, _, hrt⟩ := hO.row
    have T1 := Lib.hid (hrt.below hbx)
    clear hrow hr hO hrt
    have h1 : ls.length ≤ 1048576 := by omega
    have h2 : ts.length ≤ 1048576 := by omega
    have hlr : (linF bs ls ts true).length ≤ 1048576 := Nat.le_trans (linF_len _ _ _ _) (by decide)
    go_wp2_with fail
    refine (bridgeLines_any bs A1 ls.length c1 ls A2 ts.length c2 ts _ h1 HR1.out h2 T1.out).mono ?_
    rintro e w2 ⟨v2, rfl, hO2, hb2⟩
    have b2 := b1.trans (hb2.mono b1.size)
    have HR2 := Lib.hid (HR1.out.below hb2)
    have k2 := Lib.hid (k1.out.keep hb2)
    have T2 := Lib.hid (T1.out.below hb2)
    have L2 := Lib.hid hO2
    obtain ⟨A3, c3, rfl, _⟩ := hO2.sl
    clear hO2 HR1 k1 T1
    obtain ⟨p0, p1, _, _⟩ := k2.out.two
    go_wp2_with fail
    refine (specBri_any bs A1 ls.length c1 ls A2 ts.length c2 ts _ h1 HR2.out h2 T2.out).mono ?_
    rintro e w3 ⟨v3, rfl, hO3, hb3⟩
    have b3 := b2.trans (hb3.mono b2.size)
    have HR3 := Lib.hid (HR2.out.below hb3)
    have k3 := Lib.hid (k2.out.keep hb3)
    have T3 := Lib.hid (T2.out.below hb3)
    have L3 := Lib.hid (OwnI.keep L2.out hb3)
    have M3 := Lib.hid hO3
    clear hO3 HR2 k2 T2 L2 p0 p1
    go_wp2_with fail
    refine (sameInts_own hlr L3.out M3.out).mono ?_
    rintro e w4 ⟨rfl, hb4⟩
    have b4 := b3.trans (hb4.mono b3.size)
    have HR4 := Lib.hid (HR3.out.below hb4)
    have k4 := Lib.hid (k3.out.keep hb4)
    have T4 := Lib.hid (T3.out.below hb4)
    have L4 := Lib.hid (OwnI.keep L3.out hb4)
    clear HR3 k3 T3 L3 M3
    obtain ⟨p0, p1, _, _⟩ := k4.out.two
    go_wp2_with fail
    refine (specStateValid_any bs A1 ls.length c1 ls A2 ts.length c2 _ h1 HR4.out (by omega)).mono ?_
    rintro e w5 ⟨rfl, hb5⟩
    have b5 := b4.trans (hb5.mono b4.size)
    have HR5 := Lib.hid (HR4.out.below hb5)
    have k5 := Lib.hid (k4.out.keep hb5)
    have T5 := Lib.hid (T4.out.below hb5)
    have L5 := Lib.hid (OwnI.keep L4.out hb5)
    clear HR4 k4 T4 L4 p0 p1
    by_cases hs : stOk bs ls ts.length = true
    · have HAt := Lib.hid (fun (j : Nat) (z : Int) (h : (linF bs ls ts true)[j]? = some z) => bri_at h)
      have HTwo := Lib.hid (lines_two hs)
      have hbl10 := linF_len bs ls ts true
      have hcl10 := linF_len bs ls ts false
      rw [hs]
      generalize linF bs ls ts true = zs at *
      go_wp2_with fail
      go_loopw [6] (fun i wr => ∃ k : Nat, k ≤ zs.length ∧ i = .int .i64 k ∧ Below w5.heap.size w5 wr) (fun i _ => zs.length - (intOf i).toNat)
      case atStart => exact ⟨0, by omega, rfl, Below.refl _ _⟩
      case round =>
        obtain ⟨k, hk, rfl, hbel⟩ := hrel
        have k6 := k5.out.keep hbel
        have hR6 := HR5.out.below hbel
        have hT6 := T5.out.below hbel
        have L6 := Lib.hid (OwnI.keep L5.out hbel)
        obtain ⟨p0, p1, _, _⟩ := k6.two
        by_cases hlt : k < zs.length
        · obtain ⟨bl, ol, z, hAl, hbl, hkl, g0⟩ := L6.out.rowZ.at_ hlt
          obtain ⟨q, rfl, hql, _, hmore⟩ := HAt.out k z hkl
          have CO := fun (W : World) (hW : Below wr.heap.size wr W) => offOn_any bs A1 ls.length c1 ls A2 ts.length c2 ts q W h1 (hR6.below hW) h2 (hT6.below hW)
          rw [sw_in hql hs, sw_in hql hs] at CO
          have HO := Lib.hid CO
          have HR6 := Lib.hid hR6
          have hX : w1.heap.size < wr.heap.size := k6.lt
          have q0 : (0 : Int) ≤ (k : Int) := by omega
          have q1 : (k : Int) < (zs.length : Int) := by omega
          have hla : (iofF bs ls (ts.set q false)).length ≤ 8 := iofF_few _ _ _
          have hlb : (iofF bs ls (ts.set q true)).length ≤ 8 := iofF_few _ _ _
          subst hAl
          clear CO hR6 hT6 k6 hkl hs
          go_upto_region 12 with fail
          go_region_held3 (fun w' => Below wr.heap.size wr w' ∧ w'.cell? ⟨w1.heap.size, 0, none⟩ = some (.int .i64 bs) ∧ w'.cell? ⟨w1.heap.size, 1, none⟩ = some (.slice A1 ls.length c1) ∧ w'.cell? ⟨bl, ol + k, none⟩ = some (.int .i64 (q : Int)))
            (first | exact holdT p0 p1 hX g0 hbl hB8 | exact holdT p0 p1 hX g0 hbl (Below.drew (Below.refl _ _)) | exact holdT p0 p1 hX g0 hbl (Below.refl _ _))
            ((go_at_call 21; (with_reducible refine (HO.out _ (And.left (by assumption))).mono ?_); rintro e w8 ⟨va, vb, rfl, hOa, hOb, hb8⟩; have hB8 := runQ (by assumption) hb8; obtain ⟨Aa, ca, rfl, _, hTa⟩ := hOa.row; obtain ⟨Ab, cb, rfl, _, hTb⟩ := hOb.row))
          rename_i hF
          rw [List.length_set] at hTa hTb
          have pp0 := hF.2.1
          have pp1 := hF.2.2.1
          have b8 : Below w5.heap.size w5 w8 := hbel.trans (hF.1.mono hbel.size)
          have hR8 := HR6.out.below hF.1
          have hX8 := Nat.lt_of_lt_of_le hX hF.1.size
          have CA := fun (W : World) (hW : Below w8.heap.size w8 W) => islands_any bs A1 ls.length c1 ls Aa ts.length ca (ts.set q false) W h1 (hR8.below hW) h2 (hTa.below hW)
          have CB := fun (W : World) (hW : Below w8.heap.size w8 W) => islands_any bs A1 ls.length c1 ls Ab ts.length cb (ts.set q true) W h1 (hR8.below hW) h2 (hTb.below hW)
          generalize (iofF bs ls (ts.set q false)).length = na at *
          generalize (iofF bs ls (ts.set q true)).length = nb at *
          have HA := Lib.hid CA
          have HB := Lib.hid CB
          have hd : ((na : Int) != IntKind.i64.wrap ((nb : Int) + 1)) = false := by rw [IntWalk.i64_in _ (by omega), hmore]; simp
          have hd2 : IntKind.i64.wrap ((nb : Int) + 1) = (na : Int) := by rw [IntWalk.i64_in _ (by omega), hmore]
          clear hF HO HR6 hB8 hb8 hTa hTb hOa hOb g0 p0 p1 hR8 CA CB hmore
          go_upto_region 13 with fail
          go_region_held3 (fun w' => Below w8.heap.size w8 w' ∧ w'.cell? ⟨w1.heap.size, 0, none⟩ = some (.int .i64 bs) ∧ w'.cell? ⟨w1.heap.size, 1, none⟩ = some (.slice A1 ls.length c1))
            (first | exact holdB pp0 pp1 hX8 hB9 | exact holdB pp0 pp1 hX8 hB10 | exact holdB pp0 pp1 hX8 (Below.drew (Below.refl _ _)) | exact holdB pp0 pp1 hX8 (Below.refl _ _))
            (first
              | (go_at_call 22; (with_reducible refine (HA.out _ (And.left (by assumption))).mono ?_); rintro e w9 ⟨rfl, hb9'⟩; have hB9 := runQ (by assumption) hb9')
              | (go_at_call 22; (with_reducible refine (HB.out _ (And.left (by assumption))).mono ?_); rintro e w10 ⟨rfl, hb10⟩; have hB10 := runQ (by assumption) hb10))
          rename_i hF
          have b10 : Below w5.heap.size w5 w10 := b8.trans (hF.1.mono b8.size)
          clear hF HA HB
          go_wp2_with fail
          go_roundw
          case rel => exact ⟨k + 1, by omega, by go_num, b10⟩
          case measure => simp [intOf]; omega
        · have b6 := b5.trans (hbel.mono b5.size)
          have hT6' := Lib.hid hT6
          have hw : IntKind.i64.wrap ((zs.length : Int) + ((linF bs ls ts false).length : Int)) = ((ts.countP id : Nat) : Int) := by
            have := HTwo.out
            rw [IntWalk.i64_in _ (by omega)]; omega
          go_wp2_with fail
          refine (cycleLines_any bs A1 ls.length c1 ls A2 ts.length c2 ts _ h1 hR6 h2 hT6).mono ?_
          rintro e w7 ⟨v7, rfl, hO7, hb7⟩
          obtain ⟨A7, c7, rfl, _⟩ := hO7.sl
          have b7 := b6.trans (hb7.mono b6.size)
          have T7 := Lib.hid (hT6'.out.below hb7)
          clear hO7 hT6 hR6 p0 p1
          go_wp2_with fail
          refine (count_any A2 ts.length c2 ts _ h2 T7.out).mono ?_
          rintro e w8 ⟨rfl, rfl⟩
          go_wp2
          go_ret
          exact ⟨rfl, b7⟩
    · have hs' : stOk bs ls ts.length = false := by rwa [Bool.not_eq_true] at hs
      rw [hs', linF_not hs']
      go_wp2_with fail
      refine (alive_any _).mono ?_
      rintro e w6 ⟨rfl, hb6⟩
      go_wp2
      go_ret
      exact ⟨rfl, b5.trans (hb6.mono b5.size)⟩
  · have hl2 : (1048576 : Int) < (n : Int) := by omega
    go_enter Tryd.func8, Tryd.ntmps8
    go_wp2
    go_ret
    exact ⟨rfl, Below.refl _ _⟩
end Go.Proofs.YtlofhkhfomhdaaaDoor
