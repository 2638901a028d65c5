/- Bays: the promise of BayRun: the walk. -/
import Derived.Test.YtapbmpodimdkpaaDoorBayK
import Derived.Test.YtapbmpodimdkpaaDoorBay6
import Derived.Deep.AppendLies
import Derived.Deep.RegionLaw
namespace Go.Proofs.YtapbmpodimdkpaaDoor
open Go.ChangeShapes Go.WideShapes Go.ChangeAt Go.RowKit

theorem OwnI.cap9 {e : TypeId} {w : World} {base n c : Nat} {A : Option Addr} {zs : List Int} (h : OwnI e w base (.slice A n c) zs) : n ≤ c := by
  rcases h.2 with ⟨h1, h2⟩ | ⟨g, cap, cur, h1, h2, h3, h4, _⟩
  · injection h1 with _ h3 h4; omega
  · injection h1 with _ h5 h6; omega
theorem RowZ.take9 {w : World} {A : Option Addr} {n q : Nat} {zs : List Int} (h : RowZ w A n zs) (hq : q ≤ n) : RowZ w A q (zs.take q) := by
  have hl := h.len
  refine ⟨by rw [List.length_map, List.length_take]; omega, fun h0 => ?_⟩
  obtain ⟨b, off, e, hb, hc⟩ := h.2 (by omega)
  exact ⟨b, off, e, hb, fun k x hk => hc k x (by rw [List.map_take, List.getElem?_take] at hk; split at hk; exact hk; cases hk)⟩
theorem RowZ.keep9 {w w' : World} {A : Option Addr} {n : Nat} {zs : List Int} (h : RowZ w A n zs) (hb : Below w.heap.size w w') : RowZ w' A n zs := by
  refine ⟨h.1, fun h0 => ?_⟩
  obtain ⟨b, off, e, hlt, hc⟩ := h.2 h0
  exact ⟨b, off, e, Nat.lt_of_lt_of_le hlt hb.size, fun k x hk => (hb.cell (p := ⟨b, off + k, none⟩) hlt).trans (hc k x hk)⟩
theorem undo_next {es : List Int} {j : Nat} {d : Int} (hd : es[j]? = some d) : ((es.drop j).map backF).reverse = ((es.drop (j + 1)).map backF).reverse ++ [backF d] := by
  have hl := (List.getElem?_eq_some_iff.1 hd)
  obtain ⟨hl, he⟩ := hl
  rw [List.drop_eq_getElem_cons hl, he]
  simp
theorem back_emod {d : Int} (h : 0 ≤ d) : backF d = d + 1 - 2 * (d % 2) := by rw [backF, Int.tmod_eq_emod_of_nonneg h]

set_option maxRecDepth 100000 in
set_option maxHeartbeats 8000000 in
theorem lawBayRun_walk (w : World) (A : Option Addr) (n c : Nat) (code : List Int) (hr : RowB w A n code) (hnc : n ≤ c) (hc : c ≤ 9223372036854775807) (hT : MustTab w) :
    Calls Tryd.prog 6 #[.slice A n c] w fun x w' => x = .returned (.bool true) ∧ Below w.heap.size w w' := by
  have HT := Lib.hid hT
  clear hT
  by_cases hbig : 1048576 < n
  · go_enter Tryd.func6, Tryd.ntmps6
    go_wp2
    go_ret
    exact ⟨rfl, Below.refl _ _⟩
  · go_enter Tryd.func6, Tryd.ntmps6
    go_wp2_with fail
    refine (drawBayRun_any A n c code _ hr hnc hc).mono ?_
    rintro x w1 ⟨b, v, ds, rfl, hO, hl8, hb1⟩
    obtain ⟨b0, b1, b2, b3⟩ := b
    obtain ⟨Av, cv, rfl⟩ := OwnI.sl9' hO
    have hcv := OwnI.cap9 hO
    have O1 := Lib.hid (OwnI.alloc hO (.cells #[.bool b0, .bool b1, .bool b2, .bool b3] 24))
    have HDL := Lib.hid (rfl : ds.length = ds.length)
    dsimp only [vB]
    have K1 := Lib.hid (IsBlk.new w1 24 #[.bool b0, .bool b1, .bool b2, .bool b3])
    have a1 := Lib.hid (hb1.alloc hb1.size (.cells #[.bool b0, .bool b1, .bool b2, .bool b3] 24))
    clear hb1 hr hO HDL
    generalize hm : ds.length = m at *
    have HM := Lib.hid hm
    clear hm
    go_wp2_with fail
    refine (bayRun_any b0 b1 b2 b3 Av m cv ds _ (by omega) (OwnI.rowZ O1.out) (HT.out.keep a1.out)).mono ?_
    rintro x w2 ⟨rfl, hb2⟩
    have hle := runF_le ds (b0, b1, b2, b3)
    generalize hx : runF (b0, b1, b2, b3) ds = xr at *
    obtain ⟨⟨x0, x1, x2, x3⟩, q⟩ := xr
    have HX := Lib.hid hx
    have hqm : q ≤ m := by rw [← HM.out]; exact hle
    dsimp only [vB]
    have K2 := Lib.hid ((K1.out.keep hb2).alloc (.cells #[.bool x0, .bool x1, .bool x2, .bool x3] 24))
    have X2 := Lib.hid (IsBlk.new w2 24 #[.bool x0, .bool x1, .bool x2, .bool x3])
    have O2 := Lib.hid (OwnI.alloc (OwnI.keep O1.out hb2) (.cells #[.bool x0, .bool x1, .bool x2, .bool x3] 24))
    have a2' := a1.out.trans (hb2.mono a1.out.size)
    have a2 := Lib.hid (a2'.alloc a2'.size (.cells #[.bool x0, .bool x1, .bool x2, .bool x3] 24))
    obtain ⟨p0, p1, p2, p3, -⟩ := K2.out.four
    clear hb2 K1 O1 a1 a2' hx hle
    go_wp2_with fail
    refine (specBayRun_any b0 b1 b2 b3 Av m cv ds _ (by omega) (OwnI.rowZ O2.out)).mono ?_
    rintro x w3 ⟨rfl, hb3⟩
    rw [HX.out]
    dsimp only [vB]
    have K3 := Lib.hid ((K2.out.keep hb3).alloc (.cells #[.bool x0, .bool x1, .bool x2, .bool x3] 24))
    have X3 := Lib.hid ((X2.out.keep hb3).alloc (.cells #[.bool x0, .bool x1, .bool x2, .bool x3] 24))
    have Y3 := Lib.hid (IsBlk.new w3 24 #[.bool x0, .bool x1, .bool x2, .bool x3])
    have O3 := Lib.hid (OwnI.alloc (OwnI.keep O2.out hb3) (.cells #[.bool x0, .bool x1, .bool x2, .bool x3] 24))
    have a3' := a2.out.trans (hb3.mono a2.out.size)
    have a3 := Lib.hid (a3'.alloc a3'.size (.cells #[.bool x0, .bool x1, .bool x2, .bool x3] 24))
    clear hb3 K2 X2 O2 a2 a3' p0 p1 p2 p3
    obtain ⟨p0, p1, p2, p3, -⟩ := K3.out.four
    obtain ⟨q0, q1, q2, q3, -⟩ := X3.out.four
    obtain ⟨r0, r1, r2, r3, -⟩ := Y3.out.four
    have hcmp := neqBay (x0, x1, x2, x3) (x0, x1, x2, x3)
    rw [decide_eq_true rfl] at hcmp
    dsimp only [vB] at hcmp
    have hn1 : ¬ ((q : Int) < 0) := by omega
    have hn2 : ¬ ((m : Int) < (q : Int)) := by omega
    have hB2 := X3.out.lt
    have hB1 := K3.out.lt
    go_upto_region 8 with fail
    generalize w1.heap.size = B at *
    generalize w2.heap.size = X at *
    generalize w3.alloc (.cells #[.bool x0, .bool x1, .bool x2, .bool x3] 24) = W at *
    clear Y3 r0 r1 r2 r3
    go_cut [59] from 43 to 58 (fun v wx => v = .bool false ∧ Below W.heap.size W wx)
    case first =>
      go_wp2_with fail
      refine (baySafe_any b0 b1 b2 b3 _).mono ?_
      rintro x w4 ⟨rfl, hb4⟩
      obtain ⟨q0', q1', q2', q3', -⟩ := (X3.out.keep hb4).four
      by_cases hs : safeF (b0, b1, b2, b3) = true
      · have hsx : safeF (x0, x1, x2, x3) = true := by have h := safe_run ds _ hs; rw [HX.out] at h; exact h
        rw [hs]
        clear q0 q1 q2 q3 p0 p1 p2 p3
        go_wp2_with fail
        refine (baySafe_any x0 x1 x2 x3 _).mono ?_
        rintro x w5 ⟨rfl, hb5⟩
        rw [hsx]
        go_wp2
        go_meet
        exact ⟨rfl, hb4.trans (hb5.mono hb4.size)⟩
      · rw [Bool.not_eq_true] at hs
        rw [hs]
        go_wp2
        go_meet
        exact ⟨rfl, hb4⟩
    case rest =>
      rename World => w4
      obtain ⟨rfl, hb4⟩ := hcut
      have K4 := Lib.hid (K3.out.keep hb4)
      have X4 := Lib.hid (X3.out.keep hb4)
      have O4 := Lib.hid (OwnI.keep O3.out hb4)
      have a4 := Lib.hid (a3.out.trans (hb4.mono a3.out.size))
      clear hb4 K3 X3 O3 a3 p0 p1 p2 p3 q0 q1 q2 q3 hcmp
      have HTK := Lib.hid (show runF (b0, b1, b2, b3) (ds.take q) = ((x0, x1, x2, x3), q) by have h := run_take ds (b0, b1, b2, b3); rw [HX.out] at h; exact h)
      have hB1 := K4.out.lt
      obtain ⟨p0, p1, p2, p3, -⟩ := K4.out.four
      have hs1 : (0 : Int) ≤ (q : Int) := by omega
      have hs2 : (q : Int) ≤ (cv : Int) := by omega
      go_upto_region 10 with fail
      go_cut [9, 10] from 60 to 67 (fun v u wx => ∃ gz : Nat, v = .pointer (some ⟨gz, 0, none⟩) ∧ u = .int .i64 (q : Int) ∧ IsBlk wx gz 24 #[.bool x0, .bool x1, .bool x2, .bool x3] ∧ Below w4.heap.size w4 wx)
      case first =>
        have HROW := Lib.hid (RowZ.take9 (OwnI.rowZ O4.out) hqm)
        have HT4 := Lib.hid (HT.out.keep a4.out)
        go_region_with (go_at_call 23; refine (bayRun_any b0 b1 b2 b3 Av q cv (ds.take q) _ (by omega) (by first | exact HROW.out.keep9 (Below.refl _ _).drew | exact HROW.out.keep9 (below_bx _ _).drew) (by first | exact HT4.out.keep (Below.refl _ _).drew | exact HT4.out.keep (below_bx _ _).drew)).mono ?_; rintro y w7 ⟨rfl, hb7⟩; (first | (have hkk := newBay hb7; obtain ⟨t0, t1, t2, t3, v0, v1, v2, v3⟩ := hkk.four) | skip); rw [HTK.out]; dsimp only [vB])
        all_goals go_wp2_with fail
        all_goals go_meet
        all_goals first
          | exact ⟨w4.heap.size, rfl, rfl, hkk.put4 _ _ _ _, below_four (newBay_b hb7) (Nat.le_refl _) _ _ _ _⟩
          | exact ⟨w7.heap.size, rfl, rfl, IsBlk.new w7 _ _, (((Below.refl w4.heap.size w4).drew).trans hb7).alloc hb7.size _⟩
      case rest =>
        obtain ⟨gz, rfl, rfl, hZ, hb5⟩ := hcut
        rename World => w5
        have K5 := Lib.hid (K4.out.keep hb5)
        have X5 := Lib.hid (X4.out.keep hb5)
        have Z5 := Lib.hid hZ
        have O5 := Lib.hid (OwnI.keep O4.out hb5)
        have a5 := Lib.hid (a4.out.trans (hb5.mono a4.out.size))
        have L0 := Lib.hid (ownLit w5)
        clear hb5 hZ K4 X4 O4 a4 p0 p1 p2 p3
        go_wp2
        go_loopw [11, 12] (fun v i wr => ∃ (j : Nat) (z : Int) (us : List Int), i = .int .i64 z ∧ z = (j : Int) - 1 ∧ j ≤ q ∧ us = (((ds.take q).drop j).map backF).reverse ∧ OwnI 3 wr w5.heap.size v us ∧ Below w5.heap.size w5 wr) (fun _ i _ => (intOf i + 1).toNat)
        case atStart => exact ⟨q, _, [], rfl, by first | rfl | exact IntWalk.i64_in _ (by omega), by omega, by rw [List.drop_eq_nil_of_le (by rw [List.length_take]; omega)]; rfl, L0.out, below_bx _ _⟩
        case round =>
          obtain ⟨j, z, us, rfl, hz, hj, hus, hown, hbel⟩ := hrel
          have HUS := Lib.hid hus
          have HOW := Lib.hid hown
          have HBL := Lib.hid hbel
          clear hus hown hbel L0
          cases j with
          | succ i =>
            obtain rfl : z = (i : Int) := by omega
            obtain ⟨b', off, d, rfl, hb', hd, g0⟩ := (OwnI.rowZ O5.out).at_ (show i < m by omega)
            rw [← HBL.out.cell (p := ⟨b', off + i, none⟩) hb'] at g0
            have hd07 := run_all_in ds (b0, b1, b2, b3) i d (by rw [HX.out]; exact hj) hd
            obtain ⟨hd0, hd7⟩ := hd07
            have HNX := Lib.hid (undo_next (es := ds.take q) (j := i) (d := d) (by rw [List.getElem?_take, if_pos (by omega)]; exact hd))
            have ii0 : (0 : Int) ≤ (i : Int) := by omega
            have ii1 : (i : Int) < (m : Int) := by omega
            clear hz hd
            obtain ⟨i0, hi, hz0, hz1, hz2⟩ := info_parts intInfo6
            have HI := Lib.hid hi
            have hul : us.length + i + 1 = q := by
              have h1 := HUS.out
              have h2 : (ds.take q).length = q := by rw [List.length_take]; have := HM.out; omega
              rw [h1, List.length_reverse, List.length_map, List.length_drop, h2]; omega
            have HUL := Lib.hid hul
            have hws := HBL.out.size
            obtain ⟨Au, cu, rfl⟩ := OwnI.sl9' HOW.out
            have HCE := Lib.hid (back_emod hd0)
            clear hi hul
            go_upto_region 15 with fail
            have HE := Lib.hid (show IntKind.i64.wrap (IntKind.i64.wrap (d + 1) - IntKind.i64.wrap (2 * d.tmod 2)) = d + 1 - 2 * (d % 2) by
              rw [Int.tmod_eq_emod_of_nonneg hd0, IntWalk.i64_in (d + 1) (by omega), IntWalk.i64_in (2 * (d % 2)) (by omega), IntWalk.i64_in _ (by omega)])
            have OD := Lib.hid (show OwnI 3 (wr.alloc (.cells #[.int .i64 (d + 1 - 2 * (d % 2))] 3)).drew w5.heap.size (.slice Au us.length cu) us from OwnI.alloc HOW.out _)
            have BD := Lib.hid (show Below w5.heap.size w5 (wr.alloc (.cells #[.int .i64 (d + 1 - 2 * (d % 2))] 3)).drew from (HBL.out.alloc hws _).drew)
            go_region_law (
              rw [HE.out]
              refine step_append_lies _ rfl (.tmp 75) (.tmp 88) 34 rfl w5.heap.size 3 i0 (.int .i64 0) 1 8 Tryd.underlying34 HI.out hz0 hz1 hz2 rfl (by decide) (.slice Au us.length cu) us.length (us.map (.int .i64)) rfl OD.out ⟨wr.heap.size, 0, none⟩ 1 1 [.int .i64 (d + 1 - 2 * (d % 2))] rfl rfl ?c1 ?c2 (by decide) ?c3 ?c4 ?c5 _ rfl ?_
              case c1 => exact cell_one_new wr _ _
              case c2 => intro u hu; simp at hu; subst hu; rfl
              case c3 => have := HUL.out; simp only [maxLen]; omega
              case c4 => have := HUL.out; omega
              case c5 => simp [World.drew]; omega
              intro g cap w6 hown' hgrow _ _
              have O6 := Lib.hid (show OwnI 3 w6 w5.heap.size (.slice (some ⟨g, 0, none⟩) (us.length + 1) cap) (us ++ [d + 1 - 2 * (d % 2)]) by simpa [OwnI] using hown')
              have B6 := Lib.hid (BD.out.grown hgrow (by simp [World.drew]; omega) (fun q hq => (OwnI.lt OD.out q hq).1)))
            all_goals go_wp2
            all_goals go_roundw
            all_goals first
              | exact ⟨i, _, us ++ [d + 1 - 2 * (d % 2)], rfl, rfl, by omega, by rw [HNX.out, ← HUS.out, HCE.out], O6.out, B6.out⟩
              | simp [intOf]
          | zero =>
            obtain rfl : z = -1 := by omega
            have hu : us = undoF (ds.take q) := by have h := HUS.out; rw [List.drop_zero] at h; exact h
            have hlt : (ds.take q).length = q := by rw [List.length_take]; have := HM.out; omega
            have hul : us.length = q := by rw [hu, undo_len, hlt]
            obtain ⟨Au, cu, rfl⟩ := OwnI.sl9' HOW.out
            have K6 := Lib.hid (K5.out.keep HBL.out)
            have X6 := Lib.hid (X5.out.keep HBL.out)
            have Z6 := Lib.hid (Z5.out.keep HBL.out)
            have a6 := Lib.hid (a5.out.trans (HBL.out.mono a5.out.size))
            have HU := Lib.hid hu
            have HTL := Lib.hid hlt
            rw [hul] at HOW
            clear hz hu hlt hul K5 X5 Z5 a5 HBL
            obtain ⟨p0, p1, p2, p3, -⟩ := X6.out.four
            rw [show us.length = q by rw [HU.out, undo_len, HTL.out]]
            go_wp2_with fail
            refine (bayRun_any x0 x1 x2 x3 Au q cu us _ (by omega) (OwnI.rowZ HOW.out) (HT.out.keep a6.out)).mono ?_
            rintro x w7 ⟨rfl, hb7⟩
            by_cases hs : safeF (b0, b1, b2, b3) = true
            · have hru := run_undo (ds.take q) (b0, b1, b2, b3) (x0, x1, x2, x3) hs (by rw [HTK.out, HTL.out])
              rw [← HU.out, HTL.out] at hru
              rw [hru]
              dsimp only [vB]
              clear hru
              have K7 := Lib.hid ((K6.out.keep hb7).alloc (.cells #[.bool b0, .bool b1, .bool b2, .bool b3] 24))
              have X7 := Lib.hid ((X6.out.keep hb7).alloc (.cells #[.bool b0, .bool b1, .bool b2, .bool b3] 24))
              have Z7 := Lib.hid ((Z6.out.keep hb7).alloc (.cells #[.bool b0, .bool b1, .bool b2, .bool b3] 24))
              have V7 := Lib.hid (IsBlk.new w7 24 #[.bool b0, .bool b1, .bool b2, .bool b3])
              have a7' := a6.out.trans (hb7.mono a6.out.size)
              have a7 := Lib.hid (a7'.alloc a7'.size (.cells #[.bool b0, .bool b1, .bool b2, .bool b3] 24))
              clear hb7 K6 X6 Z6 a6 a7' p0 p1 p2 p3
              obtain ⟨p0, p1, p2, p3, -⟩ := K7.out.four
              obtain ⟨q0, q1, q2, q3, -⟩ := X7.out.four
              obtain ⟨r0, r1, r2, r3, -⟩ := Z7.out.four
              have hcmp := eqlBay (x0, x1, x2, x3) (x0, x1, x2, x3)
              rw [decide_eq_true rfl] at hcmp
              dsimp only [vB] at hcmp
              go_wp2_with fail
              refine (baySafe_any b0 b1 b2 b3 _).mono ?_
              rintro x w8 ⟨rfl, hb8⟩
              rw [hs]
              have a8 := Lib.hid (a7.out.trans (hb8.mono a7.out.size))
              obtain ⟨s0, s1, s2, s3, -⟩ := (V7.out.keep hb8).four
              clear p0 p1 p2 p3
              obtain ⟨p0, p1, p2, p3, -⟩ := (K7.out.keep hb8).four
              have hc2 := eqlBay (b0, b1, b2, b3) (b0, b1, b2, b3)
              rw [decide_eq_true rfl] at hc2
              dsimp only [vB] at hc2
              go_wp2_with fail
              refine (alive_any _).mono ?_
              rintro x w9 ⟨rfl, hb9⟩
              go_wp2
              go_ret
              exact ⟨rfl, a8.out.trans (hb9.mono a8.out.size)⟩
            · rw [Bool.not_eq_true] at hs
              generalize runF (x0, x1, x2, x3) us = r
              obtain ⟨⟨v0, v1, v2, v3⟩, e⟩ := r
              dsimp only [vB]
              have K7 := Lib.hid ((K6.out.keep hb7).alloc (.cells #[.bool v0, .bool v1, .bool v2, .bool v3] 24))
              have X7 := Lib.hid ((X6.out.keep hb7).alloc (.cells #[.bool v0, .bool v1, .bool v2, .bool v3] 24))
              have Z7 := Lib.hid ((Z6.out.keep hb7).alloc (.cells #[.bool v0, .bool v1, .bool v2, .bool v3] 24))
              have V7 := Lib.hid (IsBlk.new w7 24 #[.bool v0, .bool v1, .bool v2, .bool v3])
              have a7' := a6.out.trans (hb7.mono a6.out.size)
              have a7 := Lib.hid (a7'.alloc a7'.size (.cells #[.bool v0, .bool v1, .bool v2, .bool v3] 24))
              clear hb7 K6 X6 Z6 a6 a7' p0 p1 p2 p3
              obtain ⟨p0, p1, p2, p3, -⟩ := K7.out.four
              obtain ⟨q0, q1, q2, q3, -⟩ := X7.out.four
              obtain ⟨r0, r1, r2, r3, -⟩ := Z7.out.four
              have hcmp := eqlBay (x0, x1, x2, x3) (x0, x1, x2, x3)
              rw [decide_eq_true rfl] at hcmp
              dsimp only [vB] at hcmp
              go_wp2_with fail
              refine (baySafe_any b0 b1 b2 b3 _).mono ?_
              rintro x w8 ⟨rfl, hb8⟩
              rw [hs]
              have a8 := Lib.hid (a7.out.trans (hb8.mono a7.out.size))
              go_wp2_with fail
              refine (alive_any _).mono ?_
              rintro x w9 ⟨rfl, hb9⟩
              go_wp2
              go_ret
              exact ⟨rfl, a8.out.trans (hb9.mono a8.out.size)⟩
end Go.Proofs.YtapbmpodimdkpaaDoor
