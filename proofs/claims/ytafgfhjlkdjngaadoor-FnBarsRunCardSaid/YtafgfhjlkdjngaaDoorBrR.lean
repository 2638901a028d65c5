/- Busbars: the promise of BarsRun: the walk. -/
import Derived.Test.YtafgfhjlkdjngaaDoorBrL
import Derived.Test.YtafgfhjlkdjngaaDoorBrO
import Derived.Test.YtafgfhjlkdjngaaDoorBrB
import Derived.Deep.RegionLaw
namespace Go.Proofs.YtafgfhjlkdjngaaDoor
open Go.ChangeShapes Go.WideShapes Go.ChangeAt Go.RowKit

theorem OwnI.capR {e : TypeId} {w : World} {base n c : Nat} {A : Option Addr} {zs : List Int} (h : OwnI e w base (.slice A n c) zs) : n ≤ c := by
  rcases h.2 with ⟨h1, h2⟩ | ⟨g, cap, cur, h1, h2, h3, h4, _⟩
  · injection h1 with _ h3 h4; omega
  · injection h1 with _ h5 h6; omega
theorem RowZ.takeR {w : World} {A : Option Addr} {n q : Nat} {zs : List Int} (h : RowZ w A n zs) (hq : q ≤ n) : RowZ w A q (zs.take q) := by
  have hl := h.len
  refine ⟨by rw [List.length_map, List.length_take]; omega, fun h0 => ?_⟩
  obtain ⟨b, off, e, hb, hc⟩ := h.2 (by omega)
  exact ⟨b, off, e, hb, fun k x hk => hc k x (by rw [List.map_take, List.getElem?_take] at hk; split at hk; exact hk; cases hk)⟩
theorem RowZ.dropR {w : World} {b off n q : Nat} {zs : List Int} (h : RowZ w (some ⟨b, off, none⟩) n zs) (hq : q ≤ n) : RowZ w (some ⟨b, off + q, none⟩) (n - q) (zs.drop q) := by
  have hl := h.len
  refine ⟨by rw [List.length_map, List.length_drop]; omega, fun h0 => ?_⟩
  obtain ⟨b', off', e, hb, hc⟩ := h.2 (by omega)
  injection e with e
  injection e with e1 e2
  subst e1 e2
  refine ⟨b, off + q, rfl, hb, fun k x hk => ?_⟩
  rw [List.map_drop, List.getElem?_drop] at hk
  have := hc (q + k) x hk
  rwa [Nat.add_assoc]

theorem RowZ.restR {w : World} {A : Option Addr} {n q cv : Nat} {zs : List Int} (h : RowZ w A n zs) (hq : q ≤ n) (hn : n ≤ cv) : RowZ w (if cv = q then A else Option.map (fun x => x.add q) A) (n - q) (zs.drop q) := by
  have hl := h.len
  rcases Nat.eq_zero_or_pos (n - q) with h0 | h0
  · rw [h0, List.drop_eq_nil_of_le (by omega)]; exact RowZ.none_
  · obtain ⟨b, off, e, hb, _⟩ := h.2 (by omega)
    subst e
    rw [if_neg (by omega)]
    have ha : (⟨b, off, none⟩ : Addr).add q = ⟨b, off + q, none⟩ := by unfold Addr.add; split <;> simp_all
    show RowZ w (some ((⟨b, off, none⟩ : Addr).add q)) (n - q) (zs.drop q)
    rw [ha]
    exact RowZ.dropR h hq
theorem two_parts {b : BB} {ds : List Int} {F1 G1 : List Int} {F2 G2 : Bool} {P Q h : Nat} (hok : brsOk b = true) (hG : ((G1, G2), P) = brF b (ds.take h)) (hF : ((F1, F2), Q) = brF b ds) : brF (G1, G2) (ds.drop h) = ((F1, F2), Q - P) ∧ P ≤ Q := by
  rw [brF, if_pos hok] at hG hF
  have hgok : brsOk (G1, G2) = true := by have := run_okR (ds.take h) b hok; rw [← hG] at this; exact this
  have e := run_appR (ds.take h) (ds.drop h) b
  rw [List.take_append_drop, ← hG, ← hF] at e
  simp only [Prod.mk.injEq] at e
  rw [brF, if_pos hgok]
  refine ⟨Prod.ext e.1.symm ?_, ?_⟩
  · simp only; omega
  · omega

set_option maxRecDepth 100000 in
set_option maxHeartbeats 8000000 in
theorem lawBarsRun_walk (w : World) (A : Option Addr) (n c : Nat) (code : List Int) (hr : RowB w A n code) (hnc : n ≤ c) (hc : c ≤ 9223372036854775807) :
    Calls Tryd.prog 3 #[.slice A n c] w fun x w' => x = .returned (.bool true) ∧ Below w.heap.size w w' := by
  by_cases hbig : 1048576 < n
  · go_enter Tryd.func3, Tryd.ntmps3
    go_wp2
    go_ret
    exact ⟨rfl, Below.refl _ _⟩
  go_enter Tryd.func3, Tryd.ntmps3
  go_wp2_with fail
  refine (drawBarsRun_any A n c code _ hr hnc hc).mono ?_
  rintro x w1 ⟨A1, n1, c1, ss, t, v, ds, rfl, hV, hds, hdb, hl, hn1, hn7, hO, hb1⟩
  obtain ⟨Av, cv, hv⟩ := OwnI.shape hV
  subst hv
  obtain ⟨m, hm⟩ : ∃ m, m = ds.length := ⟨_, rfl⟩
  rw [← hm] at hV hds ⊢
  have HM := Lib.hid hm
  clear hm
  have B1 := Lib.hid (LawR.new (t := t) hO (Nat.le_refl _))
  have D1 := Lib.hid (OwnI.alloc hV (.cells #[.slice A1 n1 c1, .bool t] 25))
  have a1 := Lib.hid (hb1.alloc hb1.size (.cells #[.slice A1 n1 c1, .bool t] 25))
  have HL := Lib.hid hl
  have HDB := Lib.hid (show ∀ z ∈ ds, z ≤ 9223372036854775807 from fun z hz => by have := hdb z hz; omega)
  have hn : n1 ≤ 1048576 := by omega
  have hcv : m ≤ cv := OwnI.capR hV
  obtain ⟨F, hF⟩ : ∃ F, F = brF (ss, t) ds := ⟨_, rfl⟩
  have hfl : F.1.1.length ≤ 7 := by rw [hF, brF]; split; rw [run_lenR]; simp only; omega; simp
  have hfq : F.2 ≤ m := by rw [hF, brF, HM.out]; split; exact run_leR _ _; simp
  have HF := Lib.hid hF
  obtain ⟨⟨F1, F2⟩, Q⟩ := F
  dsimp only at hfl hfq
  clear hb1 hr hO hl hF hV hdb
  go_wp2_with fail
  refine (barsRun_any A1 n1 c1 ss t Av m cv ds _ hn B1.out.row (by omega) (OwnI.rowZ D1.out)).mono ?_
  rintro x w2 ⟨v2, rfl, hO, hb2⟩
  rw [← HF.out] at hO
  rw [← HF.out]
  dsimp only [vR] at hO ⊢
  obtain ⟨A2, c2, hv2⟩ := OwnI.shape hO
  subst hv2
  have B2 := Lib.hid ((B1.out.next hb2).alloc (.cells #[.slice A2 F1.length c2, .bool F2] 25))
  have D2 := Lib.hid (OwnI.alloc (OwnI.keep D1.out hb2) (.cells #[.slice A2 F1.length c2, .bool F2] 25))
  have X2 := Lib.hid (LawR.new (w := w) (t := F2) hO a1.out.size)
  have a2' := a1.out.trans (hb2.mono a1.out.size)
  have a2 := Lib.hid (a2'.alloc a2'.size (.cells #[.slice A2 F1.length c2, .bool F2] 25))
  clear hb2 hO B1 D1 a1 a2'
  obtain ⟨p0, p1, -⟩ := B2.out.box.two
  go_wp2_with fail
  refine (specBarsRun_any A1 n1 c1 ss t Av m cv ds _ hn B2.out.row (by omega) (OwnI.rowZ D2.out) HDB.out).mono ?_
  rintro x w3 ⟨v3, rfl, hO, hb3⟩
  rw [← HF.out] at hO
  rw [← HF.out]
  dsimp only [vR] at hO ⊢
  obtain ⟨A3, c3, hv3⟩ := OwnI.shape hO
  subst hv3
  have B3 := Lib.hid ((B2.out.next hb3).alloc (.cells #[.slice A3 F1.length c3, .bool F2] 25))
  have D3 := Lib.hid (OwnI.alloc (OwnI.keep D2.out hb3) (.cells #[.slice A3 F1.length c3, .bool F2] 25))
  have X3 := Lib.hid ((X2.out.next hb3).alloc (.cells #[.slice A3 F1.length c3, .bool F2] 25))
  have Y3 := Lib.hid (LawR.new (w := w) (t := F2) hO a2.out.size)
  have a3' := a2.out.trans (hb3.mono a2.out.size)
  have a3 := Lib.hid (a3'.alloc a3'.size (.cells #[.slice A3 F1.length c3, .bool F2] 25))
  clear hb3 hO B2 D2 X2 a2 a3' p0 p1
  obtain ⟨p0, p1, -⟩ := B3.out.box.two
  obtain ⟨q0, q1, -⟩ := X3.out.box.two
  obtain ⟨r0, r1, -⟩ := Y3.out.box.two
  go_wp2_with fail
  refine (sameBars_any A2 A3 F1.length F1.length c2 c3 F1 F1 F2 F2 _ (by omega) (by omega) X3.out.row Y3.out.row).mono ?_
  rintro x w4 ⟨rfl, hb4⟩
  rw [decide_eq_true rfl]
  have B4 := Lib.hid (B3.out.next hb4)
  have D4 := Lib.hid (OwnI.keep D3.out hb4)
  have X4 := Lib.hid (X3.out.next hb4)
  have a4 := Lib.hid (a3.out.trans (hb4.mono a3.out.size))
  clear hb4 B3 D3 X3 Y3 a3 p0 p1 q0 q1 r0 r1
  obtain ⟨p0, p1, -⟩ := B4.out.box.two
  go_wp2_with fail
  refine (specBarsValid_any A1 n1 c1 ss t _ hn B4.out.row).mono ?_
  rintro x w5 ⟨rfl, hb5⟩
  have B5 := Lib.hid (B4.out.next hb5)
  have D5 := Lib.hid (OwnI.keep D4.out hb5)
  have X5 := Lib.hid (X4.out.next hb5)
  have a5 := Lib.hid (a4.out.trans (hb5.mono a4.out.size))
  clear hb5 B4 D4 X4 a4 p0 p1
  by_cases hok : brsOk (ss, t) = true
  rotate_left
  · rw [Bool.not_eq_true] at hok
    have hF0 : (((F1, F2), Q) : BB × Nat) = (([], false), 0) := by rw [HF.out, brF, if_neg (by rw [hok]; simp)]
    obtain ⟨⟨rfl, rfl⟩, rfl⟩ : (F1 = [] ∧ F2 = false) ∧ Q = 0 := by simpa using hF0
    rw [hok]
    obtain ⟨q0, q1, -⟩ := X5.out.box.two
    go_wp2_with fail
    refine (alive_any _).mono ?_
    rintro x w6 ⟨rfl, hb6⟩
    go_wp2
    go_ret
    exact ⟨rfl, a5.out.trans (hb6.mono a5.out.size)⟩
  rw [hok]
  have HOK := Lib.hid hok
  clear hok
  have hmi : (m : Int) ≤ 12 := by omega
  have hhalf : (m : Int) / 2 = ((m / 2 : Nat) : Int) := rfl
  obtain ⟨h, hh⟩ : ∃ h, h = m / 2 := ⟨_, rfl⟩
  rw [← hh] at hhalf
  have hhm : h ≤ m := by omega
  have HH := Lib.hid hh
  clear hh
  obtain ⟨p0, p1, -⟩ := B5.out.box.two
  have hB5 := B5.out.box.lt
  have hh0 : (0 : Int) ≤ (h : Int) := by omega
  have hhc : (h : Int) ≤ (cv : Int) := by omega
  have hhm' : (h : Int) ≤ (m : Int) := by omega
  go_upto_region 11 with fail
  clear hhalf
  obtain ⟨G, hG⟩ : ∃ G, G = brF (ss, t) (ds.take h) := ⟨_, rfl⟩
  have hgl : G.1.1.length = n1 := by rw [hG, brF, if_pos HOK.out, run_lenR]; exact HL.out
  have hgok : brsOk G.1 = true := by rw [hG, brF, if_pos HOK.out]; exact run_okR _ _ HOK.out
  have HG := Lib.hid hG
  obtain ⟨⟨G1, G2⟩, P⟩ := G
  dsimp only at hgl hgok
  have HGL := Lib.hid hgl
  have HGOK := Lib.hid hgok
  have HTK := Lib.hid (RowZ.takeR (OwnI.rowZ D5.out) hhm)
  have HTL := Lib.hid (show (ds.take h).length = h by rw [List.length_take]; have := HM.out; omega)
  have hhn : h ≤ 1048576 := by omega
  have hw5 : w.heap.size ≤ w5.heap.size := a5.out.size
  clear hG hgl hgok
  go_cut [10, 11] from 60 to 67 (fun v u wx => ∃ (gz : Nat) (Az : Option Addr) (cz : Nat), v = .pointer (some ⟨gz, 0, none⟩) ∧ u = .int .i64 (P : Int) ∧ LawR w wx gz Az n1 cz G1 G2 ∧ Below w5.heap.size w5 wx)
  case first =>
    go_region_with (go_at_call 14; refine (barsRun_any A1 n1 c1 ss t Av h cv (ds.take h) _ hn (by first | exact B5.out.row.below (Below.refl _ _).drew | exact B5.out.row.below (below_bx _ _).drew) hhn (by first | exact HTK.out.below (Below.refl _ _).drew | exact HTK.out.below (below_bx _ _).drew)).mono ?_; rintro y w6 ⟨v6, rfl, hO, hb6⟩; rw [← HG.out] at hO; rw [← HG.out]; dsimp only [vR] at hO ⊢; obtain ⟨A6, c6, hv6⟩ := OwnI.shape hO; subst hv6; rw [HGL.out] at hO ⊢; (first | (have hkk := newTwo hb6; obtain ⟨t0, t1, v0, v1⟩ := hkk.two) | skip))
    all_goals go_wp2_with fail
    all_goals go_meet
    all_goals first
      | exact ⟨w6.heap.size, A6, c6, rfl, rfl, LawR.new hO hw5, (((Below.refl w5.heap.size w5).drew).trans hb6).alloc hb6.size _⟩
      | exact ⟨w5.heap.size, A6, c6, rfl, rfl, ⟨OwnI.ret2 (OwnI.moreR hO (by simp [World.drew]; omega)) (fun q hq => by have := (OwnI.lt hO q hq).1; simp [World.drew] at this; omega) _ _, hkk.put2 _ _⟩, below_two (newTwo_b hb6) (Nat.le_refl _) _ _⟩
  case rest =>
    obtain ⟨gz, Az, cz, rfl, rfl, hz, hb6⟩ := hcut
    rename World => w6
    have Z6 := Lib.hid hz
    have B6 := Lib.hid (B5.out.next hb6)
    have D6 := Lib.hid (OwnI.keep D5.out hb6)
    have X6 := Lib.hid (X5.out.next hb6)
    have a6 := Lib.hid (a5.out.trans (hb6.mono a5.out.size))
    clear hz hb6 B5 D5 X5 a5 p0 p1 HTK hB5
    obtain ⟨p0, p1, -⟩ := Z6.out.box.two
    have hB6 := Z6.out.box.lt
    have htp := two_parts HOK.out HG.out HF.out
    have HTP := Lib.hid htp.1
    have hPQ := htp.2
    have HDR := Lib.hid (RowZ.restR (cv := cv) (OwnI.rowZ D6.out) hhm hcv)
    have hF1l : F1.length = n1 := by have := htp.1; rw [brF, if_pos HGOK.out] at this; have h2 := run_lenR (ds.drop h) (G1, G2); rw [this] at h2; exact h2.trans HGL.out
    have HF1L := Lib.hid hF1l
    have hmh : m - h ≤ 1048576 := by omega
    have hw6 : w.heap.size ≤ w6.heap.size := a6.out.size
    clear htp hF1l
    go_upto_region 12 with fail
    go_cut [12, 13] from 68 to 75 (fun v u wx => ∃ (gz : Nat) (Az : Option Addr) (cz : Nat), v = .pointer (some ⟨gz, 0, none⟩) ∧ u = .int .i64 ((Q - P : Nat) : Int) ∧ LawR w wx gz Az F1.length cz F1 F2 ∧ Below w6.heap.size w6 wx)
    case first =>
      by_cases hcvh : cv = h
      · have HD2 := Lib.hid (show RowZ w6 Av (m - h) (ds.drop h) by have := HDR.out; rwa [if_pos hcvh] at this)
        have hz : m = 0 ∧ h = 0 ∧ cv = 0 := by have := HH.out; omega
        obtain ⟨hz1, hz2, hz3⟩ := hz
        subst hz1 hz2 hz3
        clear hcvh
        go_region_with (go_at_call 14; refine (barsRun_any Az n1 cz G1 G2 _ 0 _ (ds.drop 0) _ hn (by first | exact Z6.out.row.below (Below.refl _ _).drew | exact Z6.out.row.below (below_bx _ _).drew) hmh (by first | exact HD2.out.below (Below.refl _ _).drew | exact HD2.out.below (below_bx _ _).drew)).mono ?_; rintro y w7 ⟨v7, rfl, hO, hb7⟩; rw [HTP.out] at hO; rw [HTP.out]; dsimp only [vR] at hO ⊢; obtain ⟨A7, c7, hv7⟩ := OwnI.shape hO; subst hv7; (first | (have hkk := newTwo hb7; obtain ⟨t0, t1, v0, v1⟩ := hkk.two) | skip))
        all_goals go_wp2_with fail
        all_goals go_meet
        all_goals first
          | exact ⟨w7.heap.size, A7, c7, rfl, rfl, LawR.new hO hw6, (((Below.refl w6.heap.size w6).drew).trans hb7).alloc hb7.size _⟩
          | exact ⟨w6.heap.size, A7, c7, rfl, rfl, ⟨OwnI.ret2 (OwnI.moreR hO (by simp [World.drew]; omega)) (fun q hq => by have := (OwnI.lt hO q hq).1; simp [World.drew] at this; omega) _ _, hkk.put2 _ _⟩, below_two (newTwo_b hb7) (Nat.le_refl _) _ _⟩
      · have HD2 := Lib.hid (show RowZ w6 (Option.map (fun x => x.add h) Av) (m - h) (ds.drop h) by have := HDR.out; rwa [if_neg hcvh] at this)
        go_region_with (go_at_call 14; refine (barsRun_any Az n1 cz G1 G2 _ (m - h) _ (ds.drop h) _ hn (by first | exact Z6.out.row.below (Below.refl _ _).drew | exact Z6.out.row.below (below_bx _ _).drew) hmh (by first | exact HD2.out.below (Below.refl _ _).drew | exact HD2.out.below (below_bx _ _).drew)).mono ?_; rintro y w7 ⟨v7, rfl, hO, hb7⟩; rw [HTP.out] at hO; rw [HTP.out]; dsimp only [vR] at hO ⊢; obtain ⟨A7, c7, hv7⟩ := OwnI.shape hO; subst hv7; (first | (have hkk := newTwo hb7; obtain ⟨t0, t1, v0, v1⟩ := hkk.two) | skip))
        all_goals go_wp2_with fail
        all_goals go_meet
        all_goals first
          | exact ⟨w7.heap.size, A7, c7, rfl, rfl, LawR.new hO hw6, (((Below.refl w6.heap.size w6).drew).trans hb7).alloc hb7.size _⟩
          | exact ⟨w6.heap.size, A7, c7, rfl, rfl, ⟨OwnI.ret2 (OwnI.moreR hO (by simp [World.drew]; omega)) (fun q hq => by have := (OwnI.lt hO q hq).1; simp [World.drew] at this; omega) _ _, hkk.put2 _ _⟩, below_two (newTwo_b hb7) (Nat.le_refl _) _ _⟩
    case rest =>
      obtain ⟨gy, Ay, cy, rfl, rfl, hy, hb7⟩ := hcut
      rename World => w7
      have Y7 := Lib.hid hy
      have X7 := Lib.hid (X6.out.next hb7)
      have a7 := Lib.hid (a6.out.trans (hb7.mono a6.out.size))
      clear hy hb7 B6 D6 X6 a6 Z6 HDR p0 p1
      have hFok : brsOk (F1, F2) = true := by have := run_okR ds (ss, t) HOK.out; have h2 := HF.out; rw [brF, if_pos HOK.out] at h2; rw [← h2] at this; exact this
      have HFOK := Lib.hid hFok
      have hQm : (Q : Int) ≤ (m : Int) := by omega
      have hsum : (P : Int) + ((Q - P : Nat) : Int) = (Q : Int) := by omega
      have hP12 : (P : Int) ≤ 12 := by omega
      have hQ12 : ((Q - P : Nat) : Int) ≤ 12 := by omega
      clear hFok
      obtain ⟨q0, q1, -⟩ := X7.out.box.two
      go_wp2_with fail
      refine (barsValid_any A2 _ c2 F1 F2 _ (by omega) X7.out.row).mono ?_
      rintro x w8 ⟨rfl, hb8⟩
      rw [HFOK.out]
      have X8 := Lib.hid (X7.out.next hb8)
      have Y8 := Lib.hid (Y7.out.next hb8)
      have a8 := Lib.hid (a7.out.trans (hb8.mono a7.out.size))
      clear hb8 X7 Y7 a7 q0 q1
      obtain ⟨q0, q1, -⟩ := X8.out.box.two
      obtain ⟨p0, p1, -⟩ := Y8.out.box.two
      go_wp2_with fail
      refine (sameBars_any Ay A2 F1.length F1.length cy c2 F1 F1 F2 F2 _ (by omega) (by omega) Y8.out.row X8.out.row).mono ?_
      rintro x w9 ⟨rfl, hb9⟩
      rw [decide_eq_true rfl]
      generalize ((Q - P : Nat) : Int) = QP at *
      go_wp2
      go_ret
      exact ⟨rfl, a8.out.trans (hb9.mono a8.out.size)⟩
end Go.Proofs.YtafgfhjlkdjngaaDoor
