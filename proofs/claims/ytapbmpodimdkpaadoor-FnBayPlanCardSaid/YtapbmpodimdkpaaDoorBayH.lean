/- Bays: the drawings of a bay, of a bay and a deed, of two bays. -/
import Derived.Test.YtapbmpodimdkpaaDoorBay4
import Derived.Test.YtapbmpodimdkpaaDoorD3
namespace Go.Proofs.YtapbmpodimdkpaaDoor
open Go.ChangeShapes Go.WideShapes Go.ChangeAt Go.RowKit

theorem RowB.alloc9 {w : World} {A : Option Addr} {n : Nat} {code : List Int} (hr : RowB w A n code) (o : Obj) : RowB (w.alloc o) A n code := by
  refine ⟨hr.1, fun hp => ?_, hr.2.2⟩
  obtain ⟨b, off, e, hlt, hcl⟩ := hr.2.1 hp
  exact ⟨b, off, e, by simp; omega, fun k x hk => by rw [World.cell?_alloc_lt _ _ _ hlt]; exact hcl k x hk⟩
theorem grown_new9 {w0 w w' : World} {R q : Nat} (h : w0.grownBy w (some R)) (g : w.grownBy w' (some q)) (hq : w0.heap.size ≤ q) : w0.grownBy w' (some R) :=
  ⟨g.os.trans h.os, g.tape.trans h.tape, g.output.trans h.output, Nat.le_trans h.size g.size, fun p hp hne => (g.block p (Nat.lt_of_lt_of_le hp h.size) (fun e => by injection e with e; omega)).trans (h.block p hp hne)⟩
theorem grown_new4 {w0 w : World} {R q : Nat} (h : w0.grownBy w (some R)) (hq : w0.heap.size ≤ q) (a b c e : Value) : w0.grownBy ((((w.setCell ⟨q, 0, none⟩ a).setCell ⟨q, 1, none⟩ b).setCell ⟨q, 2, none⟩ c).setCell ⟨q, 3, none⟩ e) (some R) :=
  grown_new9 (grown_new9 (grown_new9 (grown_new9 h (grown_put _ _ _ _) hq) (grown_put _ _ _ _) hq) (grown_put _ _ _ _) hq) (grown_put _ _ _ _) hq
theorem Rd.far4 {w : World} {R q : Nat} {l : Int} (h : Rd w R l) (hq : R < q) (a b c e : Value) : Rd ((((w.setCell ⟨q, 0, none⟩ a).setCell ⟨q, 1, none⟩ b).setCell ⟨q, 2, none⟩ c).setCell ⟨q, 3, none⟩ e) R l :=
  (((h.far hq (grown_put _ _ _ _)).far hq (grown_put _ _ _ _)).far hq (grown_put _ _ _ _)).far hq (grown_put _ _ _ _)
theorem grown_keep9 {w0 w w' : World} {R : Nat} (h : w0.grownBy w (some R)) (hb : Below w.heap.size w w') : w0.grownBy w' (some R) :=
  grown_then h ⟨hb.os, hb.tape, hb.output, hb.size, fun j hj _ => hb.block j hj⟩

set_option maxHeartbeats 4000000 in
theorem l20Bay_any (R : Nat) (lim : Int) (hlim : lim ≤ 900000) (w : World) (hr : Rd w R lim) :
    Calls Tryd.prog 35 #[.pointer (some ⟨R, 0, none⟩)] w fun x w' => ∃ b : B4, x = .returned (vB b) ∧ Rd w' R (lim + 1) ∧ w.grownBy w' (some R) := by
  have hR := hr.lt
  have K0 := Lib.hid (IsBlk.new w 24 #[.bool false, .bool false, .bool false, .bool false])
  go_enter Tryd.func35, Tryd.ntmps35
  go_wp2_with fail
  refine (pick_any R 16 lim (by omega) (by decide) _ (hr.alloc _)).mono ?_
  rintro x w1 ⟨v, rfl, hv0, hv1, _, hr1, hg1⟩
  have hv2 : v < 16 := hv1 (by decide)
  obtain ⟨k, rfl⟩ := Int.eq_ofNat_of_zero_le hv0
  have K1 := Lib.hid (K0.out.farG hg1 (by simp; omega))
  have G1 := Lib.hid (grown_then (grown_alloc w _ _) hg1)
  have R1 := Lib.hid hr1
  clear hr hr1 hg1 K0 hv0 hv1
  go_wp2_with fail
  refine (l9Bay_any k (by omega) _).mono ?_
  rintro x w2 ⟨rfl, hb2⟩
  have K2 := Lib.hid (K1.out.keep hb2)
  have R2 := Lib.hid (R1.out.keep hb2)
  have G2 := Lib.hid (grown_keep9 G1.out hb2)
  clear K1 R1 G1 hb2
  generalize bayN k = y
  obtain ⟨y0, y1, y2, y3⟩ := y
  dsimp only [vB]
  obtain ⟨p0, p1, p2, p3, f0, f1, f2, f3⟩ := K2.out.four
  go_wp2
  refine bodyPost_ret (v := vB (y0, y1, y2, y3)) (by simp [results, Tryd.results35, go_sem, vB, p0, p1, p2, p3]) rfl ⟨(y0, y1, y2, y3), rfl, ?_, ?_⟩
  · exact R2.out.far4 hR _ _ _ _
  · exact grown_new4 G2.out (Nat.le_refl _) _ _ _ _

set_option maxHeartbeats 4000000 in
theorem drawBaySafe_any (A : Option Addr) (n c : Nat) (code : List Int) (w : World) (hr : RowB w A n code) (hnc : n ≤ c) (hc : c ≤ 9223372036854775807) :
    Calls Tryd.prog 12 #[.slice A n c] w fun x w' => ∃ b : B4, x = .returned (vB b) ∧ Below w.heap.size w w' := by
  have K0 := Lib.hid (IsBlk.new w 24 #[.bool false, .bool false, .bool false, .bool false])
  have a0 := below_bx w (.cells #[.bool false, .bool false, .bool false, .bool false] 24)
  go_enter Tryd.func12, Tryd.ntmps12
  go_wp2_with fail
  refine (open_any A n c code _ (hr.alloc9 _) hnc hc).mono ?_
  rintro x w1 ⟨rfl, hb1, hr1, hs1⟩
  have K1 := Lib.hid (K0.out.keep hb1)
  have a1 := Lib.hid (a0.trans (hb1.mono a0.size))
  simp only [World.size_alloc] at hr1 hs1
  clear hr hb1 a0 K0
  go_wp2_with fail
  refine (l20Bay_any (w.heap.size + 1) 0 (by decide) _ hr1).mono ?_
  rintro x w2 ⟨y, rfl, hr2, hg2⟩
  have K2 := Lib.hid (K1.out.farG hg2 (fun e => by injection e with e; omega))
  have a2 := Lib.hid (a1.out.grown hg2 a1.out.size (fun k e => by injection e with e; omega))
  clear hr1 hr2 hg2 K1 a1
  obtain ⟨y0, y1, y2, y3⟩ := y
  dsimp only [vB]
  obtain ⟨p0, p1, p2, p3, f0, f1, f2, f3⟩ := K2.out.four
  go_wp2
  refine bodyPost_ret (v := vB (y0, y1, y2, y3)) (by simp [results, Tryd.results12, go_sem, vB, p0, p1, p2, p3]) rfl ⟨(y0, y1, y2, y3), rfl, ?_⟩
  exact below_four a2.out (Nat.le_refl _) _ _ _ _

set_option maxHeartbeats 4000000 in
theorem drawBayMay_any (A : Option Addr) (n c : Nat) (code : List Int) (w : World) (hr : RowB w A n code) (hnc : n ≤ c) (hc : c ≤ 9223372036854775807) :
    Calls Tryd.prog 16 #[.slice A n c] w fun x w' => ∃ (b : B4) (d : Int), x = .returned (.tuple #[vB b, .int .i64 d]) ∧ -1 ≤ d ∧ d ≤ 8 ∧ Below w.heap.size w w' := by
  have K0 := Lib.hid (IsBlk.new w 24 #[.bool false, .bool false, .bool false, .bool false])
  have a0 := below_bx w (.cells #[.bool false, .bool false, .bool false, .bool false] 24)
  go_enter Tryd.func16, Tryd.ntmps16
  go_wp2_with fail
  refine (open_any A n c code _ (hr.alloc9 _) hnc hc).mono ?_
  rintro x w1 ⟨rfl, hb1, hr1, hs1⟩
  have K1 := Lib.hid (K0.out.keep hb1)
  have a1 := Lib.hid (a0.trans (hb1.mono a0.size))
  simp only [World.size_alloc] at hr1 hs1
  clear hr hb1 a0 K0
  go_wp2_with fail
  refine (l20Bay_any (w.heap.size + 1) 0 (by decide) _ hr1).mono ?_
  rintro x w2 ⟨y, rfl, hr2, hg2⟩
  have K2 := Lib.hid (K1.out.farG hg2 (fun e => by injection e with e; omega))
  have a2 := Lib.hid (a1.out.grown hg2 a1.out.size (fun k e => by injection e with e; omega))
  clear hr1 hg2 K1 a1
  obtain ⟨y0, y1, y2, y3⟩ := y
  dsimp only [vB]
  go_wp2_with fail
  refine (pick_any (w.heap.size + 1) 10 _ (by decide) (by decide) _ hr2).mono ?_
  rintro x w3 ⟨v, rfl, hv0, hv1, _, hr3, hg3⟩
  have hv2 : v < 10 := hv1 (by decide)
  have K3 := Lib.hid (K2.out.farG hg3 (fun e => by injection e with e; omega))
  have a3 := Lib.hid (a2.out.grown hg3 a2.out.size (fun k e => by injection e with e; omega))
  clear hr2 hr3 hg3 K2 a2 hv1
  have hw : IntKind.i64.wrap (v - 1) = v - 1 := IntWalk.i64_in _ (by omega)
  obtain ⟨p0, p1, p2, p3, f0, f1, f2, f3⟩ := K3.out.four
  go_wp2
  refine bodyPost_ret (v := .tuple #[vB (y0, y1, y2, y3), .int .i64 (v - 1)]) (by simp [results, Tryd.results16, go_sem, vB, p0, p1, p2, p3]) rfl ⟨(y0, y1, y2, y3), v - 1, rfl, by omega, by omega, ?_⟩
  exact below_four a3.out (Nat.le_refl _) _ _ _ _

set_option maxHeartbeats 4000000 in
theorem drawBayDo_any (A : Option Addr) (n c : Nat) (code : List Int) (w : World) (hr : RowB w A n code) (hnc : n ≤ c) (hc : c ≤ 9223372036854775807) :
    Calls Tryd.prog 20 #[.slice A n c] w fun x w' => ∃ (b : B4) (d : Int), x = .returned (.tuple #[vB b, .int .i64 d]) ∧ -1 ≤ d ∧ d ≤ 8 ∧ Below w.heap.size w w' := by
  have K0 := Lib.hid (IsBlk.new w 24 #[.bool false, .bool false, .bool false, .bool false])
  have a0 := below_bx w (.cells #[.bool false, .bool false, .bool false, .bool false] 24)
  go_enter Tryd.func20, Tryd.ntmps20
  go_wp2_with fail
  refine (drawBayMay_any A n c code _ (hr.alloc9 _) hnc hc).mono ?_
  rintro x w1 ⟨y, d, rfl, hd0, hd1, hb1⟩
  have K1 := Lib.hid (K0.out.keep hb1)
  have a1 := Lib.hid (a0.trans (hb1.mono a0.size))
  clear hr hb1 a0 K0
  obtain ⟨y0, y1, y2, y3⟩ := y
  dsimp only [vB]
  obtain ⟨p0, p1, p2, p3, f0, f1, f2, f3⟩ := K1.out.four
  go_wp2
  refine bodyPost_ret (v := .tuple #[vB (y0, y1, y2, y3), .int .i64 d]) (by simp [results, Tryd.results20, go_sem, vB, p0, p1, p2, p3]) rfl ⟨(y0, y1, y2, y3), d, rfl, hd0, hd1, ?_⟩
  exact below_four a1.out (Nat.le_refl _) _ _ _ _

set_option maxHeartbeats 4000000 in
theorem drawBayPlan_any (A : Option Addr) (n c : Nat) (code : List Int) (w : World) (hr : RowB w A n code) (hnc : n ≤ c) (hc : c ≤ 9223372036854775807) :
    Calls Tryd.prog 25 #[.slice A n c] w fun x w' => ∃ (b y : B4), x = .returned (.tuple #[vB b, vB y]) ∧ Below w.heap.size w w' := by
  have K0 := Lib.hid ((IsBlk.new w 24 #[.bool false, .bool false, .bool false, .bool false]).alloc (.cells #[.bool false, .bool false, .bool false, .bool false] 24))
  have J0 := Lib.hid (IsBlk.new (w.alloc (.cells #[.bool false, .bool false, .bool false, .bool false] 24)) 24 #[.bool false, .bool false, .bool false, .bool false])
  have a0 : Below w.heap.size w ((w.alloc (.cells #[.bool false, .bool false, .bool false, .bool false] 24)).alloc (.cells #[.bool false, .bool false, .bool false, .bool false] 24)) := (below_bx w _).alloc (by simp) _
  go_enter Tryd.func25, Tryd.ntmps25
  go_wp2_with fail
  refine (open_any A n c code _ ((hr.alloc9 _).alloc9 _) hnc hc).mono ?_
  rintro x w1 ⟨rfl, hb1, hr1, hs1⟩
  have K1 := Lib.hid (K0.out.keep hb1)
  have J1 := Lib.hid (J0.out.keep hb1)
  have a1 := Lib.hid (a0.trans (hb1.mono a0.size))
  simp only [World.size_alloc] at hr1 hs1 J1
  clear hr hb1 a0 K0 J0
  go_wp2_with fail
  refine (l20Bay_any (w.heap.size + 1 + 1) 0 (by decide) _ hr1).mono ?_
  rintro x w2 ⟨y, rfl, hr2, hg2⟩
  have K2 := Lib.hid (K1.out.farG hg2 (fun e => by injection e with e; omega))
  have J2 := Lib.hid (J1.out.farG hg2 (fun e => by injection e with e; omega))
  have a2 := Lib.hid (a1.out.grown hg2 a1.out.size (fun k e => by injection e with e; omega))
  clear hr1 hg2 K1 J1 a1
  obtain ⟨y0, y1, y2, y3⟩ := y
  dsimp only [vB]
  go_wp2_with fail
  refine (l20Bay_any (w.heap.size + 1 + 1) _ (by decide) _ hr2).mono ?_
  rintro x w3 ⟨z, rfl, hr3, hg3⟩
  have K3 := Lib.hid (K2.out.farG hg3 (fun e => by injection e with e; omega))
  have J3 := Lib.hid (J2.out.farG hg3 (fun e => by injection e with e; omega))
  have a3 := Lib.hid (a2.out.grown hg3 a2.out.size (fun k e => by injection e with e; omega))
  clear hr2 hr3 hg3 K2 J2 a2
  obtain ⟨z0, z1, z2, z3⟩ := z
  dsimp only [vB]
  obtain ⟨p0, p1, p2, p3, f0, f1, f2, f3⟩ := K3.out.four
  obtain ⟨q0, q1, q2, q3, g0, g1, g2, g3⟩ := J3.out.four
  go_wp2
  refine bodyPost_ret (v := .tuple #[vB (y0, y1, y2, y3), vB (z0, z1, z2, z3)]) (by simp [results, Tryd.results25, go_sem, vB, p0, p1, p2, p3, q0, q1, q2, q3]) rfl ⟨(y0, y1, y2, y3), (z0, z1, z2, z3), rfl, ?_⟩
  exact below_four (below_four a3.out (Nat.le_refl _) _ _ _ _) (by omega) _ _ _ _
end Go.Proofs.YtapbmpodimdkpaaDoor
