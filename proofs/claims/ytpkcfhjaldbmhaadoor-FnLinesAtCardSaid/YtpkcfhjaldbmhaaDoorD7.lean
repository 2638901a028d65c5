/- The drawing of a network with a line and a bus; FnOtherEnd's walk. -/
import Derived.Test.YtpkcfhjaldbmhaaDoorD6
import Derived.Test.YtpkcfhjaldbmhaaDoorA1
namespace Go.Proofs.YtpkcfhjaldbmhaaDoor
open Go.ChangeShapes Go.WideShapes Go.ChangeAt Go.RowKit

set_option maxRecDepth 100000 in
set_option maxHeartbeats 3000000 in
theorem drawOtherEnd_any (A : Option Addr) (n c : Nat) (bs : List Int) (w : World) (hr : RowB w A n bs) (hnc : n ≤ c) (hc : c ≤ 9223372036854775807) :
    Calls Tryd.prog 20 #[.slice A n c] w fun e w' => ∃ bs A c ls a b, e = .returned (.tuple #[.agg #[.int .i64 bs, .slice A ls.length c], .int .i64 a, .int .i64 b]) ∧ RowL w' A ls.length ls ∧ ls.length ≤ 12 ∧ Below w.heap.size w w' := by
  go_enter Tryd.func20, Tryd.ntmps20
  go_wp2_with fail
  refine (open_any A n c bs _ ?_ hnc hc).mono ?_
  case refine_1 =>
    refine ⟨hr.1, fun hp => ?_, hr.2.2⟩
    obtain ⟨b, off, e, hlt, hcl⟩ := hr.2.1 hp
    exact ⟨b, off, e, by simp; omega, fun k x hk => by rw [World.cell?_alloc_lt _ _ _ hlt]; exact hcl k x hk⟩
  rintro e w1 ⟨rfl, hb1, hr1, hs1⟩
  simp only [World.size_alloc] at hb1 hr1 hs1
  have HS := Lib.hid hs1
  clear hs1
  go_wp2_with fail
  refine (net_any (w.heap.size + 1) 9 0 (by omega) (by omega) _ (by rw [HS.out]; omega) hr1).mono ?_
  rintro e w2 ⟨bs, v, ls, rfl, ho, hl, hb0, hb9, hr2, hg2⟩
  obtain ⟨A', c', rfl, _⟩ := ho.row
  have S1 := Lib.hid (draw_start (bs := bs) hb1 rfl HS.out ho hr2 hg2)
  clear hr2 hg2 ho
  generalize hR : w.heap.size + 1 = R at *
  have HRR := Lib.hid hR
  clear hR
  go_upto_region 3 with fail
  obtain ⟨p0, p1, p2, p3⟩ := S1.out.var.two
  obtain ⟨q0, q1, q2, q3⟩ := S1.out.ret.two
  have hX1 : ¬ w.heap.size = w2.heap.size := by have := S1.out.hR; have := S1.out.hX; omega
  generalize w2.heap.size = X at *
  generalize hm : ls.length = m at *
  have HM := Lib.hid hm
  clear hm
  go_wp2_with fail
  refine (pick_any R ((m : Int) + 2) _ (by decide) (by omega) _ S1.out.rd).mono ?_
  rintro e w3 ⟨k, rfl, hk0, hk1', _, hr3, hg3⟩
  have hk1 : k < (m : Int) + 2 := hk1' (by omega)
  have T1 := Lib.hid (S1.out.pick hr3 hg3)
  clear hr3 hg3 hk1' p0 p1 p2 p3 q0 q1 q2 q3 hb1
  obtain ⟨p0, p1, p2, p3⟩ := T1.out.var.two
  obtain ⟨q0, q1, q2, q3⟩ := T1.out.ret.two
  rcases (show (k = 0) ∨ (k = (m : Int) + 1) ∨ (1 ≤ k ∧ k ≤ m) by omega) with rfl | rfl | ⟨h1, h2⟩
  case inl | inr.inl =>
    go_wp2_with fail
    refine (l1In_any _ _ _ _).mono ?_
    rintro e w4 ⟨rfl, rfl⟩
    rw [show inB _ 0 ((m : Int) - 1) = false by first | (simp [inB]; done) | (simp [inB]; omega)]
    go_wp2_with fail
    have D1 := Lib.hid T1.out.drew
    go_region_with (go_at_call 44; refine (pick_any R 8 _ (by decide) (by decide) _ D1.out.rd).mono ?_; rintro e w4 ⟨vb, rfl, hd0, hd1, _, hr4, hg4⟩; have T2 := Lib.hid (D1.out.pick hr4 hg4); obtain ⟨p0, p1, p2, p3⟩ := T2.out.var.two; obtain ⟨q0, q1, q2, q3⟩ := T2.out.ret.two)
    all_goals go_wp2_with fail
    all_goals
      have hM := HM.out
      subst hM
      have T4 := T2.out.done (.int .i64 bs)
      refine bodyPost_ret (v := .tuple #[.agg #[.int .i64 bs, .slice A' ls.length c'], .int .i64 _, .int .i64 vb]) (by simp [results, Tryd.results20, go_sem, q0, q1, q2, q3]; rfl) rfl ⟨bs, A', c', ls, _, _, rfl, T4.1, hl, T4.2⟩
  have hin : inB (k - 1) 0 ((m : Int) - 1) = true := by simp [inB]; omega
  have HI := Lib.hid hin
  clear hin
  go_wp2_with fail
  refine (l1In_any _ _ _ _).mono ?_
  rintro e w4 ⟨rfl, rfl⟩
  rw [HI.out]
  go_wp2_with fail
  refine (pick_any R 3 _ (by decide) (by decide) _ T1.out.rd).mono ?_
  rintro e w4 ⟨vb, rfl, hd0, hd1, _, hr4, hg4⟩
  have T2 := Lib.hid (T1.out.pick hr4 hg4)
  clear p0 p1 p2 p3 q0 q1 q2 q3
  obtain ⟨p0, p1, p2, p3⟩ := T2.out.var.two
  obtain ⟨q0, q1, q2, q3⟩ := T2.out.ret.two
  by_cases hv : 0 < vb
  · obtain ⟨A2, c2, e2, hrow⟩ := T2.out.own.row
    obtain ⟨j, hj⟩ : ∃ j : Nat, k = (j : Int) + 1 := ⟨(k - 1).toNat, by omega⟩
    subst hj
    have hjm : j < m := by omega
    obtain ⟨b, off, e3, hb, hcl⟩ := hrow.2 (by have := HM.out; omega)
    injection e2 with e4 e5 e6
    rw [e3] at e4
    subst e4 e6
    clear e5
    have hkl : ls[j]? = some (ls[j]'(by have := HM.out; omega)) := List.getElem?_eq_getElem _
    generalize (ls[j]'(by have := HM.out; omega)) = l at hkl
    obtain ⟨g0, g1, g2⟩ := hcl j l hkl
    obtain ⟨x, y, z⟩ := l
    simp only at g0 g1 g2
    clear hkl hcl hrow
    have i0 : (0 : Int) ≤ (j : Int) := by omega
    have i1 : (j : Int) < (m : Int) := by omega
    have i2 : j < ls.length := by have := HM.out; omega
    have i3 : (j : Int) < (ls.length : Int) := by omega
    have hbw : w.heap.size < b := by have := (World.ownsRow.lt T2.out.own b rfl).1; have := T2.out.hR; omega
    have hbw1 : ¬ w.heap.size = b := by omega
    have hbw2 : ¬ b = w.heap.size := by omega
    go_wp2_with fail
    go_region
    all_goals go_wp2_with fail
    all_goals
      have hM := HM.out
      subst hM
      have T4 := T2.out.done (.int .i64 bs)
      refine bodyPost_ret (v := .tuple #[.agg #[.int .i64 bs, .slice (some ⟨b, off, none⟩) ls.length c'], .int .i64 _, .int .i64 y]) (by simp [results, Tryd.results20, go_sem, q0, q1, q2, q3]; rfl) rfl ⟨bs, _, c', ls, _, _, rfl, T4.1, hl, T4.2.os, T4.2.tape, T4.2.output, T4.2.size, T4.2.block⟩
  · go_wp2_with fail
    have D1 := Lib.hid T2.out.drew
    go_region_with (go_at_call 44; refine (pick_any R 8 _ (by decide) (by decide) _ D1.out.rd).mono ?_; rintro e w5 ⟨vc, rfl, he0, he1, _, hr5, hg5⟩; have T3 := Lib.hid (D1.out.pick hr5 hg5); obtain ⟨p0, p1, p2, p3⟩ := T3.out.var.two; obtain ⟨q0, q1, q2, q3⟩ := T3.out.ret.two)
    all_goals go_wp2_with fail
    all_goals
      have hM := HM.out
      subst hM
      have T4 := T3.out.done (.int .i64 bs)
      refine bodyPost_ret (v := .tuple #[.agg #[.int .i64 bs, .slice A' ls.length c'], .int .i64 _, .int .i64 vc]) (by simp [results, Tryd.results20, go_sem, q0, q1, q2, q3]; rfl) rfl ⟨bs, A', c', ls, _, _, rfl, T4.1, hl, T4.2⟩
end Go.Proofs.YtpkcfhjaldbmhaaDoor
