/- The drawings of a network with a line, a bus or two buses. -/
import Derived.Test.YtpkcfhjaldbmhaaDoorD2
namespace Go.Proofs.YtpkcfhjaldbmhaaDoor
open Go.ChangeShapes Go.WideShapes Go.ChangeAt Go.RowKit

/-- While something is drawn beside a network: the result's block, the reader at R, the network's block X, its lines. -/
structure DrawSt (w wx : World) (R X : Nat) (lim bs : Int) (v : Value) (ls : List L3) : Prop where
  ret : IsBlk wx w.heap.size 25 #[.int .i64 0, .slice none 0 0]
  hR : w.heap.size < R
  var : IsBlk wx X 25 #[.int .i64 bs, v]
  hX : R < X
  own : OwnL wx (R + 1) v ls
  rd : Rd wx R lim
  bel : Below w.heap.size w wx
section
variable {w wx w' : World} {R X : Nat} {lim lim' bs : Int} {v : Value} {ls : List L3}
theorem DrawSt.pick (h : DrawSt w wx R X lim bs v ls) (hr : Rd w' R lim') (hg : wx.grownBy w' (some R)) : DrawSt w w' R X lim' bs v ls := by
  have h1 := h.hR
  have h2 := h.hX
  exact ⟨(hg.block _ h.ret.lt (by simp; omega)).trans h.ret, h1, (hg.block _ h.var.lt (by simp; omega)).trans h.var, h2,
    h.own.far hg (fun q hq e => by injection e with e; have := (World.ownsRow.lt h.own q hq).1; omega), hr, h.bel.grown hg h.bel.size (fun q hq => by injection hq with hq; omega)⟩
theorem DrawSt.drew (h : DrawSt w wx R X lim bs v ls) : DrawSt w wx.drew R X lim bs v ls := ⟨h.ret, h.hR, h.var, h.hX, h.own, h.rd, h.bel.drew⟩
/-- The result is stored. -/
theorem DrawSt.done {A : Option Addr} {c : Nat} (h : DrawSt w wx R X lim bs (.slice A ls.length c) ls) (u : Value) :
    RowL ((wx.setCell ⟨w.heap.size, 0, none⟩ u).setCell ⟨w.heap.size, 1, none⟩ (.slice A ls.length c)) A ls.length ls ∧ Below w.heap.size w ((wx.setCell ⟨w.heap.size, 0, none⟩ u).setCell ⟨w.heap.size, 1, none⟩ (.slice A ls.length c)) := by
  have h1 := h.hR
  have g2 : wx.grownBy ((wx.setCell ⟨w.heap.size, 0, none⟩ u).setCell ⟨w.heap.size, 1, none⟩ (.slice A ls.length c)) (some w.heap.size) := grown_then (grown_put _ _ _ _) (grown_put _ _ _ _)
  have o2 := h.own.far g2 (fun q hq e => by injection e with e; have := (World.ownsRow.lt h.own q hq).1; omega)
  refine ⟨?_, h.bel.grown g2 h.bel.size (fun q hq => by injection hq with hq; omega)⟩
  obtain ⟨A', c', e, hr⟩ := o2.row
  injection e with e1
  subst e1; exact hr
end

/-- What is behind the reader and the network. -/
theorem draw_start {w w1 w2 : World} {R : Nat} {bs : Int} {v : Value} {ls : List L3} (hb1 : Below (w.heap.size + 1) (w.alloc (.cells #[.int .i64 0, .slice none 0 0] 25)) w1) (hR : R = w.heap.size + 1) (hs : w1.heap.size = w.heap.size + 1 + 1)
    (ho : OwnL w2 (w1.heap.size + 1) v ls) (hr : Rd w2 R 100) (hg : w1.grownBy w2 (some R)) : DrawSt w (w2.alloc (.cells #[.int .i64 bs, v] 25)) R w2.heap.size 100 bs v ls := by
  subst hR
  have h12 := hg.size
  have k1 : IsBlk w1 w.heap.size 25 #[.int .i64 0, .slice none 0 0] := (IsBlk.new w 25 #[.int .i64 0, .slice none 0 0]).below hb1 (by omega)
  have o2 : OwnL w2 (w.heap.size + 1 + 1) v ls := by
    refine ⟨ho.1, ?_⟩
    rcases ho.2 with h | ⟨g, cap, cur, h1, h2, h3⟩
    · exact .inl h
    · exact .inr ⟨g, cap, cur, h1, by omega, h3⟩
  have b1 : Below w.heap.size w w1 := (below_bx w _).trans (hb1.mono (by omega))
  refine ⟨IsBlk.alloc ((hg.block _ k1.lt (by simp)).trans k1) _, by omega, IsBlk.new _ _ _, by omega, o2.keep (below_bx _ _), hr.alloc _, (b1.grown hg (by omega) (fun q hq => by injection hq with hq; omega)).alloc (by omega) _⟩

set_option maxRecDepth 100000 in
set_option maxHeartbeats 2000000 in
theorem drawLineBetween_any (A : Option Addr) (n c : Nat) (bs : List Int) (w : World) (hr : RowB w A n bs) (hnc : n ≤ c) (hc : c ≤ 9223372036854775807) :
    Calls Tryd.prog 24 #[.slice A n c] w fun e w' => ∃ bs A c ls a b, e = .returned (.tuple #[.agg #[.int .i64 bs, .slice A ls.length c], .int .i64 a, .int .i64 b]) ∧ RowL w' A ls.length ls ∧ ls.length ≤ 12 ∧ 0 ≤ b ∧ Below w.heap.size w w' := by
  go_enter Tryd.func24, Tryd.ntmps24
  go_wp2_with fail
  refine (open_any A n c bs _ ?_ hnc hc).mono ?_
  case refine_1 =>
    refine ⟨hr.1, fun hp => ?_, hr.2.2⟩
    obtain ⟨b, off, e, hlt, hcl⟩ := hr.2.1 hp
    exact ⟨b, off, e, by simp; omega, fun k x hk => by rw [World.cell?_alloc_lt _ _ _ hlt]; exact hcl k x hk⟩
  rintro e w1 ⟨rfl, hb1, hr1, hs1⟩
  simp only [World.size_alloc] at hb1 hr1 hs1
  have HS := Lib.hid hs1
  clear hs1
  go_wp2_with fail
  refine (net_any (w.heap.size + 1) 9 0 (by omega) (by omega) _ (by rw [HS.out]; omega) hr1).mono ?_
  rintro e w2 ⟨bs, v, ls, rfl, ho, hl, hb0, hb9, hr2, hg2⟩
  obtain ⟨A', c', rfl, _⟩ := ho.row
  have S1 := Lib.hid (draw_start (bs := bs) hb1 rfl HS.out ho hr2 hg2)
  clear hr2 hg2 ho
  generalize hR : w.heap.size + 1 = R at *
  have HRR := Lib.hid hR
  clear hR
  go_upto_region 3 with fail
  obtain ⟨p0, p1, p2, p3⟩ := S1.out.var.two
  obtain ⟨q0, q1, q2, q3⟩ := S1.out.ret.two
  have hX1 : ¬ w.heap.size = w2.heap.size := by have := S1.out.hR; have := S1.out.hX; omega
  generalize w2.heap.size = X at *
  have D1 := Lib.hid S1.out.drew
  go_region_with (first
    | (go_at_call 44; refine (pick_any R 6 _ (by decide) (by decide) _ T2.out.rd).mono ?_; rintro e w5 ⟨vc, rfl, hc0, hc1, _, hr5, hg5⟩; have T3 := Lib.hid (T2.out.pick hr5 hg5); obtain ⟨p0, p1, p2, p3⟩ := T3.out.var.two; obtain ⟨q0, q1, q2, q3⟩ := T3.out.ret.two)
    | (go_at_call 44; refine (pick_any R 9 _ (by decide) (by decide) _ T1.out.rd).mono ?_; rintro e w4 ⟨vb, rfl, hd0, hd1, _, hr4, hg4⟩; have T2 := Lib.hid (T1.out.pick hr4 hg4); obtain ⟨p0, p1, p2, p3⟩ := T2.out.var.two; obtain ⟨q0, q1, q2, q3⟩ := T2.out.ret.two)
    | (go_at_call 44; refine (pick_any R 6 _ (by decide) (by decide) _ D1.out.rd).mono ?_; rintro e w3 ⟨va, rfl, he0, he1, _, hr3, hg3⟩; have T1 := Lib.hid (D1.out.pick hr3 hg3); obtain ⟨p0, p1, p2, p3⟩ := T1.out.var.two; obtain ⟨q0, q1, q2, q3⟩ := T1.out.ret.two))
  all_goals go_wp2_with fail
  all_goals
    have T4 := T3.out.done (.int .i64 bs)
    refine bodyPost_ret (v := .tuple #[.agg #[.int .i64 bs, .slice A' ls.length c'], .int .i64 (IntKind.i64.wrap (va - IntKind.i64.wrap (vb.tdiv 8))), .int .i64 vc]) (by simp [results, Tryd.results24, go_sem, q0, q1, q2, q3]) rfl ⟨bs, A', c', ls, _, _, rfl, T4.1, hl, hc0, T4.2⟩
end Go.Proofs.YtpkcfhjaldbmhaaDoor
