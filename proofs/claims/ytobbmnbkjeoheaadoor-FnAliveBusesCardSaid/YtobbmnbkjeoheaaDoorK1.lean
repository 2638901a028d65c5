/- The drawing of a network and a state beside a reader; and what draws by it: alone, with a bus, with two buses. -/
import Derived.Test.YtobbmnbkjeoheaaDoorD4
import Derived.Test.YtobbmnbkjeoheaaDoorG2
import Derived.Test.YtobbmnbkjeoheaaDoorB5
namespace Go.Proofs.YtobbmnbkjeoheaaDoor
open Go.ChangeShapes Go.WideShapes Go.ChangeAt Go.RowKit

theorem grown_new {w0 w w' : World} {R q : Nat} (h : w0.grownBy w (some R)) (g : w.grownBy w' (some q)) (hq : w0.heap.size ≤ q) : w0.grownBy w' (some R) :=
  ⟨g.os.trans h.os, g.tape.trans h.tape, g.output.trans h.output, Nat.le_trans h.size g.size, fun p hp hne => (g.block p (Nat.lt_of_lt_of_le hp h.size) (fun e => by injection e with e; omega)).trans (h.block p hp hne)⟩

/-- While a state is drawn beside a network, by a reader that was there before. -/
structure SwSt (w wx : World) (R X : Nat) (lim bs : Int) (v : Value) (ls : List L3) : Prop where
  hR : R < w.heap.size
  ret : IsBlk wx w.heap.size 25 #[.int .i64 0, .slice none 0 0]
  hX : w.heap.size < X
  var : IsBlk wx X 25 #[.int .i64 bs, v]
  own : OwnL wx (w.heap.size + 1) v ls
  rd : Rd wx R lim
  gr : w.grownBy wx (some R)
section
variable {w wx w' : World} {R X : Nat} {lim lim' bs : Int} {v : Value} {ls : List L3}
theorem SwSt.pick (h : SwSt w wx R X lim bs v ls) (hr : Rd w' R lim') (hg : wx.grownBy w' (some R)) : SwSt w w' R X lim' bs v ls := by
  have h1 := h.hR
  have h2 := h.hX
  exact ⟨h.hR, (hg.block _ h.ret.lt (by simp; omega)).trans h.ret, h.hX, (hg.block _ h.var.lt (by simp; omega)).trans h.var,
    h.own.far hg (fun q hq e => by injection e with e; have := (World.ownsRow.lt h.own q hq).1; omega), hr, grown_then h.gr hg⟩
theorem SwSt.drew (h : SwSt w wx R X lim bs v ls) : SwSt w wx.drew R X lim bs v ls := ⟨h.hR, h.ret, h.hX, h.var, h.own, h.rd, h.gr.os, h.gr.tape, h.gr.output, h.gr.size, h.gr.block⟩
theorem SwSt.done (h : SwSt w wx R X lim bs v ls) (u u' : Value) :
    OwnL ((wx.setCell ⟨w.heap.size, 0, none⟩ u).setCell ⟨w.heap.size, 1, none⟩ u') (w.heap.size + 1) v ls ∧ Rd ((wx.setCell ⟨w.heap.size, 0, none⟩ u).setCell ⟨w.heap.size, 1, none⟩ u') R lim ∧ w.grownBy ((wx.setCell ⟨w.heap.size, 0, none⟩ u).setCell ⟨w.heap.size, 1, none⟩ u') (some R) := by
  have h1 := h.hR
  have g2 : wx.grownBy ((wx.setCell ⟨w.heap.size, 0, none⟩ u).setCell ⟨w.heap.size, 1, none⟩ u') (some w.heap.size) := grown_then (grown_put _ _ _ _) (grown_put _ _ _ _)
  exact ⟨h.own.far g2 (fun q hq e => by injection e with e; have := (World.ownsRow.lt h.own q hq).1; omega), h.rd.far (by omega) g2, grown_new h.gr g2 (Nat.le_refl _)⟩
end
theorem sw_start {w w2 : World} {R : Nat} {lim bs : Int} {v : Value} {ls : List L3} (hR : R < w.heap.size) (ho : OwnL w2 ((w.alloc (.cells #[.int .i64 0, .slice none 0 0] 25)).heap.size + 1) v ls) (hr : Rd w2 R lim)
    (hg : (w.alloc (.cells #[.int .i64 0, .slice none 0 0] 25)).grownBy w2 (some R)) : SwSt w (w2.alloc (.cells #[.int .i64 bs, v] 25)) R w2.heap.size lim bs v ls := by
  have h12 := hg.size
  rw [World.size_alloc] at h12 ho
  have k1 : IsBlk (w.alloc (.cells #[.int .i64 0, .slice none 0 0] 25)) w.heap.size 25 #[.int .i64 0, .slice none 0 0] := IsBlk.new w _ _
  have o2 : OwnL w2 (w.heap.size + 1) v ls := by
    refine ⟨ho.1, ?_⟩
    rcases ho.2 with h | ⟨g, cap, cur, h1, h2, h3⟩
    · exact .inl h
    · exact .inr ⟨g, cap, cur, h1, by omega, h3⟩
  exact ⟨hR, IsBlk.alloc ((hg.block _ k1.lt (by simp; omega)).trans k1) _, by omega, IsBlk.new _ _ _, o2.keep (below_bx _ _), hr.alloc _, grown_then (grown_then (grown_alloc _ _ _) hg) (grown_alloc _ _ _)⟩

theorem OwnL.more {w : World} {base base' : Nat} {v : Value} {ls : List L3} (h : OwnL w base v ls) (hb : base' ≤ base) : OwnL w base' v ls := by
  refine ⟨h.1, ?_⟩
  rcases h.2 with h | ⟨g, cap, cur, h1, h2, h3⟩
  · exact .inl h
  · exact .inr ⟨g, cap, cur, h1, by omega, h3⟩
theorem OwnT.far1 {wx : World} {base q : Nat} {v : Value} {ts : List Bool} (h : OwnT wx base v ts) (hq : q < base) (u u' : Value) : OwnT ((wx.setCell ⟨q, 0, none⟩ u).setCell ⟨q, 1, none⟩ u') base v ts :=
  h.far (grown_then (grown_put _ _ _ _) (grown_put _ _ _ _)) (fun p hp e => by injection e with e; have := (h.lt p hp).1; omega)

set_option maxRecDepth 100000 in
set_option maxHeartbeats 1000000 in
theorem switched_any (R : Nat) (n lim : Int) (hlim : lim ≤ 800000) (hn0 : 0 ≤ n) (hn : n ≤ 400) (w : World) (hR : R < w.heap.size) (hr : Rd w R lim) :
    Calls Tryd.prog 54 #[.pointer (some ⟨R, 0, none⟩), .int .i64 n] w fun e w' => ∃ bs A c ls v ts, e = .returned (.tuple #[.agg #[.int .i64 bs, .slice A ls.length c], v]) ∧ OwnL w' (w.heap.size + 1) (.slice A ls.length c) ls ∧ ls.length ≤ 12 ∧ -1 ≤ bs ∧ bs ≤ 9 ∧ OwnT w' (w.heap.size + 1) v ts ∧ ts.length ≤ 13 ∧ Rd w' R (lim + 200) ∧ w.grownBy w' (some R) := by
  have hw : IntKind.i64.wrap (2 * n) = 2 * n := IntWalk.i64_in _ (by omega)
  go_enter Tryd.func54, Tryd.ntmps54
  go_wp2_with fail
  refine (net_any R (2 * n) lim (by omega) (by omega) _ (by simp; omega) (hr.alloc _)).mono ?_
  rintro e w2 ⟨bs, v, ls, rfl, ho, hl, hb0, hb9, hr2, hg2⟩
  obtain ⟨A', c', rfl, _⟩ := ho.row
  have S1 := Lib.hid (sw_start (bs := bs) hR ho hr2 hg2)
  clear hr2 hg2 ho hr
  go_upto_region 2 with fail
  obtain ⟨p0, p1, p2, p3⟩ := S1.out.var.two
  obtain ⟨q0, q1, q2, q3⟩ := S1.out.ret.two
  have hX1 : ¬ w.heap.size = w2.heap.size := by have := S1.out.hX; omega
  generalize w2.heap.size = X at *
  have D1 := Lib.hid S1.out.drew
  have HLm := Lib.hid hl
  have hlt : R < (w2.alloc (.cells #[.int .i64 bs, .slice A' ls.length c'] 25)).drew.heap.size := D1.out.rd.lt
  have hn1 : 2 * n ≤ 1000 := by omega
  have hl1 : lim + 100 ≤ 900000 := by omega
  have HN1 := Lib.hid hn1
  have HL1 := Lib.hid hl1
  clear hlt hn1 hl1
  go_region_with (first
    | (go_at_call 59; refine (state_any R bs A' ls.length c' (2 * n) _ HL1.out HN1.out _ D1.out.rd.lt D1.out.rd HLm.out).mono ?_; rintro e w3 ⟨vs, ts, rfl, hO, hts, hr3, hg3⟩; have T1 := Lib.hid (D1.out.pick hr3 hg3); have TO := Lib.hid hO; clear hO; obtain ⟨p0, p1, p2, p3⟩ := T1.out.var.two; obtain ⟨q0, q1, q2, q3⟩ := T1.out.ret.two))
  all_goals go_wp2_with fail
  all_goals
    obtain ⟨o4, r4, g4⟩ := T1.out.done (.int .i64 bs) (.slice A' ls.length c')
    obtain ⟨As, cs, rfl, _, _⟩ := TO.out.row
    refine bodyPost_ret (v := .tuple #[.agg #[.int .i64 bs, .slice A' ls.length c'], .slice As ts.length cs]) (by simp [results, Tryd.results54, go_sem, q0, q1]) rfl ⟨bs, A', c', ls, _, ts, rfl, o4, hl, hb0, hb9, (TO.out.far1 (by have := D1.out.hX; have := D1.out.var.lt; omega) _ _).more (by have := D1.out.hX; have := D1.out.var.lt; omega), hts, r4.mono (by omega), g4⟩
end Go.Proofs.YtobbmnbkjeoheaaDoor
