/- Texts joined: The drawings of a network with a line, a bus or two buses; The drawing of states, beside a network; The drawings of states: with a network, two of one network, a number; The laws' comparisons of states and of lists of numbers; The drawing of a network and a state beside a reader; and what draws by it: alone, with a bus, with two buses; What draws a network and a state: alone, with a bus. -/
import Derived.Test.YtapbmpodimdkpaaDoorBD1
import Derived.Test.YtapbmpodimdkpaaDoorBPA
import Derived.Maps.AppendAt
import Derived.OwnWalk
import Derived.Deep.RegionWith
import Derived.Deep.CutBlock
import Derived.Test.YtapbmpodimdkpaaDoorBCA
import Derived.Deep.DeepCutAuto
import Derived.Test.YtapbmpodimdkpaaDoorChecked
import Derived.ProofKit
import Derived.Deep.QuietTactic
import Derived.BigQuiet
import Derived.Outline
import Derived.Test.YtapbmpodimdkpaaDoorBCC

/- The drawings of a network with a line, a bus or two buses. -/
namespace Go.Proofs.YtapbmpodimdkpaaDoor
open Go.ChangeShapes Go.WideShapes Go.ChangeAt Go.RowKit

/-- While something is drawn beside a network: the result's block, the reader at R, the network's block X, its lines. -/
structure DrawSt (w wx : World) (R X : Nat) (lim bs : Int) (v : Value) (ls : List L3) : Prop where
  ret : IsBlk wx w.heap.size 60 #[.int .i64 0, .slice none 0 0]
  hR : w.heap.size < R
  var : IsBlk wx X 60 #[.int .i64 bs, v]
  hX : R < X
  own : OwnL wx (R + 1) v ls
  rd : Rd wx R lim
  bel : Below w.heap.size w wx
section
variable {w wx w' : World} {R X : Nat} {lim lim' bs : Int} {v : Value} {ls : List L3}
theorem DrawSt.pick (h : DrawSt w wx R X lim bs v ls) (hr : Rd w' R lim') (hg : wx.grownBy w' (some R)) : DrawSt w w' R X lim' bs v ls := by
  have h1 := h.hR
  have h2 := h.hX
  exact ⟨(hg.block _ h.ret.lt (by simp; omega)).trans h.ret, h1, (hg.block _ h.var.lt (by simp; omega)).trans h.var, h2,
    h.own.far hg (fun q hq e => by injection e with e; have := (World.ownsRow.lt h.own q hq).1; omega), hr, h.bel.grown hg h.bel.size (fun q hq => by injection hq with hq; omega)⟩
theorem DrawSt.drew (h : DrawSt w wx R X lim bs v ls) : DrawSt w wx.drew R X lim bs v ls := ⟨h.ret, h.hR, h.var, h.hX, h.own, h.rd, h.bel.drew⟩
/-- The result is stored. -/
theorem DrawSt.done {A : Option Addr} {c : Nat} (h : DrawSt w wx R X lim bs (.slice A ls.length c) ls) (u : Value) :
    RowL ((wx.setCell ⟨w.heap.size, 0, none⟩ u).setCell ⟨w.heap.size, 1, none⟩ (.slice A ls.length c)) A ls.length ls ∧ Below w.heap.size w ((wx.setCell ⟨w.heap.size, 0, none⟩ u).setCell ⟨w.heap.size, 1, none⟩ (.slice A ls.length c)) := by
  have h1 := h.hR
  have g2 : wx.grownBy ((wx.setCell ⟨w.heap.size, 0, none⟩ u).setCell ⟨w.heap.size, 1, none⟩ (.slice A ls.length c)) (some w.heap.size) := grown_then (grown_put _ _ _ _) (grown_put _ _ _ _)
  have o2 := h.own.far g2 (fun q hq e => by injection e with e; have := (World.ownsRow.lt h.own q hq).1; omega)
  refine ⟨?_, h.bel.grown g2 h.bel.size (fun q hq => by injection hq with hq; omega)⟩
  obtain ⟨A', c', e, hr⟩ := o2.row
  injection e with e1
  subst e1; exact hr
end

/-- What is behind the reader and the network. -/
theorem draw_start {w w1 w2 : World} {R : Nat} {bs : Int} {v : Value} {ls : List L3} (hb1 : Below (w.heap.size + 1) (w.alloc (.cells #[.int .i64 0, .slice none 0 0] 60)) w1) (hR : R = w.heap.size + 1) (hs : w1.heap.size = w.heap.size + 1 + 1)
    (ho : OwnL w2 (w1.heap.size + 1) v ls) (hr : Rd w2 R 100) (hg : w1.grownBy w2 (some R)) : DrawSt w (w2.alloc (.cells #[.int .i64 bs, v] 60)) R w2.heap.size 100 bs v ls := by
  subst hR
  have h12 := hg.size
  have k1 : IsBlk w1 w.heap.size 60 #[.int .i64 0, .slice none 0 0] := (IsBlk.new w 60 #[.int .i64 0, .slice none 0 0]).below hb1 (by omega)
  have o2 : OwnL w2 (w.heap.size + 1 + 1) v ls := by
    refine ⟨ho.1, ?_⟩
    rcases ho.2 with h | ⟨g, cap, cur, h1, h2, h3⟩
    · exact .inl h
    · exact .inr ⟨g, cap, cur, h1, by omega, h3⟩
  have b1 : Below w.heap.size w w1 := (below_bx w _).trans (hb1.mono (by omega))
  refine ⟨IsBlk.alloc ((hg.block _ k1.lt (by simp)).trans k1) _, by omega, IsBlk.new _ _ _, by omega, o2.keep (below_bx _ _), hr.alloc _, (b1.grown hg (by omega) (fun q hq => by injection hq with hq; omega)).alloc (by omega) _⟩

end Go.Proofs.YtapbmpodimdkpaaDoor

/- The drawing of states, beside a network. -/
namespace Go.Proofs.YtapbmpodimdkpaaDoor
open Go.ChangeShapes Go.WideShapes Go.ChangeAt Go.RowKit

theorem boolInfoG : (Tryd.prog.info? 4).map (fun i => (i.zero, i.size, i.bytes)) = some (some (.bool false), 1, 1) := by kernel_rfl
theorem row_far {w w' : World} {base e n : Nat} {v : Value} {xs : List Value} {R : Nat} (h : w.ownsRow base e 1 v n xs) (hg : w.grownBy w' (some R)) (hR : R < base) : w'.ownsRow base e 1 v n xs := by
  refine World.ownsRow.kept h hg ?_
  rcases hq : v.ownBlock with _ | q
  · exact .inl rfl
  · exact .inr (fun e => by injection e with e; have := (World.ownsRow.lt h q hq).1; omega)
theorem OwnT.pick {w w' : World} {base : Nat} {v : Value} {ts : List Bool} {R : Nat} (h : OwnT w base v ts) (hg : w.grownBy w' (some R)) (hR : R < base) : OwnT w' base v ts :=
  h.far hg (fun q hq e => by injection e with e; have := (h.lt q hq).1; omega)

end Go.Proofs.YtapbmpodimdkpaaDoor

/- The drawings of states: with a network, two of one network, a number. -/
namespace Go.Proofs.YtapbmpodimdkpaaDoor
open Go.ChangeShapes Go.WideShapes Go.ChangeAt Go.RowKit

theorem RowB.alloc {w : World} {A : Option Addr} {n : Nat} {code : List Int} (hr : RowB w A n code) (o : Obj) : RowB (w.alloc o) A n code := by
  refine ⟨hr.1, fun hp => ?_, hr.2.2⟩
  obtain ⟨b, off, e, hlt, hcl⟩ := hr.2.1 hp
  exact ⟨b, off, e, by simp; omega, fun k x hk => by rw [World.cell?_alloc_lt _ _ _ hlt]; exact hcl k x hk⟩

theorem made11b : (madeCells (Value.bool false).cells 11).toList.take 11 = (List.replicate 11 false).map Value.bool := by
  have h := madeCells_row (f := fun t : Bool => [Value.bool t]) (m := 1) (fun _ => rfl) (Value.bool false).cells false rfl (by decide) 11
  rw [Nat.mul_one] at h
  rw [h]; rfl

/-- What is behind the reader and the network, where no result lies in memory. -/
structure DrawS2 (w wx : World) (R X : Nat) (lim bs : Int) (v : Value) (ls : List L3) : Prop where
  hR : w.heap.size ≤ R
  var : IsBlk wx X 60 #[.int .i64 bs, v]
  hX : R < X
  own : OwnL wx (R + 1) v ls
  rd : Rd wx R lim
  bel : Below w.heap.size w wx
section
variable {w wx w' : World} {R X : Nat} {lim lim' bs : Int} {v : Value} {ls : List L3}
theorem DrawS2.pick (h : DrawS2 w wx R X lim bs v ls) (hr : Rd w' R lim') (hg : wx.grownBy w' (some R)) : DrawS2 w w' R X lim' bs v ls := by
  have h2 := h.hX
  have h1 := h.hR
  exact ⟨h.hR, (hg.block _ h.var.lt (by simp; omega)).trans h.var, h2,
    h.own.far hg (fun q hq e => by injection e with e; have := (World.ownsRow.lt h.own q hq).1; omega), hr, h.bel.grown hg h.bel.size (fun q hq => by injection hq with hq; omega)⟩
theorem DrawS2.drew (h : DrawS2 w wx R X lim bs v ls) : DrawS2 w wx.drew R X lim bs v ls := ⟨h.hR, h.var, h.hX, h.own, h.rd, h.bel.drew⟩
end
end Go.Proofs.YtapbmpodimdkpaaDoor

/- The laws' comparisons of states and of lists of numbers. -/
namespace Go.Proofs.YtapbmpodimdkpaaDoor
open Go.ChangeShapes Go.WideShapes Go.ChangeAt Go.RowKit

theorem OwnI.form {e : TypeId} {w : World} {base : Nat} {v : Value} {zs : List Int} (h : OwnI e w base v zs) : ∃ A c, v = .slice A zs.length c ∧ RowZ w A zs.length zs := by
  rcases h.2 with ⟨h1, h0⟩ | ⟨g, cap, cur, h1, hb, hg, hn, hc, hsz, ht⟩
  · have : zs = [] := List.eq_nil_of_length_eq_zero h0
    subst this
    exact ⟨none, 0, h1, RowZ.none_⟩
  · exact ⟨_, cap, h1, (h1 ▸ h : OwnI e w base (.slice (some ⟨g, 0, none⟩) zs.length cap) zs).rowZ⟩


theorem sameInts_same (A A' : Option Addr) (n c c' : Nat) (ts : List Int) (w : World) (hn : n ≤ 1048576) (hr : RowZ w A n ts) (hr' : RowZ w A' n ts) :
    Calls Tryd.prog 28 #[.slice A n c, .slice A' n c'] w fun e w' => e = .returned (.bool true) ∧ Below w.heap.size w w' := by
  have HR := Lib.hid hr
  have HR' := Lib.hid hr'
  clear hr hr'
  go_enter Tryd.func28, Tryd.ntmps28
  go_wp2
  go_loopw [5] (fun i wr => ∃ k : Nat, k ≤ n ∧ i = .int .i64 k ∧ Below w.heap.size w wr) (fun i _ => n - (intOf i).toNat)
  case atStart => exact ⟨0, by omega, rfl, Below.refl _ _⟩
  case round =>
    obtain ⟨k, hk, rfl, hbel⟩ := hrel
    by_cases hlt : k < n
    · obtain ⟨b, off, t, rfl, hb, hkt, g0⟩ := HR.out.at_ hlt
      obtain ⟨b', off', t', rfl, hb', hkt', g0'⟩ := HR'.out.at_ hlt
      rw [← hbel.cell (p := ⟨b, off + k, none⟩) hb] at g0
      rw [← hbel.cell (p := ⟨b', off' + k, none⟩) hb'] at g0'
      obtain rfl : t' = t := by rw [hkt] at hkt'; injection hkt' with h; exact h.symm
      clear hkt hkt'
      have i0 : (0 : Int) ≤ (k : Int) := by omega
      have i1 : (k : Int) < (n : Int) := by omega
      go_wp2
      go_quiet (fail)
      go_wp2
      go_roundw
      case rel => exact ⟨k + 1, by omega, by go_num, ⟨hbel.os, hbel.tape, hbel.output, hbel.size, hbel.block⟩⟩
      case measure => simp [intOf]; omega
    · go_wp2
      go_ret
      exact ⟨rfl, hbel⟩
theorem sameInts_own {v v' : Value} {zs : List Int} {e e' : TypeId} {w : World} {b b' : Nat} (hn : zs.length ≤ 1048576) (h : OwnI e w b v zs) (h' : OwnI e' w b' v' zs) :
    Calls Tryd.prog 28 #[v, v'] w fun e w' => e = .returned (.bool true) ∧ Below w.heap.size w w' := by
  obtain ⟨A, c, rfl, h1⟩ := h.form
  obtain ⟨A', c', rfl, h2⟩ := h'.form
  exact sameInts_same A A' _ c c' zs w hn h1 h2

end Go.Proofs.YtapbmpodimdkpaaDoor

/- The drawing of a network and a state beside a reader; and what draws by it: alone, with a bus, with two buses. -/
namespace Go.Proofs.YtapbmpodimdkpaaDoor
open Go.ChangeShapes Go.WideShapes Go.ChangeAt Go.RowKit

theorem grown_new {w0 w w' : World} {R q : Nat} (h : w0.grownBy w (some R)) (g : w.grownBy w' (some q)) (hq : w0.heap.size ≤ q) : w0.grownBy w' (some R) :=
  ⟨g.os.trans h.os, g.tape.trans h.tape, g.output.trans h.output, Nat.le_trans h.size g.size, fun p hp hne => (g.block p (Nat.lt_of_lt_of_le hp h.size) (fun e => by injection e with e; omega)).trans (h.block p hp hne)⟩

/-- While a state is drawn beside a network, by a reader that was there before. -/
structure SwSt (w wx : World) (R X : Nat) (lim bs : Int) (v : Value) (ls : List L3) : Prop where
  hR : R < w.heap.size
  ret : IsBlk wx w.heap.size 60 #[.int .i64 0, .slice none 0 0]
  hX : w.heap.size < X
  var : IsBlk wx X 60 #[.int .i64 bs, v]
  own : OwnL wx (w.heap.size + 1) v ls
  rd : Rd wx R lim
  gr : w.grownBy wx (some R)
section
variable {w wx w' : World} {R X : Nat} {lim lim' bs : Int} {v : Value} {ls : List L3}
theorem SwSt.pick (h : SwSt w wx R X lim bs v ls) (hr : Rd w' R lim') (hg : wx.grownBy w' (some R)) : SwSt w w' R X lim' bs v ls := by
  have h1 := h.hR
  have h2 := h.hX
  exact ⟨h.hR, (hg.block _ h.ret.lt (by simp; omega)).trans h.ret, h.hX, (hg.block _ h.var.lt (by simp; omega)).trans h.var,
    h.own.far hg (fun q hq e => by injection e with e; have := (World.ownsRow.lt h.own q hq).1; omega), hr, grown_then h.gr hg⟩
theorem SwSt.drew (h : SwSt w wx R X lim bs v ls) : SwSt w wx.drew R X lim bs v ls := ⟨h.hR, h.ret, h.hX, h.var, h.own, h.rd, h.gr.os, h.gr.tape, h.gr.output, h.gr.size, h.gr.block⟩
theorem SwSt.done (h : SwSt w wx R X lim bs v ls) (u u' : Value) :
    OwnL ((wx.setCell ⟨w.heap.size, 0, none⟩ u).setCell ⟨w.heap.size, 1, none⟩ u') (w.heap.size + 1) v ls ∧ Rd ((wx.setCell ⟨w.heap.size, 0, none⟩ u).setCell ⟨w.heap.size, 1, none⟩ u') R lim ∧ w.grownBy ((wx.setCell ⟨w.heap.size, 0, none⟩ u).setCell ⟨w.heap.size, 1, none⟩ u') (some R) := by
  have h1 := h.hR
  have g2 : wx.grownBy ((wx.setCell ⟨w.heap.size, 0, none⟩ u).setCell ⟨w.heap.size, 1, none⟩ u') (some w.heap.size) := grown_then (grown_put _ _ _ _) (grown_put _ _ _ _)
  exact ⟨h.own.far g2 (fun q hq e => by injection e with e; have := (World.ownsRow.lt h.own q hq).1; omega), h.rd.far (by omega) g2, grown_new h.gr g2 (Nat.le_refl _)⟩
end
theorem sw_start {w w2 : World} {R : Nat} {lim bs : Int} {v : Value} {ls : List L3} (hR : R < w.heap.size) (ho : OwnL w2 ((w.alloc (.cells #[.int .i64 0, .slice none 0 0] 60)).heap.size + 1) v ls) (hr : Rd w2 R lim)
    (hg : (w.alloc (.cells #[.int .i64 0, .slice none 0 0] 60)).grownBy w2 (some R)) : SwSt w (w2.alloc (.cells #[.int .i64 bs, v] 60)) R w2.heap.size lim bs v ls := by
  have h12 := hg.size
  rw [World.size_alloc] at h12 ho
  have k1 : IsBlk (w.alloc (.cells #[.int .i64 0, .slice none 0 0] 60)) w.heap.size 60 #[.int .i64 0, .slice none 0 0] := IsBlk.new w _ _
  have o2 : OwnL w2 (w.heap.size + 1) v ls := by
    refine ⟨ho.1, ?_⟩
    rcases ho.2 with h | ⟨g, cap, cur, h1, h2, h3⟩
    · exact .inl h
    · exact .inr ⟨g, cap, cur, h1, by omega, h3⟩
  exact ⟨hR, IsBlk.alloc ((hg.block _ k1.lt (by simp; omega)).trans k1) _, by omega, IsBlk.new _ _ _, o2.keep (below_bx _ _), hr.alloc _, grown_then (grown_then (grown_alloc _ _ _) hg) (grown_alloc _ _ _)⟩

theorem OwnL.more {w : World} {base base' : Nat} {v : Value} {ls : List L3} (h : OwnL w base v ls) (hb : base' ≤ base) : OwnL w base' v ls := by
  refine ⟨h.1, ?_⟩
  rcases h.2 with h | ⟨g, cap, cur, h1, h2, h3⟩
  · exact .inl h
  · exact .inr ⟨g, cap, cur, h1, by omega, h3⟩
theorem OwnT.far1 {wx : World} {base q : Nat} {v : Value} {ts : List Bool} (h : OwnT wx base v ts) (hq : q < base) (u u' : Value) : OwnT ((wx.setCell ⟨q, 0, none⟩ u).setCell ⟨q, 1, none⟩ u') base v ts :=
  h.far (grown_then (grown_put _ _ _ _) (grown_put _ _ _ _)) (fun p hp e => by injection e with e; have := (h.lt p hp).1; omega)

end Go.Proofs.YtapbmpodimdkpaaDoor

/- What draws a network and a state: alone, with a bus. -/
namespace Go.Proofs.YtapbmpodimdkpaaDoor
open Go.ChangeShapes Go.WideShapes Go.ChangeAt Go.RowKit

theorem draw_startS {w w1 w2 : World} {R : Nat} {lim bs : Int} {v : Value} {ls : List L3} (hb1 : Below (w.heap.size + 1) (w.alloc (.cells #[.int .i64 0, .slice none 0 0] 60)) w1) (hR : R = w.heap.size + 1) (hs : w1.heap.size = w.heap.size + 1 + 1)
    (ho : OwnL w2 (w1.heap.size + 1) v ls) (hr : Rd w2 R lim) (hg : w1.grownBy w2 (some R)) : DrawSt w (w2.alloc (.cells #[.int .i64 bs, v] 60)) R w2.heap.size lim bs v ls := by
  subst hR
  have h12 := hg.size
  have k1 : IsBlk w1 w.heap.size 60 #[.int .i64 0, .slice none 0 0] := (IsBlk.new w 60 #[.int .i64 0, .slice none 0 0]).below hb1 (by omega)
  have b1 : Below w.heap.size w w1 := (below_bx w _).trans (hb1.mono (by omega))
  exact ⟨IsBlk.alloc ((hg.block _ k1.lt (by simp)).trans k1) _, by omega, IsBlk.new _ _ _, by omega, (ho.more (by omega)).keep (below_bx _ _), hr.alloc _, (b1.grown hg (by omega) (fun q hq => by injection hq with hq; omega)).alloc (by omega) _⟩

/-- The answer of such a drawing without a bus. -/
def NetAndState (w : World) (e : Ending) (w' : World) : Prop := ∃ bs A c ls v ts, e = .returned (.tuple #[.agg #[.int .i64 bs, .slice A ls.length c], v]) ∧ RowL w' A ls.length ls ∧ ls.length ≤ 12 ∧ -1 ≤ bs ∧ bs ≤ 9 ∧ OwnT w' w.heap.size v ts ∧ ts.length ≤ 13 ∧ Below w.heap.size w w'

/-- The network is stored into the result. -/
theorem stored {w w1 w2 : World} {R : Nat} {A A' : Option Addr} {c c' : Nat} {ls : List L3} {bs : Int} {ts : List Bool} (hb1 : Below (w.heap.size + 1) (w.alloc (.cells #[.int .i64 0, .slice none 0 0] 60)) w1) (hR : R = w.heap.size + 1) (hs : w1.heap.size = w.heap.size + 1 + 1)
    (ho : OwnL w2 (w1.heap.size + 1) (.slice A ls.length c) ls) (hO : OwnT w2 (w1.heap.size + 1) (.slice A' ts.length c') ts) (hg : w1.grownBy w2 (some R)) :
    RowL ((w2.setCell ⟨w.heap.size, 0, none⟩ (.int .i64 bs)).setCell ⟨w.heap.size, 1, none⟩ (.slice A ls.length c)) A ls.length ls ∧ OwnT ((w2.setCell ⟨w.heap.size, 0, none⟩ (.int .i64 bs)).setCell ⟨w.heap.size, 1, none⟩ (.slice A ls.length c)) w.heap.size (.slice A' ts.length c') ts ∧ Below w.heap.size w ((w2.setCell ⟨w.heap.size, 0, none⟩ (.int .i64 bs)).setCell ⟨w.heap.size, 1, none⟩ (.slice A ls.length c)) := by
  subst hR
  have h12 := hg.size
  have b1 : Below w.heap.size w w1 := (below_bx w _).trans (hb1.mono (by omega))
  have b2 := b1.grown hg (by omega) (fun q hq => by injection hq with hq; omega)
  have g2 : w2.grownBy ((w2.setCell ⟨w.heap.size, 0, none⟩ (.int .i64 bs)).setCell ⟨w.heap.size, 1, none⟩ (.slice A ls.length c)) (some w.heap.size) := grown_then (grown_put _ _ _ _) (grown_put _ _ _ _)
  have o2 := ho.far g2 (fun q hq e => by injection e with e; have := (World.ownsRow.lt ho q hq).1; omega)
  refine ⟨?_, (hO.far1 (by omega) _ _).more (by omega), b2.grown g2 b2.size (fun q hq => by injection hq with hq; omega)⟩
  obtain ⟨A2, c2, e, hr⟩ := o2.row
  injection e with e1
  subst e1; exact hr




end Go.Proofs.YtapbmpodimdkpaaDoor
