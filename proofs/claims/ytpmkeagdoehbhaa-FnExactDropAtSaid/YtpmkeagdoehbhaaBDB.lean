/- Texts joined: The drawings of a network with a line, a bus or two buses; The drawing of states, beside a network; The drawings of states: with a network, two of one network, a number; The laws' comparisons of states and of lists of numbers; The drawing of a network and a state beside a reader; and what draws by it: alone, with a bus, with two buses; What draws a network and a state: alone, with a bus. -/
import Derived.Test.YtpmkeagdoehbhaaBD1
import Derived.Test.YtpmkeagdoehbhaaBPA
import Derived.Maps.AppendAt
import Derived.OwnWalk
import Derived.Deep.RegionWith
import Derived.Deep.CutBlock
import Derived.Test.YtpmkeagdoehbhaaBCA
import Derived.Deep.DeepCutAuto
import Derived.Test.YtpmkeagdoehbhaaChecked
import Derived.ProofKit
import Derived.Deep.QuietTactic
import Derived.BigQuiet
import Derived.Outline
import Derived.Test.YtpmkeagdoehbhaaBCC

/- The drawings of a network with a line, a bus or two buses. -/
namespace Go.Proofs.Ytpmkeagdoehbhaa
open Go.ChangeShapes Go.WideShapes Go.ChangeAt Go.RowKit

section
variable {w wx w' : World} {R X : Nat} {lim lim' bs : Int} {v : Value} {ls : List L3}
end

end Go.Proofs.Ytpmkeagdoehbhaa

/- The drawing of states, beside a network. -/
namespace Go.Proofs.Ytpmkeagdoehbhaa
open Go.ChangeShapes Go.WideShapes Go.ChangeAt Go.RowKit

theorem boolInfoG : (Try.prog.info? 4).map (fun i => (i.zero, i.size, i.bytes)) = some (some (.bool false), 1, 1) := by kernel_rfl
theorem row_far {w w' : World} {base e n : Nat} {v : Value} {xs : List Value} {R : Nat} (h : w.ownsRow base e 1 v n xs) (hg : w.grownBy w' (some R)) (hR : R < base) : w'.ownsRow base e 1 v n xs := by
  refine World.ownsRow.kept h hg ?_
  rcases hq : v.ownBlock with _ | q
  · exact .inl rfl
  · exact .inr (fun e => by injection e with e; have := (World.ownsRow.lt h q hq).1; omega)
theorem OwnT.pick {w w' : World} {base : Nat} {v : Value} {ts : List Bool} {R : Nat} (h : OwnT w base v ts) (hg : w.grownBy w' (some R)) (hR : R < base) : OwnT w' base v ts :=
  h.far hg (fun q hq e => by injection e with e; have := (h.lt q hq).1; omega)

end Go.Proofs.Ytpmkeagdoehbhaa

/- The drawings of states: with a network, two of one network, a number. -/
namespace Go.Proofs.Ytpmkeagdoehbhaa
open Go.ChangeShapes Go.WideShapes Go.ChangeAt Go.RowKit

theorem RowB.alloc {w : World} {A : Option Addr} {n : Nat} {code : List Int} (hr : RowB w A n code) (o : Obj) : RowB (w.alloc o) A n code := by
  refine ⟨hr.1, fun hp => ?_, hr.2.2⟩
  obtain ⟨b, off, e, hlt, hcl⟩ := hr.2.1 hp
  exact ⟨b, off, e, by simp; omega, fun k x hk => by rw [World.cell?_alloc_lt _ _ _ hlt]; exact hcl k x hk⟩

theorem make11b (w : World) : (Instr.makeSlice 25 (.int .i64 11) (.int .i64 11)).run Try.prog w = .ok (.slice (some ⟨w.heap.size, 0, none⟩) 11 11) (w.alloc (.cells (madeCells (Value.bool false).cells 11) 4)) := by
  obtain ⟨i0, hi, hz0, hz1, hz2⟩ := info_parts boolInfoG
  have := run_make (P := Try.prog) w 25 4 i0 _ Try.underlying25 hi hz0 .i64 .i64 11 11 (by omega) (by omega) (by rw [hz2]; omega) (by omega)
  rw [this]
  show Result.ok _ (w.alloc (.cells (madeCells (Value.bool false).cells (11 * i0.size)) _)) = _
  rw [hz1]
  rfl
theorem made11b : (madeCells (Value.bool false).cells 11).toList.take 11 = (List.replicate 11 false).map Value.bool := by
  have h := madeCells_row (f := fun t : Bool => [Value.bool t]) (m := 1) (fun _ => rfl) (Value.bool false).cells false rfl (by decide) 11
  rw [Nat.mul_one] at h
  rw [h]; rfl

section
variable {w wx w' : World} {R X : Nat} {lim lim' bs : Int} {v : Value} {ls : List L3}
end
end Go.Proofs.Ytpmkeagdoehbhaa

/- The laws' comparisons of states and of lists of numbers. -/
namespace Go.Proofs.Ytpmkeagdoehbhaa
open Go.ChangeShapes Go.WideShapes Go.ChangeAt Go.RowKit

theorem OwnI.form {e : TypeId} {w : World} {base : Nat} {v : Value} {zs : List Int} (h : OwnI e w base v zs) : ∃ A c, v = .slice A zs.length c ∧ RowZ w A zs.length zs := by
  rcases h.2 with ⟨h1, h0⟩ | ⟨g, cap, cur, h1, hb, hg, hn, hc, hsz, ht⟩
  · have : zs = [] := List.eq_nil_of_length_eq_zero h0
    subst this
    exact ⟨none, 0, h1, RowZ.none_⟩
  · exact ⟨_, cap, h1, (h1 ▸ h : OwnI e w base (.slice (some ⟨g, 0, none⟩) zs.length cap) zs).rowZ⟩



end Go.Proofs.Ytpmkeagdoehbhaa

/- The drawing of a network and a state beside a reader; and what draws by it: alone, with a bus, with two buses. -/
namespace Go.Proofs.Ytpmkeagdoehbhaa
open Go.ChangeShapes Go.WideShapes Go.ChangeAt Go.RowKit

theorem grown_new {w0 w w' : World} {R q : Nat} (h : w0.grownBy w (some R)) (g : w.grownBy w' (some q)) (hq : w0.heap.size ≤ q) : w0.grownBy w' (some R) :=
  ⟨g.os.trans h.os, g.tape.trans h.tape, g.output.trans h.output, Nat.le_trans h.size g.size, fun p hp hne => (g.block p (Nat.lt_of_lt_of_le hp h.size) (fun e => by injection e with e; omega)).trans (h.block p hp hne)⟩

section
variable {w wx w' : World} {R X : Nat} {lim lim' bs : Int} {v : Value} {ls : List L3}
end
theorem OwnL.more {w : World} {base base' : Nat} {v : Value} {ls : List L3} (h : OwnL w base v ls) (hb : base' ≤ base) : OwnL w base' v ls := by
  refine ⟨h.1, ?_⟩
  rcases h.2 with h | ⟨g, cap, cur, h1, h2, h3⟩
  · exact .inl h
  · exact .inr ⟨g, cap, cur, h1, by omega, h3⟩
theorem OwnT.far1 {wx : World} {base q : Nat} {v : Value} {ts : List Bool} (h : OwnT wx base v ts) (hq : q < base) (u u' : Value) : OwnT ((wx.setCell ⟨q, 0, none⟩ u).setCell ⟨q, 1, none⟩ u') base v ts :=
  h.far (grown_then (grown_put _ _ _ _) (grown_put _ _ _ _)) (fun p hp e => by injection e with e; have := (h.lt p hp).1; omega)

end Go.Proofs.Ytpmkeagdoehbhaa

/- What draws a network and a state: alone, with a bus. -/
namespace Go.Proofs.Ytpmkeagdoehbhaa
open Go.ChangeShapes Go.WideShapes Go.ChangeAt Go.RowKit

/-- The answer of such a drawing without a bus. -/
def NetAndState (w : World) (e : Ending) (w' : World) : Prop := ∃ bs A c ls v ts, e = .returned (.tuple #[.agg #[.int .i64 bs, .slice A ls.length c], v]) ∧ RowL w' A ls.length ls ∧ ls.length ≤ 12 ∧ -1 ≤ bs ∧ bs ≤ 9 ∧ OwnT w' w.heap.size v ts ∧ ts.length ≤ 13 ∧ Below w.heap.size w w'

/-- The network is stored into the result. -/
theorem stored {w w1 w2 : World} {R : Nat} {A A' : Option Addr} {c c' : Nat} {ls : List L3} {bs : Int} {ts : List Bool} (hb1 : Below (w.heap.size + 1) (w.alloc (.cells #[.int .i64 0, .slice none 0 0] 33)) w1) (hR : R = w.heap.size + 1) (hs : w1.heap.size = w.heap.size + 1 + 1)
    (ho : OwnL w2 (w1.heap.size + 1) (.slice A ls.length c) ls) (hO : OwnT w2 (w1.heap.size + 1) (.slice A' ts.length c') ts) (hg : w1.grownBy w2 (some R)) :
    RowL ((w2.setCell ⟨w.heap.size, 0, none⟩ (.int .i64 bs)).setCell ⟨w.heap.size, 1, none⟩ (.slice A ls.length c)) A ls.length ls ∧ OwnT ((w2.setCell ⟨w.heap.size, 0, none⟩ (.int .i64 bs)).setCell ⟨w.heap.size, 1, none⟩ (.slice A ls.length c)) w.heap.size (.slice A' ts.length c') ts ∧ Below w.heap.size w ((w2.setCell ⟨w.heap.size, 0, none⟩ (.int .i64 bs)).setCell ⟨w.heap.size, 1, none⟩ (.slice A ls.length c)) := by
  subst hR
  have h12 := hg.size
  have b1 : Below w.heap.size w w1 := (below_bx w _).trans (hb1.mono (by omega))
  have b2 := b1.grown hg (by omega) (fun q hq => by injection hq with hq; omega)
  have g2 : w2.grownBy ((w2.setCell ⟨w.heap.size, 0, none⟩ (.int .i64 bs)).setCell ⟨w.heap.size, 1, none⟩ (.slice A ls.length c)) (some w.heap.size) := grown_then (grown_put _ _ _ _) (grown_put _ _ _ _)
  have o2 := ho.far g2 (fun q hq e => by injection e with e; have := (World.ownsRow.lt ho q hq).1; omega)
  refine ⟨?_, (hO.far1 (by omega) _ _).more (by omega), b2.grown g2 b2.size (fun q hq => by injection hq with hq; omega)⟩
  obtain ⟨A2, c2, e, hr⟩ := o2.row
  injection e with e1
  subst e1; exact hr




end Go.Proofs.Ytpmkeagdoehbhaa
