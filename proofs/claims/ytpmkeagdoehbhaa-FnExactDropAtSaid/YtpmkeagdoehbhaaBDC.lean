/- Texts joined: Slices of the struct Bus of a call's own (written by program); The drawing of buses beside a network; The drawing of a network, a state and buses beside a reader; and what draws by it; The drawings of FnBusesValid, FnIslandFeed and FnIslandLoad; The laws' own helpers of chapter 5; what a region holds. -/
import Derived.Test.YtpmkeagdoehbhaaChecked
import Derived.Test.YtpmkeagdoehbhaaBPA
import Derived.Laws.MakeOwn
import Derived.Laws.OwnMore
import Derived.ProofKit
import Derived.Test.YtpmkeagdoehbhaaBDB
import Derived.Test.YtpmkeagdoehbhaaD3
import Derived.Test.YtpmkeagdoehbhaaBPC
import Derived.Test.YtpmkeagdoehbhaaBCE
import Derived.Test.YtpmkeagdoehbhaaBCD
import Derived.Test.YtpmkeagdoehbhaaBCF

/- Slices of the struct Bus of a call's own (written by program). -/
namespace Go.Proofs.Ytpmkeagdoehbhaa
open Go.ChangeShapes Go.WideShapes Go.ChangeAt Go.RowKit

theorem busInfo3 : (Try.prog.info? 55).map (fun i => (i.zero, i.size, i.bytes)) = some (some (.agg #[.int .i64 0, .int .i64 0]), 2, 16) := by kernel_rfl
def OwnU (w : World) (base : Nat) (v : Value) (us : List TU) : Prop := w.ownsRow base 55 2 v us.length (us.flatMap fU)
section
variable {w w' : World} {base base' : Nat} {v : Value} {us : List TU}
theorem OwnU.keep (h : OwnU w base v us) (hb : Below w.heap.size w w') : OwnU w' base v us :=
  World.ownsRow.kept (row := none) h ⟨hb.os, hb.tape, hb.output, hb.size, fun i hi _ => hb.block i hi⟩ (Classical.em _)
theorem OwnU.alloc (h : OwnU w base v us) (o : Obj) : OwnU (w.alloc o) base v us := h.keep (below_bx w o)
theorem OwnU.nil {w : World} {base : Nat} : OwnU w base (.slice none 0 0) [] := World.ownsRow_nil _ _ _ _
theorem OwnU.far {row : Option Nat} (h : OwnU w base v us) (hg : w.grownBy w' row) (hne : ∀ q, v.ownBlock = some q → row ≠ some q) : OwnU w' base v us := by
  refine World.ownsRow.kept h hg ?_
  rcases hq : v.ownBlock with _ | q
  · exact .inl rfl
  · exact .inr (fun e => hne q hq e.symm)
theorem OwnU.lt (h : OwnU w base v us) : ∀ q, v.ownBlock = some q → base ≤ q ∧ q < w.heap.size := fun q hq => World.ownsRow.lt h q hq
theorem OwnU.more (h : OwnU w base v us) (hb : base' ≤ base) : OwnU w base' v us := by
  refine ⟨h.1, ?_⟩
  rcases h.2 with h | ⟨g, cap, cur, h1, h2, h3⟩
  · exact .inl h
  · exact .inr ⟨g, cap, cur, h1, Nat.le_trans hb h2, h3⟩
theorem OwnU.row (h : OwnU w base v us) : ∃ A c, v = .slice A us.length c ∧ RowU w A us.length us := by
  rcases h.2 with ⟨rfl, h0⟩ | ⟨g, cap, cur, rfl, hb, hg, hn, hc, hsz, ht⟩
  · exact ⟨none, 0, by rw [h0], rfl, fun hp => absurd hp (by omega)⟩
  · refine ⟨some ⟨g, 0, none⟩, cap, rfl, rfl, fun _ => ⟨g, 0, rfl, (Array.getElem?_eq_some_iff.1 hg).1, fun k l hk => ?_⟩⟩
    have hlt : k < us.length := (List.getElem?_eq_some_iff.1 hk).1
    have one : ∀ j, j < 2 → w.cell? ⟨g, 0 + k * 2 + j, none⟩ = (fU l)[j]? := by
      intro j hj
      rw [cell_of_row w g _ cur 55 (0, 0) hg, Nat.zero_add, ← Array.getElem?_toList]
      have e := flat_get (f := fU) fU_len us k l j hk hj
      rw [← ht, List.getElem?_take_of_lt (by omega)] at e
      exact e
    exact ⟨one 0 (by omega), one 1 (by omega)⟩
/-- A field of an element is stored. -/
theorem OwnU.put (h : OwnU w base v us) {k j : Nat} {u u' : TU} {x : Value} (hk : us[k]? = some u) (hj : j < 2) (hu : fU u' = (fU u).set j x) :
    ∃ g cap, v = .slice (some ⟨g, 0, none⟩) us.length cap ∧ base ≤ g ∧ g < w.heap.size ∧ w.frozen? ⟨g, k * 2 + j, none⟩ = false ∧ (∃ z, w.cell? ⟨g, k * 2 + j, none⟩ = some z) ∧ OwnU (w.setCell ⟨g, k * 2 + j, none⟩ x) base v (us.set k u') := by
  have hlt : k < us.length := (List.getElem?_eq_some_iff.1 hk).1
  have hkm : k * 2 + j < us.length * 2 := by omega
  rcases h.2 with ⟨_, h0⟩ | ⟨g, cap, cur, rfl, hb, hg, hn, hc, hsz, ht⟩
  · omega
  · have hB : IsBlk w g 55 cur := hg
    have hcs : k * 2 + j < cur.size := by omega
    refine ⟨g, cap, rfl, hb, hB.lt, hB.thaw _, ⟨cur[k * 2 + j], (hB.cell _).trans (Array.getElem?_eq_getElem hcs)⟩, ?_⟩
    show World.ownsRow _ _ _ _ _ (us.set k u').length _
    rw [List.length_set]
    refine ⟨by rw [flat_len fU_len, List.length_set], .inr ⟨g, cap, _, rfl, hb, hB.put _ _, hn, hc, by simpa using hsz, ?_⟩⟩
    rw [Array.toList_setIfInBounds, List.take_set, ht]
    clear ht hsz hn hc hg hB hcs hkm h hlt
    revert k
    induction us with
    | nil => intro k hk; simp at hk
    | cons a t ih =>
      intro k hk
      rcases k with _ | k
      · simp at hk; subst hk
        rw [List.set_cons_zero, List.flatMap_cons, List.flatMap_cons, hu, Nat.zero_mul, Nat.zero_add, List.set_append_left _ _ (by rw [fU_len]; exact hj)]
      · have := ih (k := k) (by simpa using hk)
        rw [List.set_cons_succ, List.flatMap_cons, List.flatMap_cons, ← this, List.set_append_right _ _ (by rw [fU_len]; omega), fU_len]
        congr 2; omega
theorem OwnU.snoc {u : TU} (h : w.ownsRow base 55 2 v (us.length + 1) (us.flatMap fU ++ fU u)) : OwnU w base v (us ++ [u]) := by
  show World.ownsRow _ _ _ _ _ (us ++ [u]).length _
  rw [List.length_append, List.flatMap_append, List.flatMap_singleton]; exact h
theorem newU (w : World) (l : TU) (t : TypeId) : ∀ j u, (fU l)[j]? = some u → (w.alloc (.cells (fU l).toArray t)).cell? ((⟨w.heap.size, 0, none⟩ : Addr).add j) = some u := by
  intro j u hj
  have h := (IsBlk.new w t (fU l).toArray).cell j
  have ha : (⟨w.heap.size, 0, none⟩ : Addr).add j = ⟨w.heap.size, j, none⟩ := by unfold Addr.add; split <;> simp_all
  rw [ha, h, ← hj]; simp
end
end Go.Proofs.Ytpmkeagdoehbhaa

/- The drawing of buses beside a network. -/
namespace Go.Proofs.Ytpmkeagdoehbhaa
open Go.ChangeShapes Go.WideShapes Go.ChangeAt Go.RowKit

section
variable {w wr w' : World} {R n c : Nat} {lim lim' bs : Int} {A : Option Addr} {v v' : Value} {us us' : List TU}
end
theorem ownU_lit (w : World) : OwnU (w.alloc (.cells #[] 55)) w.heap.size (.slice (some ⟨w.heap.size, 0, none⟩) 0 0) [] := by
  have := World.ownsRow_lit (base := w.heap.size) (size := 2) (e := 55) w #[] 0 (by omega) (by decide) rfl
  simpa [OwnU] using this

end Go.Proofs.Ytpmkeagdoehbhaa

/- The drawing of a network, a state and buses beside a reader; and what draws by it. -/
namespace Go.Proofs.Ytpmkeagdoehbhaa
open Go.ChangeShapes Go.WideShapes Go.ChangeAt Go.RowKit

theorem OwnU.far1 {wx : World} {base q : Nat} {v : Value} {us : List TU} (h : OwnU wx base v us) (hq : q < base) (u u' : Value) : OwnU ((wx.setCell ⟨q, 0, none⟩ u).setCell ⟨q, 1, none⟩ u') base v us :=
  h.far (grown_then (grown_put _ _ _ _) (grown_put _ _ _ _)) (fun p hp e => by injection e with e; have := (h.lt p hp).1; omega)
theorem OwnU.pick {w w' : World} {base : Nat} {v : Value} {us : List TU} {R : Nat} (h : OwnU w base v us) (hg : w.grownBy w' (some R)) (hR : R < base) : OwnU w' base v us :=
  h.far hg (fun q hq e => by injection e with e; have := (h.lt q hq).1; omega)

/-- The answer of such a drawing without a bus. -/
def Powered (w : World) (e : Ending) (w' : World) : Prop := ∃ bs A c ls v ts u us, e = .returned (.tuple #[.agg #[.int .i64 bs, .slice A ls.length c], v, u]) ∧ RowL w' A ls.length ls ∧ ls.length ≤ 12 ∧ -1 ≤ bs ∧ bs ≤ 9 ∧ OwnT w' w.heap.size v ts ∧ ts.length ≤ 13 ∧ OwnU w' w.heap.size u us ∧ us.length ≤ 10 ∧ Below w.heap.size w w'
/-- The network is stored into the result; the buses are where they were. -/
theorem storedU {w w1 w2 : World} {u : Value} {us : List TU} (hs : w1.heap.size = w.heap.size + 1 + 1) (hU : OwnU w2 (w1.heap.size + 1) u us) (x y : Value) :
    OwnU ((w2.setCell ⟨w.heap.size, 0, none⟩ x).setCell ⟨w.heap.size, 1, none⟩ y) w.heap.size u us := (hU.far1 (by omega) _ _).more (by omega)

end Go.Proofs.Ytpmkeagdoehbhaa

/- The drawings of FnBusesValid, FnIslandFeed and FnIslandLoad. -/
namespace Go.Proofs.Ytpmkeagdoehbhaa
open Go.ChangeShapes Go.WideShapes Go.ChangeAt Go.RowKit

theorem OwnL.far1 {wx : World} {base q : Nat} {v : Value} {ls : List L3} (h : OwnL wx base v ls) (hq : q < base) (u u' : Value) : OwnL ((wx.setCell ⟨q, 0, none⟩ u).setCell ⟨q, 1, none⟩ u') base v ls :=
  h.far (grown_then (grown_put _ _ _ _) (grown_put _ _ _ _)) (fun p hp e => by injection e with e; have := (World.ownsRow.lt h p hp).1; omega)
theorem OwnL.rowL {w : World} {base n c : Nat} {A : Option Addr} {ls : List L3} (h : OwnL w base (.slice A n c) ls) : RowL w A n ls := by
  obtain ⟨A', c', e, hr⟩ := h.row
  injection e with e1 e2
  subst e1 e2; exact hr
/-- The answer of such a drawing with a bus. -/
def PoweredBus (w : World) (e : Ending) (w' : World) : Prop := ∃ bs A c ls v ts u us bus, e = .returned (.tuple #[.agg #[.int .i64 bs, .slice A ls.length c], v, u, .int .i64 bus]) ∧ OwnL w' w.heap.size (.slice A ls.length c) ls ∧ ls.length ≤ 12 ∧ -1 ≤ bs ∧ bs ≤ 9 ∧ OwnT w' w.heap.size v ts ∧ ts.length ≤ 13 ∧ OwnU w' w.heap.size u us ∧ us.length ≤ 10 ∧ Below w.heap.size w w'

end Go.Proofs.Ytpmkeagdoehbhaa

/- The laws' own helpers of chapter 5; what a region holds. -/
namespace Go.Proofs.Ytpmkeagdoehbhaa
open Go.ChangeShapes Go.WideShapes Go.ChangeAt Go.RowKit

theorem holdH {w w' : World} {X b o b' o' : Nat} {u v x z : Value} (p0 : w.cell? ⟨X, 0, none⟩ = some u) (p1 : w.cell? ⟨X, 1, none⟩ = some v) (hX : X < w.heap.size) (g0 : w.cell? ⟨b, o, none⟩ = some x) (hbb : b < w.heap.size) (e0 : w.cell? ⟨b', o', none⟩ = some z) (hbe : b' < w.heap.size) (hb : Below w.heap.size w w') :
    Below w.heap.size w w' ∧ w'.cell? ⟨X, 0, none⟩ = some u ∧ w'.cell? ⟨X, 1, none⟩ = some v ∧ w'.cell? ⟨b, o, none⟩ = some x ∧ w'.cell? ⟨b', o', none⟩ = some z :=
  ⟨hb, (hb.cell (p := ⟨X, 0, none⟩) hX).trans p0, (hb.cell (p := ⟨X, 1, none⟩) hX).trans p1, (hb.cell (p := ⟨b, o, none⟩) hbb).trans g0, (hb.cell (p := ⟨b', o', none⟩) hbe).trans e0⟩
end Go.Proofs.Ytpmkeagdoehbhaa
