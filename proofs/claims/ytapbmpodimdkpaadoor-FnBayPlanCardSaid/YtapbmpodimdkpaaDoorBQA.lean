/- Texts joined: The search for bridges, of the program; The bridges, of the program; CycleLines, BridgeLines, HasCycle, of the program. -/
import Derived.Test.YtapbmpodimdkpaaDoorBFA
import Derived.Test.YtapbmpodimdkpaaDoorBCB
import Derived.Test.YtapbmpodimdkpaaDoorBCD
import Derived.OneCell
import Derived.Laws.EntriesVeiled

/- The search for bridges, of the program. -/
namespace Go.Proofs.YtapbmpodimdkpaaDoor
open Go.ChangeShapes Go.WideShapes Go.ChangeAt Go.RowKit

def boolsB (bb : List Bool) : Array Value := (bb.map Value.bool).toArray
theorem boolsB_set (bb : List Bool) (k : Nat) (t : Bool) : (boolsB bb).setIfInBounds k (.bool t) = boolsB (bb.set k t) := by
  apply Array.ext'
  simp [boolsB, List.map_set]
def tF (zs : List Nat) (b : Nat) : Nat := zs.getD b 0
def brF (bb : List Bool) (j : Nat) : Bool := bb.getD j false
theorem tF_set {zs : List Nat} {x v : Nat} (hx : x < zs.length) : tF (zs.set x v) = fun b => if b = x then v else tF zs b := by
  funext b
  unfold tF
  rw [List.getD_eq_getElem?_getD, List.getD_eq_getElem?_getD]
  by_cases e : b = x
  · subst e; rw [if_pos rfl, List.getElem?_set_self hx]; rfl
  · rw [if_neg e, List.getElem?_set_ne (fun e2 => e e2.symm)]
theorem brF_set {bb : List Bool} {k : Nat} {t : Bool} (hk : k < bb.length) : brF (bb.set k t) = fun j => if j = k then t else brF bb j := by
  funext b
  unfold brF
  rw [List.getD_eq_getElem?_getD, List.getD_eq_getElem?_getD]
  by_cases e : b = k
  · subst e; rw [if_pos rfl, List.getElem?_set_self hk]; rfl
  · rw [if_neg e, List.getElem?_set_ne (fun e2 => e e2.symm)]
theorem tF_get {zs : List Nat} {b : Nat} (hb : b < zs.length) : zs[b]? = some (tF zs b) := by
  rw [tF, List.getD_eq_getElem?_getD, List.getElem?_eq_getElem hb]; rfl
section
variable {w wr w' : World} {g : Nat} {bs : Int} {n c m d : Nat} {A B : Option Addr} {zs : List Nat} {now : Nat} {bb : List Bool}
end
theorem min_if (a b : Nat) : Value.int .i64 (if b < a then (b : Int) else (a : Int)) = .int .i64 ((min a b : Nat) : Int) := by
  congr 1; split <;> omega
/-- The other end of a line that is on. -/
theorem otherF_on {nb : Nat} {ls : List L3} {ts : List Bool} {k x : Nat} {l : L3} (hv : netOk nb ls = true) (hl : ls[k]? = some l) (ht : ts[k]? = some true) :
    (∃ o : Nat, otherF nb ls k x = (o : Int) ∧ Ln ls ts k x o ∧ o < nb) ∨ (otherF nb ls k x = -1 ∧ ∀ u, ¬ Ln ls ts k x u) := by
  have h2 := netOk_line hv hl
  simp [lineOk, inB] at h2
  have hlen : k < ls.length := (List.getElem?_eq_some_iff.1 hl).1
  have hgd : ls.getD k (0, 0, 0) = l := by rw [List.getD_eq_getElem?_getD, hl]; rfl
  have e : otherF nb ls k x = if l.1 = (x : Int) then l.2.1 else if l.2.1 = (x : Int) then l.1 else -1 := by
    simp only [otherF, Int.toNat_natCast, hgd]
    rw [if_pos ⟨hv, by omega, by omega⟩]
  rw [e]
  by_cases h1 : l.1 = (x : Int)
  · rw [if_pos h1]
    exact .inl ⟨l.2.1.toNat, by omega, ⟨l, hl, ht, .inl ⟨by omega, rfl⟩⟩, by omega⟩
  · rw [if_neg h1]
    by_cases h3 : l.2.1 = (x : Int)
    · rw [if_pos h3]
      exact .inl ⟨l.1.toNat, by omega, ⟨l, hl, ht, .inr ⟨by omega, rfl⟩⟩, by omega⟩
    · rw [if_neg h3]
      refine .inr ⟨rfl, ?_⟩
      rintro u ⟨l', hl', _, h4⟩
      rw [hl] at hl'; injection hl' with hl'; subst hl'
      omega

end Go.Proofs.YtapbmpodimdkpaaDoor

/- The bridges, of the program. -/
namespace Go.Proofs.YtapbmpodimdkpaaDoor
open Go.ChangeShapes Go.WideShapes Go.ChangeAt Go.RowKit

theorem boolsB_one (bb : List Bool) : (boolsB bb).all (·.oneCell') = true := by simp [boolsB, Value.oneCell']
end Go.Proofs.YtapbmpodimdkpaaDoor

/- CycleLines, BridgeLines, HasCycle, of the program. -/
namespace Go.Proofs.YtapbmpodimdkpaaDoor
open Go.ChangeShapes Go.WideShapes Go.ChangeAt Go.RowKit

theorem linTo_next (ls : List L3) (ts : List Bool) (br : Bool) (k : Nat) : ofN (linTo ls ts br (k + 1)) = ofN (linTo ls ts br k) ++ (if linB ls ts br k = true then [(k : Int)] else []) := by
  cases h : linB ls ts br k
  · rw [linTo_no h]; simp
  · rw [linTo_yes h]; simp [ofN]
theorem boolsB_get {bb : List Bool} {k : Nat} (h : k < bb.length) : (boolsB bb)[k]? = some (.bool (brF bb k)) := by
  have : bb[k]? = some (brF bb k) := getD_get h
  simp [boolsB, this]
theorem linB_off {ls : List L3} {ts : List Bool} {k : Nat} (br : Bool) (h : ts[k]? = some false) : linB ls ts br k = false := by
  rw [linB, briB, cycB, getD_some h]; cases br <;> rfl
theorem linB_on {ls : List L3} {ts : List Bool} {k : Nat} (br : Bool) (h : ts[k]? = some true) : linB ls ts br k = (briB ls ts k == br) := by
  rw [linB, briB, getD_some h]; cases br <;> cases cycB ls ts k <;> rfl

end Go.Proofs.YtapbmpodimdkpaaDoor
