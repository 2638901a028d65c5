/- Maps keyed by bays: what a look-up, a store and a count do. -/
import Derived.Test.YtapbmpodimdkpaaDoorBay1
import Derived.Test.YtapbmpodimdkpaaDoorBayP
import Derived.Maps.OwnSet
import Derived.Maps.OwnIn
import Derived.DeepKeys4
import Derived.Laws.IdiomMaps
namespace Go.Proofs.YtapbmpodimdkpaaDoor
open Go.ChangeShapes Go.WideShapes Go.ChangeAt Go.RowKit Go.Maps

def bit8 (x : Bool) : UInt8 := if x = true then 1 else 0
def kB (b : B4) : Lit := .string [bit8 b.1, bit8 b.2.1, bit8 b.2.2.1, bit8 b.2.2.2]
theorem key_bay (b : B4) : keyOf Tryd.prog 24 (vB b) = some (kB b) := by
  obtain ⟨a, b, c, e⟩ := b
  cases a <;> cases b <;> cases c <;> cases e <;> kernel_rfl
theorem laidBay : laidOutB Tryd.prog = true := by kernel_rfl
theorem lawBay : Keyed Tryd.prog 24 := Keyed.of_law (deep_law_laid laidBay (m := 2) (by omega) (of_decide_eq_true (by kernel_rfl)) (by kernel_rfl) (by kernel_rfl))
theorem kB_inj {b b' : B4} (h : kB b = kB b') : b = b' := by
  have h1 := lawBay.inj (key_bay b) (h ▸ key_bay b')
  obtain ⟨x, y, z, u⟩ := b
  obtain ⟨x', y', z', u'⟩ := b'
  simp only [vB, Value.agg.injEq, Array.mk.injEq, List.cons.injEq, Value.bool.injEq, and_true] at h1
  obtain ⟨rfl, rfl, rfl, rfl⟩ := h1
  rfl
theorem zeroInt (w : World) : (zeroValue 3).run Tryd.prog w = .ok (.int .i64 0) w := by kernel_rfl
theorem i64_wf {n : Nat} (h : n ≤ 1000) : (Lit.int .i64 (n : Int)).wf = true := WalkArith.wf_i64 (by omega)

/-- Block B is a map of c entries that tells M of the bays. -/
def MapSt (w : World) (B : Nat) (M : B4 → Option Nat) (c : Nat) : Prop :=
  ∃ D : DataW Unit, w.ownsMap Tryd.prog 24 (plainElem Tryd.prog 3) B c D ∧ Maps.size D = c ∧ ∀ b, Maps.has D (kB b) = (M b).isSome ∧ ∀ v, M b = some v → D.atKey (kB b) (.lit (.int .i64 0)) = .lit (.int .i64 (v : Int))
theorem tightMap {w : World} {B n : Nat} {D : DataW Unit} (h : w.ownsMap Tryd.prog 24 (plainElem Tryd.prog 3) B n D) : w.ownsMap Tryd.prog 24 (plainElem Tryd.prog 3) B (Maps.size D) D := by
  obtain ⟨es, clock, hb, F, hs, rfl⟩ := h
  exact ⟨es, clock, hb, F, by simp [Maps.size, length_sorted], rfl⟩
theorem MapSt.start (w : World) : MapSt (w.alloc (.map #[] 0)) w.heap.size (fun _ => none) 0 :=
  ⟨.map [], World.ownsMap_made _ _ _ _, rfl, fun b => ⟨rfl, fun v h => by cases h⟩⟩
theorem MapSt.lt {w : World} {B : Nat} {M : B4 → Option Nat} {c : Nat} (h : MapSt w B M c) : B < w.heap.size := by
  obtain ⟨D, h1, _⟩ := h; exact h1.lt
theorem MapSt.kept {w w' : World} {B : Nat} {M : B4 → Option Nat} {c : Nat} {row : Option Nat} (h : MapSt w B M c) (hg : w.grownBy w' row) (hne : some B ≠ row) : MapSt w' B M c := by
  obtain ⟨D, h1, h2, h3⟩ := h
  exact ⟨D, h1.kept hg hne, h2, h3⟩
theorem MapSt.keep {w w' : World} {B : Nat} {M : B4 → Option Nat} {c : Nat} (h : MapSt w B M c) (hb : Below w.heap.size w w') : MapSt w' B M c :=
  h.kept (row := none) ⟨hb.os, hb.tape, hb.output, hb.size, fun k hk _ => hb.block k hk⟩ (by simp)
theorem MapSt.alloc {w : World} {B : Nat} {M : B4 → Option Nat} {c : Nat} (h : MapSt w B M c) (o : Obj) : MapSt (w.alloc o) B M c := h.keep (below_bx w o)
theorem MapSt.drew {w : World} {B : Nat} {M : B4 → Option Nat} {c : Nat} (h : MapSt w B M c) : MapSt w.drew B M c := h
theorem put_map {w' : World} {B c : Nat} {M : B4 → Option Nat} {D : DataW Unit} {b : B4} {v : Nat} (hM : M b = none) (hD : IsMap D) (ht : Tidy D) (hs : Maps.size D = c) (hall : ∀ b, Maps.has D (kB b) = (M b).isSome ∧ ∀ v, M b = some v → D.atKey (kB b) (.lit (.int .i64 0)) = .lit (.int .i64 (v : Int)))
    (h : w'.ownsMap Tryd.prog 24 (plainElem Tryd.prog 3) B (c + 1) (D.put (kB b) (.lit (.int .i64 (v : Int))))) : MapSt w' B (fun x => if x = b then some v else M x) (c + 1) := by
  have hkey : WideAt.IsKeyLit (kB b) := lawBay.key (key_bay b)
  have hno : Maps.has D (kB b) = false := by rw [(hall b).1, hM]; rfl
  have hsz : Maps.size (D.put (kB b) (.lit (.int .i64 (v : Int)))) = c + 1 := by
    rw [Maps.size_put ht, hs, hno]; rfl
  refine ⟨_, hsz ▸ tightMap h, hsz, fun x => ?_⟩
  dsimp only
  by_cases hx : x = b
  · subst hx
    rw [if_pos rfl]
    exact ⟨has_put_same hD hkey _, fun u hu => by injection hu with hu; subst hu; exact atKey_put_same hD hkey _ _⟩
  · have hne : kB x ≠ kB b := fun e => hx (kB_inj e)
    rw [if_neg hx]
    refine ⟨by rw [has_put_other hne]; exact (hall x).1, fun u hu => ?_⟩
    rw [atKey_put_other hne]
    exact (hall x).2 u hu
end Go.Proofs.YtapbmpodimdkpaaDoor
