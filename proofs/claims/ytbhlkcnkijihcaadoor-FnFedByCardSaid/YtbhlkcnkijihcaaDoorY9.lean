/- FnAliveBuses: the walk. -/
import Derived.Test.YtbhlkcnkijihcaaDoorD3
import Derived.Test.YtbhlkcnkijihcaaDoorG3
import Derived.Test.YtbhlkcnkijihcaaDoorK4
import Derived.Test.YtbhlkcnkijihcaaDoorK5
import Derived.Test.YtbhlkcnkijihcaaDoorY4
import Derived.Test.YtbhlkcnkijihcaaDoorBPC
import Derived.Deep.RegionHeld3
namespace Go.Proofs.YtbhlkcnkijihcaaDoor
open Go.ChangeShapes Go.WideShapes Go.ChangeAt Go.RowKit

theorem swV_at {bs : Int} {ls : List L3} {ts : List Bool} {k : Nat} (hk : k < ts.length) (hs : stOk bs ls ts.length = true) (sw : Bool) : swF bs ls ts (k : Int) sw = ts.set k sw := by
  rw [swF, if_pos hs, if_pos (by omega)]; rfl
theorem holdA {w w' : World} {X b o o1 b' o' : Nat} {u v x y z : Value} (p0 : w.cell? ⟨X, 0, none⟩ = some u) (p1 : w.cell? ⟨X, 1, none⟩ = some v) (hX : X < w.heap.size) (g0 : w.cell? ⟨b, o, none⟩ = some x) (g1 : w.cell? ⟨b, o1, none⟩ = some y) (hbb : b < w.heap.size) (e0 : w.cell? ⟨b', o', none⟩ = some z) (hbe : b' < w.heap.size) (hb : Below w.heap.size w w') :
    Below w.heap.size w w' ∧ w'.cell? ⟨X, 0, none⟩ = some u ∧ w'.cell? ⟨X, 1, none⟩ = some v ∧ w'.cell? ⟨b, o, none⟩ = some x ∧ w'.cell? ⟨b, o1, none⟩ = some y ∧ w'.cell? ⟨b', o', none⟩ = some z :=
  ⟨hb, (hb.cell (p := ⟨X, 0, none⟩) hX).trans p0, (hb.cell (p := ⟨X, 1, none⟩) hX).trans p1, (hb.cell (p := ⟨b, o, none⟩) hbb).trans g0, (hb.cell (p := ⟨b, o1, none⟩) hbb).trans g1, (hb.cell (p := ⟨b', o', none⟩) hbe).trans e0⟩
theorem hasInt_v (v : Value) (xs : List Int) (x : Int) {t : Bool} (ht : decide (x ∈ xs) = t) (w : World) (hl : xs.length ≤ 1048576) (hr : RowI w v xs) :
    Calls Tryd.prog 15 #[v, .int .i64 x] w fun e w' => e = .returned (.bool t) ∧ Below w.heap.size w w' := by
  subst ht
  refine (hasInt_any v xs x w hl hr).mono ?_
  rintro e w' ⟨rfl, rfl⟩
  exact ⟨rfl, Below.refl _ _⟩
theorem withinL_any (v v' : Value) (xs ys : List Int) (hs : ∀ x ∈ xs, x ∈ ys) (w : World) (hx : xs.length ≤ 1048576) (hy : ys.length ≤ 1048576) (hr : RowI w v xs) (hr' : RowI w v' ys) :
    Calls Tryd.prog 43 #[v, v'] w fun e w' => e = .returned (.bool true) ∧ Below w.heap.size w w' := by
  have HR' := Lib.hid hr'
  have hv' : ∃ A c, v' = .slice A ys.length c := by obtain ⟨A, c, e, _⟩ := hr'; exact ⟨A, c, e⟩
  obtain ⟨A', c', rfl⟩ := hv'
  obtain ⟨A, c, rfl, HA⟩ := hr
  have HC := Lib.hid HA
  have HS := Lib.hid hs
  clear HA hs hr'
  go_enter Tryd.func43, Tryd.ntmps43
  go_wp2
  go_loopw [5] (fun i wr => ∃ k : Nat, k ≤ xs.length ∧ i = .int .i64 k ∧ wr = w) (fun i _ => xs.length - (intOf i).toNat)
  case atStart => exact ⟨0, by omega, rfl, rfl⟩
  case round =>
    obtain ⟨k, hk, rfl, rfl⟩ := hrel
    by_cases hlt : k < xs.length
    · obtain ⟨g, rfl, hb, HD⟩ := HC.out (by omega)
      have hkl : xs[k]? = some (xs[k]'hlt) := List.getElem?_eq_getElem _
      generalize (xs[k]'hlt) = x at hkl
      have g0 : wr.cell? ⟨g, k, none⟩ = some (.int .i64 x) := by have := HD k x hkl; rwa [Nat.zero_add] at this
      have HM := Lib.hid (show decide (x ∈ ys) = true by rw [decide_eq_true_eq]; exact HS.out x (List.mem_of_getElem? hkl))
      have i0 : (0 : Int) ≤ (k : Int) := by omega
      have i1 : (k : Int) < (xs.length : Int) := by omega
      clear hkl HD
      go_wp2_with fail
      refine (hasInt_any _ ys x _ hy HR'.out).mono ?_
      rintro e w' ⟨rfl, rfl⟩
      rw [HM.out]
      go_wp2
      go_roundw
      case rel => exact ⟨k + 1, by omega, by go_num, by first | rfl | trivial⟩
      case measure => simp [intOf]; omega
    · go_wp2
      go_ret
      exact ⟨rfl, Below.refl _ _⟩

end Go.Proofs.YtbhlkcnkijihcaaDoor
