/- The laws' comparison of lists of lists of numbers. -/
import Derived.Test.YtlofhkhfomhdaaaDoorD6
import Derived.Test.YtlofhkhfomhdaaaDoorG3
import Derived.Test.YtlofhkhfomhdaaaDoorJ0
namespace Go.Proofs.YtlofhkhfomhdaaaDoor
open Go.ChangeShapes Go.WideShapes Go.ChangeAt Go.RowKit

theorem sameInts_q (v v' : Value) (xs : List Int) (w : World) (hn : xs.length ≤ 1048576) (hr : RowI w v xs) (hr' : RowI w v' xs) :
    Calls Tryd.prog 13 #[v, v'] w fun e w' => e = .returned (.bool true) ∧ ∃ m, w' = w.drewN m := by
  obtain ⟨A, c, rfl, HA⟩ := hr
  obtain ⟨A', c', rfl, HA'⟩ := hr'
  generalize hn' : xs.length = n at *
  have HL := Lib.hid hn'
  have HC := Lib.hid HA
  have HC' := Lib.hid HA'
  clear HA HA' hn'
  go_enter Tryd.func13, Tryd.ntmps13
  go_wp2
  go_loopw [5] (fun i wr => ∃ k m : Nat, k ≤ n ∧ i = .int .i64 k ∧ wr = w.drewN m) (fun i _ => n - (intOf i).toNat)
  case atStart => exact ⟨0, 0, by omega, rfl, rfl⟩
  case round =>
    obtain ⟨k, m, hk, rfl, rfl⟩ := hrel
    by_cases hlt : k < n
    · obtain ⟨g, rfl, hb, HD⟩ := HC.out (by omega)
      obtain ⟨g', rfl, hb', HD'⟩ := HC'.out (by omega)
      have hkl : xs[k]? = some (xs[k]'(by have := HL.out; omega)) := List.getElem?_eq_getElem _
      generalize (xs[k]'(by have := HL.out; omega)) = x at hkl
      have g0 : w.cell? ⟨g, k, none⟩ = some (.int .i64 x) := by have := HD k x hkl; rwa [Nat.zero_add] at this
      have g0' : w.cell? ⟨g', k, none⟩ = some (.int .i64 x) := by have := HD' k x hkl; rwa [Nat.zero_add] at this
      clear hkl HD HD'
      have i0 : (0 : Int) ≤ (k : Int) := by omega
      have i1 : (k : Int) < (n : Int) := by omega
      go_wp2
      go_quiet (fail)
      rename_i nq
      go_wp2
      go_roundw
      case rel => exact ⟨k + 1, m + nq, by omega, by go_num, rfl⟩
      case measure => simp [intOf]; omega
    · go_wp2
      go_ret
      exact ⟨rfl, m, rfl⟩

theorem sameLists_own {v v' : Value} {xss : List (List Int)} {w : World} {b b' : Nat} (hn : ∀ (k : Nat) (zs : List Int), xss[k]? = some zs → zs.length ≤ 1048576) (hl : xss.length ≤ 1048576) (h : OwnSS w b v xss) (h' : OwnSS w b' v' xss) :
    Calls Tryd.prog 26 #[v, v'] w fun e w' => e = .returned (.bool true) ∧ Below w.heap.size w w' := by
  have HX := Lib.hid h
  have HY := Lib.hid h'
  have HN := Lib.hid hn
  obtain ⟨A, c, rfl⟩ := h.form
  obtain ⟨A', c', rfl⟩ := h'.form
  clear h h' hn
  go_enter Tryd.func26, Tryd.ntmps26
  go_wp2
  go_loopw [5] (fun i wr => ∃ k m : Nat, k ≤ xss.length ∧ i = .int .i64 k ∧ wr = w.drewN m) (fun i _ => xss.length - (intOf i).toNat)
  case atStart => exact ⟨0, 0, by omega, rfl, rfl⟩
  case round =>
    obtain ⟨k, m, hk, rfl, hw⟩ := hrel
    have HW := Lib.hid hw
    clear hw
    by_cases hlt : k < xss.length
    · obtain ⟨g, cap, u, zs, hA, _, _, hz, g0, hu, _⟩ := (show OwnSS wr b _ xss by rw [HW.out]; exact HX.out.drewN m).at_ hlt
      obtain ⟨g', cap', u', zs', hA', _, _, hz', g0', hu', _⟩ := (show OwnSS wr b' _ xss by rw [HW.out]; exact HY.out.drewN m).at_ hlt
      rw [hz] at hz'
      injection hz' with hz'
      subst hz'
      injection hA with hA hA1 hA2
      injection hA' with hA' hA1' hA2'
      subst hA hA'
      have HU := Lib.hid (hu.row)
      have HU' := Lib.hid (hu'.row)
      have HLZ := Lib.hid (HN.out k zs hz)
      have hs := hu.sl
      have hs' := hu'.sl
      obtain ⟨Au, cu, rfl, _⟩ := hs
      obtain ⟨Au', cu', rfl, _⟩ := hs'
      clear hz hu hu' hA1 hA1' hA2 hA2'
      have i0 : (0 : Int) ≤ (k : Int) := by omega
      have i1 : (k : Int) < (xss.length : Int) := by omega
      go_wp2
      go_quiet ((go_at_call 13; exact Calls.quiet_of (sameInts_q _ _ zs _ HLZ.out HU.out HU'.out)))
      rename_i nq
      go_wp2
      go_roundw
      case rel => exact ⟨k + 1, m + nq, by omega, by go_num, by rw [HW.out, World.drewN_drewN]⟩
      case measure => simp [intOf]; omega
    · go_wp2
      go_ret
      exact ⟨rfl, by rw [HW.out]; exact below_drewN (Below.refl _ _) m⟩
end Go.Proofs.YtlofhkhfomhdaaaDoor
