/- Switching orders: OrderValid, of the program and of the model. -/
import Derived.Test.YtfedffekbemcoaaDoorBCA
import Derived.Test.YtfedffekbemcoaaDoorOr0
namespace Go.Proofs.YtfedffekbemcoaaDoor
open Go.ChangeShapes Go.WideShapes Go.ChangeAt Go.RowKit

theorem ordOk_bad {ss : List TP} {k : Nat} {p : TP} (hk : ss[k]? = some p) (h : stepOk p = false) : ordOk ss = false := by rw [ordOk, all_bad hk h]; rfl
theorem ordOk_all {ss : List TP} {n : Nat} (hl : ss.length = n) (h : (ss.take n).all stepOk = true) : ordOk ss = decide (n ≤ 12) := by
  subst hl; rw [List.take_length] at h; rw [ordOk, h, Bool.true_and]
theorem step_in (x : Int) (t : Bool) : inB x 0 9 = stepOk (x, t) := rfl

set_option maxRecDepth 100000 in
theorem orderValid_any (A : Option Addr) (n c : Nat) (ss : List TP) (w : World) (hn : n ≤ 1048577) (hr : RowP w A n ss) :
    Calls Tryd.prog 12 #[.slice A n c] w fun e w' => e = .returned (.bool (ordOk ss)) ∧ Below w.heap.size w w' := by
  have HR := Lib.hid hr
  have HL := Lib.hid hr.len
  clear hr
  by_cases h12 : 12 < n
  · have HF := Lib.hid (show ordOk ss = false by rw [ordOk, HL.out, decide_eq_false (by omega), Bool.and_false])
    have h12' : (12 : Int) < (n : Int) := by omega
    go_enter Tryd.func12, Tryd.ntmps12
    go_wp2
    go_ret
    exact ⟨retB HF.out.symm, Below.refl _ _⟩
  · have h12' : ¬ (12 : Int) < (n : Int) := by omega
    go_enter Tryd.func12, Tryd.ntmps12
    go_wp2
    go_loopw [10] (fun i wr => ∃ k : Nat, k ≤ n ∧ i = .int .i64 k ∧ (ss.take k).all stepOk = true ∧ Below w.heap.size w wr) (fun i _ => n - (intOf i).toNat)
    case atStart => exact ⟨0, by omega, rfl, by simp, Below.refl _ _⟩
    case round =>
      obtain ⟨k, hk, rfl, hgood, hbel⟩ := hrel
      have HG := Lib.hid hgood
      clear hgood
      by_cases hlt : k < n
      · obtain ⟨b, off, u, rfl, hb, hku, g0, g1⟩ := HR.out.at_ hlt
        rw [← hbel.cell (p := ⟨b, off + k * 2, none⟩) hb] at g0
        rw [← hbel.cell (p := ⟨b, off + k * 2 + 1, none⟩) hb] at g1
        have HK := Lib.hid hku
        clear hku
        obtain ⟨x, y⟩ := u
        simp only at g0 g1
        have a2 : ∀ o, Below w.heap.size w (wr.alloc o) := fun o => hbel.alloc hbel.size _
        cases hx : stepOk (x, y)
        · have HF := Lib.hid (ordOk_bad HK.out hx)
          go_wp2_with fail
          refine (within_any x 0 9 _).mono ?_
          rintro e w2 ⟨rfl, rfl⟩
          rw [step_in x y, hx]
          go_wp2
          go_ret
          exact ⟨retB HF.out.symm, a2 _⟩
        · have HX := Lib.hid hx
          go_wp2_with fail
          refine (within_any x 0 9 _).mono ?_
          rintro e w2 ⟨rfl, rfl⟩
          rw [step_in x y, hx]
          clear hx
          go_wp2
          go_roundw
          case rel => exact ⟨k + 1, by omega, by go_num, all_take HK.out HX.out HG.out, a2 _⟩
          case measure => simp [intOf]; omega
      · go_wp2
        go_ret
        obtain rfl : k = n := by omega
        refine ⟨retB ?_, hbel⟩
        rw [ordOk_all HL.out HG.out, decide_eq_true (by omega)]
set_option maxRecDepth 100000 in
theorem specOrderValid_any (A : Option Addr) (n c : Nat) (ss : List TP) (w : World) (hn : n ≤ 1048577) (hr : RowP w A n ss) :
    Calls Tryd.prog 13 #[.slice A n c] w fun e w' => e = .returned (.bool (ordOk ss)) ∧ w = w' := by
  have HR := Lib.hid hr
  have HL := Lib.hid hr.len
  clear hr
  go_enter Tryd.func13, Tryd.ntmps13
  go_wp2
  go_loop [3] (fun i => ∃ k : Nat, k ≤ n ∧ i = .int .i64 k ∧ (ss.take k).all stepOk = true) (fun i => n - (intOf i).toNat)
  case atStart => exact ⟨0, by omega, rfl, by simp⟩
  case round =>
    obtain ⟨k, hk, rfl, hgood⟩ := hrel
    have HG := Lib.hid hgood
    clear hgood
    by_cases hlt : k < n
    · obtain ⟨b, off, u, rfl, hb, hku, g0, g1⟩ := HR.out.at_ hlt
      have HK := Lib.hid hku
      clear hku
      obtain ⟨x, y⟩ := u
      simp only at g0 g1
      cases hx : stepOk (x, y)
      · have HF := Lib.hid (ordOk_bad HK.out hx)
        go_wp2_with fail
        refine (l1In_any x 0 9 _).mono ?_
        rintro e w2 ⟨rfl, rfl⟩
        rw [step_in x y, hx]
        go_wp2
        go_ret
        exact ⟨retB HF.out.symm, rfl⟩
      · have HX := Lib.hid hx
        go_wp2_with fail
        refine (l1In_any x 0 9 _).mono ?_
        rintro e w2 ⟨rfl, rfl⟩
        rw [step_in x y, hx]
        clear hx
        go_wp2
        go_round
        case rel => exact ⟨k + 1, by omega, by go_num, all_take HK.out HX.out HG.out⟩
        case measure => simp [intOf]; omega
    · obtain rfl : k = n := by omega
      have HF := Lib.hid (ordOk_all HL.out HG.out)
      by_cases h12 : k ≤ 12
      · have h12' : (k : Int) ≤ 12 := by omega
        go_wp2
        go_ret
        exact ⟨retB (by rw [HF.out, decide_eq_true h12]), rfl⟩
      · have h12' : ¬ (k : Int) ≤ 12 := by omega
        go_wp2
        go_ret
        exact ⟨retB (by rw [HF.out, decide_eq_false h12]), rfl⟩
end Go.Proofs.YtfedffekbemcoaaDoor
