/- Busbars: comparisons of lists of numbers and of bars, equal or not. -/
import Derived.Test.YtafgfhjlkdjngaaDoorBr2
import Derived.Test.YtafgfhjlkdjngaaDoorBr5
import Derived.Deep.QuietTactic
import Derived.BigQuiet
namespace Go.Proofs.YtafgfhjlkdjngaaDoor
open Go.ChangeShapes Go.WideShapes Go.ChangeAt Go.RowKit

theorem sameInts_any (A A' : Option Addr) (n m c c' : Nat) (xs ys : List Int) (w : World) (hn : n ≤ 1048576) (hm : m ≤ 1048576) (hr : RowZ w A n xs) (hr' : RowZ w A' m ys) :
    Calls Tryd.prog 25 #[.slice A n c, .slice A' m c'] w fun e w' => e = .returned (.bool (decide (xs = ys))) ∧ Below w.heap.size w w' := by
  have HR := Lib.hid hr
  have HR' := Lib.hid hr'
  have HL := Lib.hid hr.len
  have HL' := Lib.hid hr'.len
  clear hr hr'
  by_cases hnm : n = m
  rotate_left
  · have HF := Lib.hid (show decide (xs = ys) = false by rw [decide_eq_false_iff_not]; intro e; apply hnm; rw [← HL.out, ← HL'.out, e])
    have hne : ((n : Int) != (m : Int)) = true := by simp; omega
    have hne2 : ¬ (n : Int) = (m : Int) := by omega
    clear hnm
    go_enter Tryd.func25, Tryd.ntmps25
    go_wp2
    go_ret
    exact ⟨retB HF.out.symm, Below.refl _ _⟩
  subst hnm
  go_enter Tryd.func25, Tryd.ntmps25
  go_wp2
  go_loopw [5] (fun i wr => ∃ k : Nat, k ≤ n ∧ i = .int .i64 k ∧ (∀ j, j < k → xs[j]? = ys[j]?) ∧ Below w.heap.size w wr) (fun i _ => n - (intOf i).toNat)
  case atStart => exact ⟨0, by omega, rfl, by intro j hj; omega, Below.refl _ _⟩
  case round =>
    obtain ⟨k, hk, rfl, heq, hbel⟩ := hrel
    have HE := Lib.hid heq
    clear heq
    by_cases hlt : k < n
    · obtain ⟨b, off, t, rfl, hb, hkt, g0⟩ := HR.out.at_ hlt
      obtain ⟨b', off', t', rfl, hb', hkt', g0'⟩ := HR'.out.at_ hlt
      rw [← hbel.cell (p := ⟨b, off + k, none⟩) hb] at g0
      rw [← hbel.cell (p := ⟨b', off' + k, none⟩) hb'] at g0'
      have HT := Lib.hid hkt
      have HT' := Lib.hid hkt'
      clear hkt hkt'
      have i0 : (0 : Int) ≤ (k : Int) := by omega
      have i1 : (k : Int) < (n : Int) := by omega
      by_cases htt : t = t'
      · subst htt
        go_wp2
        go_quiet (fail)
        go_wp2
        go_roundw
        case rel =>
          refine ⟨k + 1, by omega, by go_num, fun j hj => ?_, ⟨hbel.os, hbel.tape, hbel.output, hbel.size, hbel.block⟩⟩
          rcases Nat.lt_or_ge j k with h | h
          · exact HE.out j h
          · obtain rfl : j = k := by omega
            rw [HT.out, HT'.out]
        case measure => simp [intOf]; omega
      · have hne : (t != t') = true := by simpa using htt
        have HF := Lib.hid (show decide (xs = ys) = false by rw [decide_eq_false_iff_not]; intro e; apply htt; have h1 := HT.out; rw [e, HT'.out] at h1; injection h1 with h1; exact h1.symm)
        go_wp2
        go_quiet (fail)
        go_wp2
        go_ret
        exact ⟨retB HF.out.symm, ⟨hbel.os, hbel.tape, hbel.output, hbel.size, hbel.block⟩⟩
    · obtain rfl : k = n := by omega
      have HF := Lib.hid (show decide (xs = ys) = true by
        rw [decide_eq_true_eq]
        apply List.ext_getElem?
        intro j
        rcases Nat.lt_or_ge j k with h | h
        · exact HE.out j h
        · rw [List.getElem?_eq_none (by have := HL.out; omega), List.getElem?_eq_none (by have := HL'.out; omega)])
      go_wp2
      go_ret
      exact ⟨retB HF.out.symm, hbel⟩
theorem sameBars_any (A A' : Option Addr) (n m c c' : Nat) (xs ys : List Int) (t t' : Bool) (w : World) (hn : n ≤ 1048576) (hm : m ≤ 1048576) (hr : RowZ w A n xs) (hr' : RowZ w A' m ys) :
    Calls Tryd.prog 16 #[.agg #[.slice A n c, .bool t], .agg #[.slice A' m c', .bool t']] w fun e w' => e = .returned (.bool (decide ((xs, t) = (ys, t')))) ∧ Below w.heap.size w w' := by
  have b0 : Below w.heap.size w ((w.alloc (.cells #[.slice A n c, .bool t] 25)).alloc (.cells #[.slice A' m c', .bool t'] 25)) := (below_bx w _).alloc (by simp) _
  have HR := Lib.hid (hr.below b0)
  have HR' := Lib.hid (hr'.below b0)
  clear hr hr'
  by_cases ht : t = t'
  · subst ht
    have HF := Lib.hid (show decide ((xs, t) = (ys, t)) = decide (xs = ys) by simp)
    rw [HF.out]
    cases t
    all_goals
      go_enter Tryd.func16, Tryd.ntmps16
      go_wp2_with fail
      refine (sameInts_any A A' n m c c' xs ys _ hn hm HR.out HR'.out).mono ?_
      rintro e w1 ⟨rfl, hb1⟩
      go_wp2
      go_ret
      exact ⟨rfl, b0.trans (hb1.mono b0.size)⟩
  · have HF := Lib.hid (show decide ((xs, t) = (ys, t')) = false by rw [decide_eq_false_iff_not]; intro e; exact ht (congrArg Prod.snd e))
    rw [HF.out]
    have hne : (t == t') = false := by cases t <;> cases t' <;> simp_all
    clear ht
    go_enter Tryd.func16, Tryd.ntmps16
    go_wp2
    go_ret
    exact ⟨rfl, b0⟩
end Go.Proofs.YtafgfhjlkdjngaaDoor
