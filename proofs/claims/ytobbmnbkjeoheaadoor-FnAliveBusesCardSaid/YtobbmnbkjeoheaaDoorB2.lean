/- StateValid and StateNumber, of the program and of the model. -/
import Derived.Test.YtobbmnbkjeoheaaDoorA2
import Derived.Test.YtobbmnbkjeoheaaDoorBase2
namespace Go.Proofs.YtobbmnbkjeoheaaDoor
open Go.ChangeShapes Go.WideShapes Go.ChangeAt Go.RowKit

def stOk (bs : Int) (ls : List L3) (m : Nat) : Bool := netOk bs ls && decide (m = ls.length)

theorem stateValid_any (bs : Int) (A : Option Addr) (n c : Nat) (ls : List L3) (B : Option Addr) (m d : Nat) (w : World) (hn : n ≤ 1048576) (hr : RowL w A n ls) (_hm : m ≤ 9223372036854775807) :
    Calls Tryd.prog 56 #[.agg #[.int .i64 bs, .slice A n c], .slice B m d] w fun e w' => e = .returned (.bool (stOk bs ls m)) ∧ Below w.heap.size w w' := by
  have HR := Lib.hid hr
  have HL := Lib.hid hr.1
  clear hr
  by_cases hv : netOk bs ls = true
  · have HV := Lib.hid hv
    clear hv
    by_cases hmn : m = n
    · subst hmn
      have HF := Lib.hid (show stOk bs ls m = true by simp [stOk, HV.out, HL.out])
      go_enter Tryd.func56, Tryd.ntmps56
      go_wp2_with fail
      refine (netValid_any bs _ m c ls _ hn (HR.out.below (below_bx w _))).mono ?_
      rintro e w1 ⟨rfl, hb1⟩
      rw [HV.out]
      obtain ⟨p0, p1, _, _⟩ := ((IsBlk.new w 25 #[.int .i64 bs, .slice A m c]).keep hb1).two
      go_wp2
      go_ret
      exact ⟨retB HF.out.symm, (below_bx w _).trans (hb1.mono (by simp))⟩
    · have hne : ((m : Int) == (n : Int)) = false := by simp; omega
      have HF := Lib.hid (show stOk bs ls m = false by simp [stOk, HL.out, hmn])
      clear hmn
      go_enter Tryd.func56, Tryd.ntmps56
      go_wp2_with fail
      refine (netValid_any bs _ n c ls _ hn (HR.out.below (below_bx w _))).mono ?_
      rintro e w1 ⟨rfl, hb1⟩
      rw [HV.out]
      obtain ⟨p0, p1, _, _⟩ := ((IsBlk.new w 25 #[.int .i64 bs, .slice A n c]).keep hb1).two
      go_wp2
      go_ret
      exact ⟨retB HF.out.symm, (below_bx w _).trans (hb1.mono (by simp))⟩
  · rw [Bool.not_eq_true] at hv
    have HV := Lib.hid hv
    have HF := Lib.hid (show stOk bs ls m = false by simp [stOk, hv])
    clear hv
    go_enter Tryd.func56, Tryd.ntmps56
    go_wp2_with fail
    refine (netValid_any bs _ n c ls _ hn (HR.out.below (below_bx w _))).mono ?_
    rintro e w1 ⟨rfl, hb1⟩
    rw [HV.out]
    go_wp2
    go_ret
    exact ⟨retB HF.out.symm, (below_bx w _).trans (hb1.mono (by simp))⟩

theorem specStateValid_any (bs : Int) (A : Option Addr) (n c : Nat) (ls : List L3) (B : Option Addr) (m d : Nat) (w : World) (hn : n ≤ 1048576) (hr : RowL w A n ls) (_hm : m ≤ 9223372036854775807) :
    Calls Tryd.prog 26 #[.agg #[.int .i64 bs, .slice A n c], .slice B m d] w fun e w' => e = .returned (.bool (stOk bs ls m)) ∧ Below w.heap.size w w' := by
  have HR := Lib.hid hr
  have HL := Lib.hid hr.1
  clear hr
  by_cases hv : netOk bs ls = true
  · have HV := Lib.hid hv
    clear hv
    by_cases hmn : m = n
    · subst hmn
      have HF := Lib.hid (show stOk bs ls m = true by simp [stOk, HV.out, HL.out])
      go_enter Tryd.func26, Tryd.ntmps26
      go_wp2_with fail
      refine (specNetValid_any bs _ m c ls _ hn (HR.out.below (below_bx w _))).mono ?_
      rintro e w1 ⟨rfl, hb1⟩
      rw [HV.out]
      obtain ⟨p0, p1, _, _⟩ := ((IsBlk.new w 25 #[.int .i64 bs, .slice A m c]).keep hb1).two
      go_wp2
      go_ret
      exact ⟨retB HF.out.symm, (below_bx w _).trans (hb1.mono (by simp))⟩
    · have hne : ((m : Int) == (n : Int)) = false := by simp; omega
      have HF := Lib.hid (show stOk bs ls m = false by simp [stOk, HL.out, hmn])
      clear hmn
      go_enter Tryd.func26, Tryd.ntmps26
      go_wp2_with fail
      refine (specNetValid_any bs _ n c ls _ hn (HR.out.below (below_bx w _))).mono ?_
      rintro e w1 ⟨rfl, hb1⟩
      rw [HV.out]
      obtain ⟨p0, p1, _, _⟩ := ((IsBlk.new w 25 #[.int .i64 bs, .slice A n c]).keep hb1).two
      go_wp2
      go_ret
      exact ⟨retB HF.out.symm, (below_bx w _).trans (hb1.mono (by simp))⟩
  · rw [Bool.not_eq_true] at hv
    have HV := Lib.hid hv
    have HF := Lib.hid (show stOk bs ls m = false by simp [stOk, hv])
    clear hv
    go_enter Tryd.func26, Tryd.ntmps26
    go_wp2_with fail
    refine (specNetValid_any bs _ n c ls _ hn (HR.out.below (below_bx w _))).mono ?_
    rintro e w1 ⟨rfl, hb1⟩
    rw [HV.out]
    go_wp2
    go_ret
    exact ⟨retB HF.out.symm, (below_bx w _).trans (hb1.mono (by simp))⟩

theorem pow_bd {k : Nat} (h : k ≤ 10) : (1 : Int) ≤ 2 ^ k ∧ (2 : Int) ^ k ≤ 1024 := by
  rcases (show k = 0 ∨ k = 1 ∨ k = 2 ∨ k = 3 ∨ k = 4 ∨ k = 5 ∨ k = 6 ∨ k = 7 ∨ k = 8 ∨ k = 9 ∨ k = 10 by omega) with rfl | rfl | rfl | rfl | rfl | rfl | rfl | rfl | rfl | rfl | rfl <;> decide

end Go.Proofs.YtobbmnbkjeoheaaDoor
