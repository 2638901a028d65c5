/- Texts joined: OtherEnd, of the program and of the model; LineBetween, of the program and of the model. -/
import Derived.Test.YtafgfhjlkdjngaaDoorBCA

/- OtherEnd, of the program and of the model. -/
namespace Go.Proofs.YtafgfhjlkdjngaaDoor
open Go.ChangeShapes Go.WideShapes Go.ChangeAt Go.RowKit

theorem otherEnd_any (bs : Int) (A : Option Addr) (n c : Nat) (ls : List L3) (line bus : Int) (w : World) (hn : n ≤ 1048576) (hr : RowL w A n ls) :
    Calls Tryd.prog 66 #[.agg #[.int .i64 bs, .slice A n c], .int .i64 line, .int .i64 bus] w fun e w' => e = .returned (.int .i64 (otherF bs ls line bus)) ∧ Below w.heap.size w w' := by
  have hl := hr.1
  by_cases hv : netOk bs ls = true
  · have hlen := (netOk_len hv).2.2
    have HV := Lib.hid hv
    have HR := Lib.hid hr
    have HL := Lib.hid hl
    by_cases hin : 0 ≤ line ∧ line < n
    · obtain ⟨k, rfl⟩ := Int.eq_ofNat_of_zero_le hin.1
      have hkn : k < n := by omega
      obtain ⟨b, off, rfl, hb, hc⟩ := hr.2 (by omega)
      have hkl : ls[k]? = some (ls[k]'(by omega)) := List.getElem?_eq_getElem _
      generalize (ls[k]'(by omega)) = l at hkl
      obtain ⟨g0, g1, g2⟩ := hc k l hkl
      have hgd : ls.getD k (0, 0, 0) = l := by rw [List.getD_eq_getElem?_getD, hkl]; rfl
      obtain ⟨x, y, z⟩ := l
      simp only at g0 g1 g2
      have hfin : otherF bs ls (k : Int) bus = if x = bus then y else if y = bus then x else -1 := by
        simp only [otherF, Int.toNat_natCast, hgd]
        rw [if_pos ⟨hv, by omega, by omega⟩]
      have HF := Lib.hid hfin
      have hn10 : n ≤ 10 := by omega
      clear hfin hgd hkl hc hv hl hr hlen hn
      have hk0 : (0 : Int) ≤ (k : Int) := by omega
      have hk1 : (k : Int) ≤ (n : Int) - 1 := by omega
      have hk2 : (k : Int) < (n : Int) := by omega
      go_enter Tryd.func66, Tryd.ntmps66
      go_wp2_with fail
      have hb0 := below_bx w (.cells #[.int .i64 bs, .slice (some ⟨b, off, none⟩) n c] 96)
      refine (netValid_any bs _ n c ls _ (by omega) (HR.out.below hb0)).mono ?_
      rintro e w1 ⟨rfl, hb1⟩
      rw [HV.out]
      have a1 : Below w.heap.size w w1 := hb0.trans (hb1.mono (by simp))
      obtain ⟨p0, p1, _, _⟩ := ((IsBlk.new w 96 #[.int .i64 bs, .slice (some ⟨b, off, none⟩) n c]).keep hb1).two
      rw [← a1.cell (p := ⟨b, off + k * 3, none⟩) hb] at g0
      rw [← a1.cell (p := ⟨b, off + k * 3 + 1, none⟩) hb] at g1
      rw [← a1.cell (p := ⟨b, off + k * 3 + 2, none⟩) hb] at g2
      go_wp2
      all_goals go_ret
      all_goals refine ⟨retI ?_, a1.alloc a1.size _⟩
      all_goals rw [HF.out]
      all_goals (split <;> first | (split <;> first | rfl | omega | simp_all) | rfl | omega | simp_all)
    · have hfin : otherF bs ls line bus = -1 := by
        rw [otherF, if_neg]; rintro ⟨_, h1, h2⟩; omega
      have HF := Lib.hid hfin
      have hn10 : n ≤ 10 := by omega
      clear hfin hv hl hr hlen hn
      have hcase : (line < 0 ∧ True) ∨ (0 ≤ line ∧ decide (line ≤ (n : Int) - 1) = false) := by simp; omega
      rcases hcase with ⟨h0, h1⟩ | ⟨h0, h1⟩
      all_goals
        go_enter Tryd.func66, Tryd.ntmps66
        go_wp2_with fail
        have hb0 := below_bx w (.cells #[.int .i64 bs, .slice A n c] 96)
        refine (netValid_any bs _ n c ls _ (by omega) (HR.out.below hb0)).mono ?_
        rintro e w1 ⟨rfl, hb1⟩
        rw [HV.out]
        have a1 : Below w.heap.size w w1 := hb0.trans (hb1.mono (by simp))
        obtain ⟨p0, p1, _, _⟩ := ((IsBlk.new w 96 #[.int .i64 bs, .slice A n c]).keep hb1).two
        go_wp2
        go_ret
        exact ⟨retI HF.out.symm, a1⟩
  · rw [Bool.not_eq_true] at hv
    have hfin : otherF bs ls line bus = -1 := by
      rw [otherF, if_neg]; rintro ⟨h, _⟩; rw [hv] at h; cases h
    go_enter Tryd.func66, Tryd.ntmps66
    go_wp2_with fail
    have hb0 := below_bx w (.cells #[.int .i64 bs, .slice A n c] 96)
    refine (netValid_any bs _ n c ls _ hn (hr.below hb0)).mono ?_
    rintro e w1 ⟨rfl, hb1⟩
    rw [hv]
    have HF := Lib.hid hfin
    clear hfin hv hl hr
    go_wp2
    go_ret
    exact ⟨retI HF.out.symm, hb0.trans (hb1.mono (by simp))⟩
end Go.Proofs.YtafgfhjlkdjngaaDoor

/- LineBetween, of the program and of the model. -/
namespace Go.Proofs.YtafgfhjlkdjngaaDoor
open Go.ChangeShapes Go.WideShapes Go.ChangeAt Go.RowKit

theorem five (x y a b : Int) : (a = x ∧ b = y) ∨ (a = x ∧ b = x ∧ ¬ y = x ∧ (y == x) = false) ∨ (a = x ∧ ¬ x = b ∧ (x == b) = false ∧ ¬ y = b ∧ (y == b) = false) ∨ (b = x ∧ a = y ∧ ¬ x = y ∧ (x == y) = false) ∨ (b = x ∧ ¬ x = a ∧ (x == a) = false ∧ ¬ y = a ∧ (y == a) = false) ∨ (¬ x = a ∧ (x == a) = false ∧ ¬ x = b ∧ (x == b) = false) := by
  simp only [beq_eq_false_iff_ne]; omega

end Go.Proofs.YtafgfhjlkdjngaaDoor
