/- LineBetween, of the program and of the model. -/
import Derived.Test.YtpkcfhjaldbmhaaDoorA2
namespace Go.Proofs.YtpkcfhjaldbmhaaDoor
open Go.ChangeShapes Go.WideShapes Go.ChangeAt Go.RowKit

theorem endsAt_any (x y z bus : Int) (w : World) :
    Calls Tryd.prog 45 #[.agg #[.int .i64 x, .int .i64 y, .int .i64 z], .int .i64 bus] w fun e w' => e = .returned (.bool (endsB (x, y, z) bus)) ∧ Below w.heap.size w w' := by
  go_enter Tryd.func45, Tryd.ntmps45
  go_wp2
  all_goals go_ret
  all_goals exact ⟨retB (by simp_all [endsB]), below_bx _ _⟩

theorem lineBetween_any (bs : Int) (A : Option Addr) (n c : Nat) (ls : List L3) (a b : Int) (w : World) (hn : n ≤ 1048576) (hr : RowL w A n ls) :
    Calls Tryd.prog 25 #[.agg #[.int .i64 bs, .slice A n c], .int .i64 a, .int .i64 b] w fun e w' => e = .returned (.int .i64 (betweenF bs ls a b)) ∧ Below w.heap.size w w' := by
  have HR := Lib.hid hr
  by_cases hv : netOk bs ls = true
  · have HV := Lib.hid hv
    by_cases hab : a = b
    · subst hab
      have hfin : betweenF bs ls a a = -1 := by
        rw [betweenF, if_pos hv]
        refine firstF_none fun j hj x hx => ?_
        have := lineOk_ne (netOk_line hv hx)
        simp only [joins]; simp; omega
      have HF := Lib.hid hfin
      clear hfin hv hr
      go_enter Tryd.func25, Tryd.ntmps25
      go_wp2_with fail
      have hb0 := below_bx w (.cells #[.int .i64 bs, .slice A n c] 25)
      refine (netValid_any bs _ n c ls _ hn (HR.out.below hb0)).mono ?_
      rintro e w1 ⟨rfl, hb1⟩
      rw [HV.out]
      have a1 : Below w.heap.size w w1 := hb0.trans (hb1.mono (by simp))
      go_wp2
      go_ret
      exact ⟨retI HF.out.symm, a1⟩
    · have hne : (a == b) = false := by simpa using hab
      have hn10 : n ≤ 10 := by have := (netOk_len hv).2.2; have := hr.1; omega
      clear hv hr hn
      go_enter Tryd.func25, Tryd.ntmps25
      go_wp2_with fail
      have hb0 := below_bx w (.cells #[.int .i64 bs, .slice A n c] 25)
      refine (netValid_any bs _ n c ls _ (by omega) (HR.out.below hb0)).mono ?_
      rintro e w1 ⟨rfl, hb1⟩
      rw [HV.out]
      have a1 : Below w.heap.size w w1 := hb0.trans (hb1.mono (by simp))
      obtain ⟨p0, p1, _, _⟩ := ((IsBlk.new w 25 #[.int .i64 bs, .slice A n c]).keep hb1).two
      go_wp2
      go_loopw [20] (fun i wr => ∃ k : Nat, k ≤ n ∧ i = .int .i64 k ∧ (∀ j, j < k → ∀ l, ls[j]? = some l → joins a b l = false) ∧ Below w.heap.size w wr) (fun i _ => n - (intOf i).toNat)
      case atStart => exact ⟨0, by omega, rfl, by intro j hj; omega, a1⟩
      case round =>
        obtain ⟨k, hk, rfl, hnope, hbel⟩ := hrel
        have HG := Lib.hid hnope; clear hnope
        by_cases hlt : k < n
        · obtain ⟨b', off, rfl, hb, HC'⟩ := HR.out.2 (by omega)
          have hkl : ls[k]? = some (ls[k]'(by have := HR.out.1; omega)) := List.getElem?_eq_getElem _
          generalize (ls[k]'(by have := HR.out.1; omega)) = l at hkl
          obtain ⟨g0, g1, g2⟩ := HC' k l hkl
          rw [← hbel.cell (p := ⟨b', off + k * 3, none⟩) hb] at g0
          rw [← hbel.cell (p := ⟨b', off + k * 3 + 1, none⟩) hb] at g1
          rw [← hbel.cell (p := ⟨b', off + k * 3 + 2, none⟩) hb] at g2
          have hj : joins a b l = (endsB l a && endsB l b) := by
            have hne2 := lineOk_ne (netOk_line HV.out hkl)
            rw [Bool.eq_iff_iff]; simp only [joins, endsB, Bool.or_eq_true, Bool.and_eq_true, beq_iff_eq]; omega
          have HK := Lib.hid hkl
          have HJ := Lib.hid hj
          clear hkl HC' hj
          obtain ⟨x, y, z⟩ := l
          simp only at g0 g1 g2
          have hz : w.heap.size ≤ wr.heap.size := hbel.size
          by_cases ha : endsB (x, y, z) a = true
          · by_cases hb2 : endsB (x, y, z) b = true
            · have HA := Lib.hid ha
              have HB := Lib.hid hb2
              clear ha hb2
              go_wp2_with fail
              refine (endsAt_any x y z a _).mono ?_
              rintro e w2 ⟨rfl, hb2⟩
              rw [HA.out]
              have a2 : Below w.heap.size w w2 := (hbel.alloc hz _).trans (hb2.mono (by simp; omega))
              obtain ⟨q0, q1, q2, _, _, _⟩ := ((IsBlk.new wr 30 #[.int .i64 x, .int .i64 y, .int .i64 z]).keep hb2).three
              go_wp2_with fail
              refine (endsAt_any x y z b _).mono ?_
              rintro e w3 ⟨rfl, hb3⟩
              rw [HB.out]
              go_wp2
              go_ret
              refine ⟨retI ?_, a2.trans (hb3.mono (by have := hb2.size; simp at this; omega))⟩
              rw [betweenF, if_pos HV.out, firstF_some HK.out (by rw [HJ.out, HA.out, HB.out]; rfl) HG.out]
            · rw [Bool.not_eq_true] at hb2
              have HA := Lib.hid ha
              have HB := Lib.hid hb2
              clear ha hb2
              go_wp2_with fail
              refine (endsAt_any x y z a _).mono ?_
              rintro e w2 ⟨rfl, hb2⟩
              rw [HA.out]
              have a2 : Below w.heap.size w w2 := (hbel.alloc hz _).trans (hb2.mono (by simp; omega))
              obtain ⟨q0, q1, q2, _, _, _⟩ := ((IsBlk.new wr 30 #[.int .i64 x, .int .i64 y, .int .i64 z]).keep hb2).three
              go_wp2_with fail
              refine (endsAt_any x y z b _).mono ?_
              rintro e w3 ⟨rfl, hb3⟩
              rw [HB.out]
              go_wp2
              go_roundw
              case rel => exact ⟨k + 1, by omega, by go_num, nope_succ HG.out HK.out (by rw [HJ.out, HA.out, HB.out]; rfl), a2.trans (hb3.mono (by have := hb2.size; simp at this; omega))⟩
              case measure => simp [intOf]; omega
          · rw [Bool.not_eq_true] at ha
            have HA := Lib.hid ha
            clear ha
            go_wp2_with fail
            refine (endsAt_any x y z a _).mono ?_
            rintro e w2 ⟨rfl, hb2⟩
            rw [HA.out]
            have a2 : Below w.heap.size w w2 := (hbel.alloc hz _).trans (hb2.mono (by simp; omega))
            go_wp2
            go_roundw
            case rel => exact ⟨k + 1, by omega, by go_num, nope_succ HG.out HK.out (by rw [HJ.out, HA.out]; rfl), a2⟩
            case measure => simp [intOf]; omega
        · go_wp2
          go_ret
          obtain rfl : k = n := by omega
          refine ⟨retI ?_, hbel⟩
          rw [betweenF, if_pos HV.out, firstF_none (by rw [HR.out.1]; exact HG.out)]
  · rw [Bool.not_eq_true] at hv
    have hfin : betweenF bs ls a b = -1 := by rw [betweenF, if_neg]; rw [hv]; simp
    have HF := Lib.hid hfin
    have HV := Lib.hid hv
    clear hfin hv hr
    go_enter Tryd.func25, Tryd.ntmps25
    go_wp2_with fail
    have hb0 := below_bx w (.cells #[.int .i64 bs, .slice A n c] 25)
    refine (netValid_any bs _ n c ls _ hn (HR.out.below hb0)).mono ?_
    rintro e w1 ⟨rfl, hb1⟩
    rw [HV.out]
    go_wp2
    go_ret
    exact ⟨retI HF.out.symm, hb0.trans (hb1.mono (by simp))⟩

theorem five (x y a b : Int) : (a = x ∧ b = y) ∨ (a = x ∧ b = x ∧ ¬ y = x ∧ (y == x) = false) ∨ (a = x ∧ ¬ x = b ∧ (x == b) = false ∧ ¬ y = b ∧ (y == b) = false) ∨ (b = x ∧ a = y ∧ ¬ x = y ∧ (x == y) = false) ∨ (b = x ∧ ¬ x = a ∧ (x == a) = false ∧ ¬ y = a ∧ (y == a) = false) ∨ (¬ x = a ∧ (x == a) = false ∧ ¬ x = b ∧ (x == b) = false) := by
  simp only [beq_eq_false_iff_ne]; omega

theorem specLineBetween_any (bs : Int) (A : Option Addr) (n c : Nat) (ls : List L3) (a b : Int) (w : World) (hn : n ≤ 1048576) (hr : RowL w A n ls) :
    Calls Tryd.prog 26 #[.agg #[.int .i64 bs, .slice A n c], .int .i64 a, .int .i64 b] w fun e w' => e = .returned (.int .i64 (betweenF bs ls a b)) ∧ Below w.heap.size w w' := by
  have HR := Lib.hid hr
  clear hr
  go_enter Tryd.func26, Tryd.ntmps26
  go_wp2_with fail
  go_loopw [7] (fun i wr => ∃ k : Nat, k ≤ n ∧ i = .int .i64 k ∧ (k = 0 ∨ netOk bs ls = true) ∧ (∀ j, j < k → ∀ l, ls[j]? = some l → joins a b l = false) ∧ Below w.heap.size w wr ∧ w.heap.size < wr.heap.size
      ∧ wr.cell? ⟨w.heap.size, 0, none⟩ = some (.int .i64 bs) ∧ wr.cell? ⟨w.heap.size, 1, none⟩ = some (.slice A n c)) (fun i _ => n - (intOf i).toNat)
  case atStart => exact ⟨0, by omega, rfl, .inl rfl, by intro j hj; omega, below_bx _ _, by simp, by simp, by simp⟩
  case round =>
    obtain ⟨k, hk, rfl, hkv, hnope, hbel, hsz, hc0, hc1⟩ := hrel
    have HG := Lib.hid hnope; clear hnope
    have HKV := Lib.hid hkv; clear hkv
    have hz : w.heap.size ≤ wr.heap.size := hbel.size
    by_cases hlt : k < n
    · by_cases hv : netOk bs ls = true
      · obtain ⟨b', off, rfl, hb, HC'⟩ := HR.out.2 (by omega)
        have hkl : ls[k]? = some (ls[k]'(by have := HR.out.1; omega)) := List.getElem?_eq_getElem _
        generalize (ls[k]'(by have := HR.out.1; omega)) = l at hkl
        obtain ⟨g0, g1, g2⟩ := HC' k l hkl
        have HK := Lib.hid hkl
        have HV := Lib.hid hv
        clear hkl HC' hv
        obtain ⟨x, y, z⟩ := l
        simp only at g0 g1 g2
        go_wp2_with fail
        refine (specNetValid_any bs _ n c ls _ hn (HR.out.below hbel)).mono ?_
        rintro e w1 ⟨rfl, hb1⟩
        rw [HV.out]
        have a1 : Below w.heap.size w w1 := hbel.trans (hb1.mono hz)
        rw [← a1.cell (p := ⟨b', off + k * 3, none⟩) hb] at g0
        rw [← a1.cell (p := ⟨b', off + k * 3 + 1, none⟩) hb] at g1
        rw [← a1.cell (p := ⟨b', off + k * 3 + 2, none⟩) hb] at g2
        have p0 := (hb1.cell (p := ⟨w.heap.size, 0, none⟩) hsz).trans hc0
        have p1 := (hb1.cell (p := ⟨w.heap.size, 1, none⟩) hsz).trans hc1
        have hsz1 : w.heap.size < w1.heap.size := Nat.lt_of_lt_of_le hsz hb1.size
        clear hc0 hc1
        have hn10 : n ≤ 10 := by have := (netOk_len HV.out).2.2; have := HR.out.1; omega
        have hyes : joins a b (x, y, z) = true → betweenF bs ls a b = k := fun h => by rw [betweenF, if_pos HV.out, firstF_some HK.out h HG.out]
        have hno : joins a b (x, y, z) = false → ∀ j, j < k + 1 → ∀ l, ls[j]? = some l → joins a b l = false := fun h => nope_succ HG.out HK.out h
        have HY := Lib.hid hyes
        have HN := Lib.hid hno
        clear hyes hno
        rcases five x y a b with ⟨rfl, rfl⟩ | ⟨rfl, rfl, h1, h2⟩ | ⟨rfl, h1, h2, h3, h4⟩ | ⟨rfl, rfl, h1, h2⟩ | ⟨rfl, h1, h2, h3, h4⟩ | ⟨h1, h2, h3, h4⟩
        case inl | inr.inr.inr.inl =>
          go_wp2
          go_ret
          exact ⟨retI (HY.out (by simp [joins])).symm, a1.alloc a1.size _⟩
        all_goals
          go_wp2
          go_roundw
          case rel =>
            refine ⟨k + 1, by omega, by go_num, .inr HV.out, HN.out (by simp [joins, *]), a1.alloc a1.size _, by simp; omega, ?_, ?_⟩
            · rw [World.cell?_alloc_lt _ _ _ (by simpa using hsz1)]; exact p0
            · rw [World.cell?_alloc_lt _ _ _ (by simpa using hsz1)]; exact p1
          case measure => simp [intOf]; omega
      · rw [Bool.not_eq_true] at hv
        have HV := Lib.hid hv
        clear hv
        go_wp2_with fail
        refine (specNetValid_any bs _ n c ls _ hn (HR.out.below hbel)).mono ?_
        rintro e w1 ⟨rfl, hb1⟩
        rw [HV.out]
        go_wp2
        go_ret
        exact ⟨retI (by rw [betweenF, if_neg (by rw [HV.out]; simp)]), hbel.trans (hb1.mono hz)⟩
    · go_wp2
      go_ret
      obtain rfl : k = n := by omega
      refine ⟨retI ?_, hbel⟩
      by_cases hv : netOk bs ls = true
      · rw [betweenF, if_pos hv, firstF_none (by rw [HR.out.1]; exact HG.out)]
      · rw [betweenF, if_neg hv]
end Go.Proofs.YtpkcfhjaldbmhaaDoor
