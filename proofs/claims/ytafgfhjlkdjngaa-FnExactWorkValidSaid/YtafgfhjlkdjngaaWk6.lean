/- Permits: where a permit stands, valid work, of the model. -/
import Derived.Test.YtafgfhjlkdjngaaWk4
namespace Go.Proofs.Ytafgfhjlkdjngaa
open Go.ChangeShapes Go.WideShapes Go.ChangeAt Go.RowKit

theorem l1In_w (x a b : Int) {t : Bool} (ht : inB x a b = t) (w : World) :
    Calls Try.prog 42 #[.int .i64 x, .int .i64 a, .int .i64 b] w fun e w' => e = .returned (.bool t) ∧ w = w' := by
  subst ht; exact l1In_any x a b w
theorem l1In_b (x a b : Int) {t : Bool} (ht : inB x a b = t) (w : World) :
    Calls Try.prog 42 #[.int .i64 x, .int .i64 a, .int .i64 b] w fun e w' => e = .returned (.bool t) ∧ Below w.heap.size w w' := by
  subst ht
  refine (l1In_any x a b w).mono ?_
  rintro e w' ⟨rfl, rfl⟩
  exact ⟨rfl, Below.refl _ _⟩
theorem findS_any (A : Option Addr) (n c : Nat) (ps : List TJ) (x y : Int) (w : World) (hn : n ≤ 1048576) (hr : RowJ w A n ps) :
    Calls Try.prog 43 #[.slice A n c, .agg #[.int .i64 x, .int .i64 y]] w fun e w' => e = .returned (.int .i64 (findW ps (x, y))) ∧ Below w.heap.size w w' := by
  have HR := Lib.hid hr
  have HL := Lib.hid hr.len
  have K0 := Lib.hid (IsBlk.new w 66 #[.int .i64 x, .int .i64 y])
  clear hr
  go_enter Try.func43, Try.ntmps43
  go_wp2
  go_loopw [5] (fun i wr => ∃ k : Nat, k ≤ n ∧ i = .int .i64 k ∧ (∀ j, j < k → ∀ p, ps[j]? = some p → p ≠ (x, y)) ∧ Below (w.heap.size + 1) (w.alloc (.cells #[.int .i64 x, .int .i64 y] 66)) wr) (fun i _ => n - (intOf i).toNat)
  case atStart => exact ⟨0, by omega, rfl, by intro j hj; omega, Below.refl _ _⟩
  case round =>
    obtain ⟨k, hk, rfl, hno, hbel⟩ := hrel
    have HN := Lib.hid hno
    have hb0 : Below w.heap.size w wr := (below_bx w _).trans (hbel.mono (by omega))
    obtain ⟨p0, p1, -⟩ := (K0.out.below hbel (by omega)).two
    clear hno
    by_cases hlt : k < n
    · obtain ⟨b, off, p, rfl, hb, hkp, g0, g1⟩ := HR.out.at_ hlt
      rw [← hb0.cell (p := ⟨b, off + k * 2, none⟩) hb] at g0
      rw [← hb0.cell (p := ⟨b, off + k * 2 + 1, none⟩) hb] at g1
      have HK := Lib.hid hkp
      clear hkp
      obtain ⟨x', y'⟩ := p
      simp only at g0 g1
      have q0 : (0 : Int) ≤ (k : Int) := by omega
      have q1 : (k : Int) < (n : Int) := by omega
      have he := eqlJ x' y' x y
      by_cases hxy : (x', y') = (x, y)
      · rw [decide_eq_true hxy] at he
        go_wp2
        go_quiet (fail)
        go_wp2
        go_ret
        exact ⟨retI (findW_at (p := (x, y)) (by rw [HK.out, hxy]) HN.out).symm, below_drewN hb0 _⟩
      · rw [decide_eq_false hxy] at he
        have HXY := Lib.hid hxy
        clear hxy
        go_wp2
        go_quiet (fail)
        go_wp2
        go_roundw
        case rel =>
          refine ⟨k + 1, by omega, by go_num, fun j hj p hp => ?_, below_drewN hbel _⟩
          rcases Nat.lt_or_ge j k with h1 | h1
          · exact HN.out j h1 p hp
          · obtain rfl : j = k := by omega
            rw [HK.out] at hp; cases hp; exact HXY.out
        case measure => simp [intOf]; omega
    · go_wp2
      go_ret
      obtain rfl : k = n := by omega
      exact ⟨retI (findW_none (by rw [HL.out]; exact HN.out)).symm, hb0⟩
set_option maxRecDepth 100000 in
set_option maxHeartbeats 4000000 in
theorem specWorkValid_any (A : Option Addr) (n c : Nat) (B : Option Addr) (m d : Nat) (C : Option Addr) (q r : Nat) (a e : List Bool) (ps : List TJ) (w : World) (hn : n ≤ 1048576) (hm : m ≤ 1048576) (hq : q ≤ 1048576) (hqr : q ≤ r) (hr : RowW w A n B m C q a e ps) :
    Calls Try.prog 18 #[.agg #[.slice A n c, .slice B m d, .slice C q r]] w fun e' w' => e' = .returned (.bool (wkOk (a, e, ps))) ∧ Below w.heap.size w w' := by
  have b0 := below_bx w (.cells #[.slice A n c, .slice B m d, .slice C q r] 44)
  have K0 := Lib.hid (IsBlk.new w 44 #[.slice A n c, .slice B m d, .slice C q r])
  have HR := Lib.hid (hr.below b0)
  have HA := Lib.hid hr.on.len
  have HE := Lib.hid hr.ea.len
  have HP := Lib.hid hr.pe.len
  clear hr
  obtain ⟨p0, p1, p2, -⟩ := K0.out.three
  cases hin : inB (n : Int) 1 10
  · have HF := Lib.hid (wk_no_len (a := a) (e := e) (ps := ps) (by rw [HA.out]; intro h; simp [inB] at hin; omega))
    go_enter Try.func18, Try.ntmps18
    go_wp2_with fail
    refine (l1In_w _ _ _ hin _).mono ?_
    rintro e1 w1 ⟨rfl, rfl⟩
    go_wp2
    go_ret
    exact ⟨retB HF.out.symm, b0⟩
  have HIN := Lib.hid hin
  have hn1 : 1 ≤ n ∧ n ≤ 10 := by simp [inB] at hin; omega
  clear hin
  by_cases hnm : n = m
  rotate_left
  · have HF := Lib.hid (wk_no_len (a := a) (e := e) (ps := ps) (by rw [HA.out, HE.out]; omega))
    have hne : ((n : Int) == (m : Int)) = false := by simp; omega
    go_enter Try.func18, Try.ntmps18
    go_wp2_with fail
    refine (l1In_w _ _ _ HIN.out _).mono ?_
    rintro e1 w1 ⟨rfl, rfl⟩
    go_wp2
    go_ret
    exact ⟨retB HF.out.symm, b0⟩
  subst hnm
  by_cases h6 : 6 < q
  · have HF := Lib.hid (wk_no_len (a := a) (e := e) (ps := ps) (by rw [HP.out]; omega))
    have h6' : (6 : Int) < (q : Int) := by omega
    go_enter Try.func18, Try.ntmps18
    go_wp2_with fail
    refine (l1In_w _ _ _ HIN.out _).mono ?_
    rintro e1 w1 ⟨rfl, rfl⟩
    go_wp2
    go_ret
    exact ⟨retB HF.out.symm, b0⟩
  have h6' : ¬ (6 : Int) < (q : Int) := by omega
  go_enter Try.func18, Try.ntmps18
  go_wp2_with fail
  refine (l1In_w _ _ _ HIN.out _).mono ?_
  rintro e1 w1 ⟨rfl, rfl⟩
  go_wp2
  go_loop [3] (fun i => ∃ k : Nat, k ≤ n ∧ i = .int .i64 k ∧ linesTo a e k) (fun i => n - (intOf i).toNat)
  case atStart => exact ⟨0, by omega, rfl, linesTo_zero _ _⟩
  case round =>
    obtain ⟨k, hk, rfl, hlines⟩ := hrel
    have HLI := Lib.hid hlines
    clear hlines
    by_cases hlt : k < n
    · obtain ⟨b, off, x, rfl, hb, hkx, g0⟩ := HR.out.on.at_ hlt
      obtain ⟨b', off', y, rfl, hb', hky, g1⟩ := HR.out.ea.at_ hlt
      have HX := Lib.hid hkx
      have HY := Lib.hid hky
      clear hkx hky
      have q0 : (0 : Int) ≤ (k : Int) := by omega
      have q1 : (k : Int) < (n : Int) := by omega
      cases x
      · go_wp2
        go_round
        case rel => exact ⟨k + 1, by omega, by go_num, linesTo_succ HLI.out HX.out HY.out rfl⟩
        case measure => simp [intOf]; omega
      · cases y
        · go_wp2
          go_round
          case rel => exact ⟨k + 1, by omega, by go_num, linesTo_succ HLI.out HX.out HY.out rfl⟩
          case measure => simp [intOf]; omega
        · go_wp2
          go_ret
          exact ⟨retB (wk_no_apart HX.out HY.out).symm, b0⟩
    · obtain rfl : k = n := by omega
      have HLA := Lib.hid (show linesTo a e a.length from HA.out.symm ▸ HLI.out)
      clear HLI
      go_wp2
      go_loopw [4] (fun i wr => ∃ j : Nat, j ≤ q ∧ i = .int .i64 j ∧ persTo k e ps j ∧ Below (w.heap.size + 1) (w.alloc (.cells #[.slice A k c, .slice B k d, .slice C q r] 44)) wr) (fun i _ => q - (intOf i).toNat)
      case atStart => exact ⟨0, by omega, rfl, persTo_zero _ _ _, Below.refl _ _⟩
      case round =>
        obtain ⟨j, hj, rfl, hpers, hbel⟩ := hrel
        have HPE := Lib.hid hpers
        have hb0 : Below w.heap.size w wr := b0.trans (hbel.mono (by omega))
        have HB := Lib.hid (show Below (w.alloc (.cells #[.slice A k c, .slice B k d, .slice C q r] 44)).heap.size _ wr by simpa using hbel)
        have HB0 := Lib.hid hb0
        have K1 := Lib.hid (K0.out.keep HB.out)
        clear hpers p0 p1 p2 hbel hb0
        obtain ⟨p0, p1, p2, -⟩ := K1.out.three
        by_cases hjt : j < q
        · obtain ⟨b, off, p, rfl, hb, hkp, g0, g1⟩ := (HR.out.pe.below HB.out).at_ hjt
          have HK := Lib.hid hkp
          clear hkp
          obtain ⟨x, y⟩ := p
          simp only at g0 g1
          have q0 : (0 : Int) ≤ (j : Int) := by omega
          have q1 : (j : Int) < (q : Int) := by omega
          have q2 : (j : Int) ≤ (r : Int) := by omega
          have hz := HB0.out.size
          have bx := Lib.hid (HB0.out.alloc hz (.cells #[.int .i64 x, .int .i64 y] 66))
          have BW := Lib.hid (show Below (w.heap.size + 1) (w.alloc (.cells #[.slice A k c, .slice B k d, .slice (some ⟨b, off, none⟩) q r] 44)) (wr.alloc (.cells #[.int .i64 x, .int .i64 y] 66)) from (HB.out.mono (by simp)).alloc (by have := HB.out.size; simpa using this) _)
          have RT := Lib.hid ((HR.out.pe.below HB.out).below (below_bx wr (.cells #[.int .i64 x, .int .i64 y] 66)))
          have RE := Lib.hid (HR.out.ea.below HB.out)
          have hw1 := K1.out.lt
          obtain ⟨a0, a1, a2, -⟩ := (K1.out.alloc (.cells #[.int .i64 x, .int .i64 y] 66)).three
          cases hx : inB x 0 9
          · have HF := Lib.hid (wk_no_per (a := a) (e := e) HK.out (by rw [perOk]; simp [inB] at hx; simp; omega))
            have HX := Lib.hid hx
            clear hx
            go_wp2_with fail
            refine (l1In_w _ _ _ HX.out _).mono ?_
            rintro e1 w2 ⟨rfl, rfl⟩
            go_wp2
            go_ret
            exact ⟨retB HF.out.symm, bx.out⟩
          have HX := Lib.hid hx
          clear hx
          have wk1 : IntKind.i64.wrap ((k : Int) - 1) = (k : Int) - 1 := IntWalk.i64_in _ (by omega)
          cases hy : inB y 0 ((k : Int) - 1)
          · have HF := Lib.hid (wk_no_per (a := a) (e := e) HK.out (by rw [perOk, inW]; simp [inB] at hy; rw [HA.out]; simp; omega))
            have HY := Lib.hid hy
            clear hy
            go_wp2_with fail
            refine (l1In_w _ _ _ HX.out _).mono ?_
            rintro e1 w2 ⟨rfl, rfl⟩
            go_wp2_with fail
            refine (l1In_w _ _ _ HY.out _).mono ?_
            rintro e1 w2 ⟨rfl, rfl⟩
            go_wp2
            go_ret
            exact ⟨retB HF.out.symm, bx.out⟩
          have HY := Lib.hid hy
          simp only [inB, Bool.and_eq_true, decide_eq_true_eq] at hy
          obtain ⟨l, rfl⟩ := Int.eq_ofNat_of_zero_le hy.1
          have hlk : l < k := by omega
          clear hy
          obtain ⟨b', off', t, hB', hb', hkt, g2⟩ := RE.out.at_ hlk
          subst hB'
          have HT := Lib.hid hkt
          clear hkt
          have l0 : (0 : Int) ≤ (l : Int) := by omega
          have l1 : (l : Int) < (k : Int) := by omega
          cases t
          · have HF := Lib.hid (wk_no_per (a := a) (e := e) HK.out (by rw [perOk, atW, Int.toNat_natCast, getD_some HT.out, Bool.and_false]))
            go_wp2_with fail
            refine (l1In_w _ _ _ HX.out _).mono ?_
            rintro e1 w2 ⟨rfl, rfl⟩
            go_wp2_with fail
            refine (l1In_w _ _ _ HY.out _).mono ?_
            rintro e1 w2 ⟨rfl, rfl⟩
            go_wp2
            go_ret
            exact ⟨retB HF.out.symm, bx.out⟩
          have HPO := Lib.hid (show perOk k e (x, (l : Int)) = true by
            have h1 := HX.out; have h2 := HY.out
            rw [perOk, inW, atW, Int.toNat_natCast, getD_some HT.out]
            simp [inB] at h1 h2; simp; omega)
          have HFL := Lib.hid (findW_lt HK.out)
          cases hc : decide (findW ps (x, (l : Int)) < (j : Int))
          · have HN := Lib.hid (fun h => of_decide_eq_false hc (HFL.out.2 h))
            go_wp2_with fail
            refine (l1In_w _ _ _ HX.out _).mono ?_
            rintro e1 w2 ⟨rfl, rfl⟩
            go_wp2_with fail
            refine (l1In_w _ _ _ HY.out _).mono ?_
            rintro e1 w2 ⟨rfl, rfl⟩
            go_wp2_with fail
            refine (findS_any _ q r ps x l _ (by omega) RT.out).mono ?_
            rintro e1 w2 ⟨rfl, hb2⟩
            go_wp2
            go_roundw
            case rel => exact ⟨j + 1, by omega, by go_num, persTo_succ HPE.out HK.out HPO.out HN.out, BW.out.trans (hb2.mono (by have := BW.out.size; simp at this; simp; omega))⟩
            case measure => simp [intOf]; omega
          · have HF := Lib.hid (wk_no_dup (a := a) (e := e) HK.out (HFL.out.1 (of_decide_eq_true hc)))
            go_wp2_with fail
            refine (l1In_w _ _ _ HX.out _).mono ?_
            rintro e1 w2 ⟨rfl, rfl⟩
            go_wp2_with fail
            refine (l1In_w _ _ _ HY.out _).mono ?_
            rintro e1 w2 ⟨rfl, rfl⟩
            go_wp2_with fail
            refine (findS_any _ q r ps x l _ (by omega) RT.out).mono ?_
            rintro e1 w2 ⟨rfl, hb2⟩
            go_wp2
            go_ret
            exact ⟨retB HF.out.symm, bx.out.trans (hb2.mono bx.out.size)⟩
        · obtain rfl : j = q := by omega
          go_wp2
          go_ret
          exact ⟨retB (wk_yes ⟨by rw [HA.out]; omega, by rw [HA.out]; omega, by rw [HA.out, HE.out], by rw [HP.out]; omega⟩ HLA.out (by rw [HA.out, HP.out]; exact HPE.out)).symm, HB0.out⟩
end Go.Proofs.Ytafgfhjlkdjngaa
