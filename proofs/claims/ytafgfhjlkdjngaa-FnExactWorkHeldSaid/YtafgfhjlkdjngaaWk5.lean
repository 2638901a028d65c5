/- Permits: valid work, of the program. -/
import Derived.Test.YtafgfhjlkdjngaaWk4
import Derived.Lib.QuietBelow
namespace Go.Proofs.Ytafgfhjlkdjngaa
open Go.ChangeShapes Go.WideShapes Go.ChangeAt Go.RowKit

theorem within_w (x a b : Int) {t : Bool} (ht : inB x a b = t) (w : World) :
    Calls Try.prog 46 #[.int .i64 x, .int .i64 a, .int .i64 b] w fun e w' => e = .returned (.bool t) ∧ w = w' := by
  subst ht; exact within_any x a b w
theorem within_b (x a b : Int) {t : Bool} (ht : inB x a b = t) (w : World) :
    Calls Try.prog 46 #[.int .i64 x, .int .i64 a, .int .i64 b] w fun e w' => e = .returned (.bool t) ∧ Below w.heap.size w w' := by
  subst ht
  refine (within_any x a b w).mono ?_
  rintro e w' ⟨rfl, rfl⟩
  exact ⟨rfl, Below.refl _ _⟩
theorem containsJ_any (A : Option Addr) (n c : Nat) (ps : List TJ) (x y : Int) {t : Bool} (ht : decide ((x, y) ∈ ps) = t) (w : World) (hn : n ≤ 1048576) (hr : RowJ w A n ps) :
    Calls Try.prog 47 #[.slice A n c, .agg #[.int .i64 x, .int .i64 y]] w fun e w' => e = .returned (.bool t) ∧ Below w.heap.size w w' := by
  subst ht
  have b0 := below_bx w (.cells #[.int .i64 x, .int .i64 y] 66)
  obtain ⟨p0, p1, -⟩ := (IsBlk.new w 66 #[.int .i64 x, .int .i64 y]).two
  have HR := Lib.hid hr
  clear hr
  go_enter Try.func47, Try.ntmps47
  go_wp2_with fail
  refine (indexJ_any A n c ps x y _ hn (HR.out.below b0)).mono ?_
  rintro e w1 ⟨rfl, hb1⟩
  go_wp2
  go_ret
  exact ⟨retB (by rw [decide_eq_decide]; exact findW_mem), b0.trans (hb1.mono b0.size)⟩
set_option maxRecDepth 100000 in
set_option maxHeartbeats 4000000 in
theorem workValid_any (A : Option Addr) (n c : Nat) (B : Option Addr) (m d : Nat) (C : Option Addr) (q r : Nat) (a e : List Bool) (ps : List TJ) (w : World) (hn : n ≤ 1048576) (hm : m ≤ 1048576) (hq : q ≤ 1048576) (hqr : q ≤ r) (hr : RowW w A n B m C q a e ps) :
    Calls Try.prog 20 #[.agg #[.slice A n c, .slice B m d, .slice C q r]] w fun e' w' => e' = .returned (.bool (wkOk (a, e, ps))) ∧ Below w.heap.size w w' := by
  have b0 := below_bx w (.cells #[.slice A n c, .slice B m d, .slice C q r] 44)
  have K0 := Lib.hid (IsBlk.new w 44 #[.slice A n c, .slice B m d, .slice C q r])
  have HR := Lib.hid (hr.below b0)
  have HA := Lib.hid hr.on.len
  have HE := Lib.hid hr.ea.len
  have HP := Lib.hid hr.pe.len
  clear hr
  obtain ⟨p0, p1, p2, -⟩ := K0.out.three
  by_cases hnm : n = m
  rotate_left
  · have HF := Lib.hid (wk_no_len (a := a) (e := e) (ps := ps) (by rw [HA.out, HE.out]; omega))
    have hne : ((n : Int) == (m : Int)) = false := by simp; omega
    go_enter Try.func20, Try.ntmps20
    go_wp2
    go_ret
    exact ⟨retB HF.out.symm, b0⟩
  subst hnm
  cases hin : inB (n : Int) 1 10
  · have HF := Lib.hid (wk_no_len (a := a) (e := e) (ps := ps) (by rw [HA.out]; intro h; simp [inB] at hin; omega))
    go_enter Try.func20, Try.ntmps20
    go_wp2_with fail
    refine (within_w _ _ _ hin _).mono ?_
    rintro e1 w1 ⟨rfl, rfl⟩
    go_wp2
    go_ret
    exact ⟨retB HF.out.symm, b0⟩
  have HIN := Lib.hid hin
  have hn1 : 1 ≤ n ∧ n ≤ 10 := by simp [inB] at hin; omega
  clear hin
  by_cases h6 : 6 < q
  · have HF := Lib.hid (wk_no_len (a := a) (e := e) (ps := ps) (by rw [HP.out]; omega))
    have h6' : (6 : Int) < (q : Int) := by omega
    go_enter Try.func20, Try.ntmps20
    go_wp2_with fail
    refine (within_w _ _ _ HIN.out _).mono ?_
    rintro e1 w1 ⟨rfl, rfl⟩
    go_wp2
    go_ret
    exact ⟨retB HF.out.symm, b0⟩
  have h6' : ¬ (6 : Int) < (q : Int) := by omega
  go_enter Try.func20, Try.ntmps20
  go_wp2_with fail
  refine (within_w _ _ _ HIN.out _).mono ?_
  rintro e1 w1 ⟨rfl, rfl⟩
  go_wp2
  go_loop [30] (fun i => ∃ k : Nat, k ≤ n ∧ i = .int .i64 k ∧ linesTo a e k) (fun i => n - (intOf i).toNat)
  case atStart => exact ⟨0, by omega, rfl, linesTo_zero _ _⟩
  case round =>
    obtain ⟨k, hk, rfl, hlines⟩ := hrel
    have HLI := Lib.hid hlines
    clear hlines
    by_cases hlt : k < n
    · obtain ⟨b, off, x, rfl, hb, hkx, g0⟩ := HR.out.on.at_ hlt
      obtain ⟨b', off', y, rfl, hb', hky, g1⟩ := HR.out.ea.at_ hlt
      have HX := Lib.hid hkx
      have HY := Lib.hid hky
      clear hkx hky
      have q0 : (0 : Int) ≤ (k : Int) := by omega
      have q1 : (k : Int) < (n : Int) := by omega
      cases x
      · go_wp2
        go_round
        case rel => exact ⟨k + 1, by omega, by go_num, linesTo_succ HLI.out HX.out HY.out rfl⟩
        case measure => simp [intOf]; omega
      · cases y
        · go_wp2
          go_round
          case rel => exact ⟨k + 1, by omega, by go_num, linesTo_succ HLI.out HX.out HY.out rfl⟩
          case measure => simp [intOf]; omega
        · go_wp2
          go_ret
          exact ⟨retB (wk_no_apart HX.out HY.out).symm, b0⟩
    · obtain rfl : k = n := by omega
      have HLA := Lib.hid (show linesTo a e a.length from HA.out.symm ▸ HLI.out)
      clear HLI
      go_wp2
      go_loopw [47] (fun i wr => ∃ j : Nat, j ≤ q ∧ i = .int .i64 j ∧ persTo k e ps j ∧ Below (w.heap.size + 1) (w.alloc (.cells #[.slice A k c, .slice B k d, .slice C q r] 44)) wr) (fun i _ => q - (intOf i).toNat)
      case atStart => exact ⟨0, by omega, rfl, persTo_zero _ _ _, Below.refl _ _⟩
      case round =>
        obtain ⟨j, hj, rfl, hpers, hbel⟩ := hrel
        have HPE := Lib.hid hpers
        have hb0 : Below w.heap.size w wr := b0.trans (hbel.mono (by omega))
        have HB := Lib.hid (show Below (w.alloc (.cells #[.slice A k c, .slice B k d, .slice C q r] 44)).heap.size _ wr by simpa using hbel)
        have HB0 := Lib.hid hb0
        have K1 := Lib.hid (K0.out.keep HB.out)
        clear hpers p0 p1 p2 hbel hb0
        obtain ⟨p0, p1, p2, -⟩ := K1.out.three
        by_cases hjt : j < q
        · obtain ⟨b, off, p, rfl, hb, hkp, g0, g1⟩ := (HR.out.pe.below HB.out).at_ hjt
          have HK := Lib.hid hkp
          clear hkp
          obtain ⟨x, y⟩ := p
          simp only at g0 g1
          have q0 : (0 : Int) ≤ (j : Int) := by omega
          have q1 : (j : Int) < (q : Int) := by omega
          have q2 : (j : Int) ≤ (r : Int) := by omega
          have hz := HB0.out.size
          obtain ⟨W, hW⟩ : ∃ W, W = wr.alloc (.cells #[.int .i64 x, .int .i64 y] 66) := ⟨_, rfl⟩
          have bx := Lib.hid (show Below w.heap.size w W from hW ▸ HB0.out.alloc hz (.cells #[.int .i64 x, .int .i64 y] 66))
          have BW := Lib.hid (show Below (w.heap.size + 1) (w.alloc (.cells #[.slice A k c, .slice B k d, .slice (some ⟨b, off, none⟩) q r] 44)) W from hW ▸ (HB.out.mono (by simp)).alloc (by have := HB.out.size; simpa using this) (.cells #[.int .i64 x, .int .i64 y] 66))
          have RT := Lib.hid (show RowJ W (some ⟨b, off, none⟩) j (ps.take j) from hW ▸ ((HR.out.pe.below HB.out).below (below_bx wr (.cells #[.int .i64 x, .int .i64 y] 66))).take (k := j) (by omega))
          have RE := Lib.hid (show RowT W B k e from hW ▸ (HR.out.ea.below HB.out).below (below_bx wr (.cells #[.int .i64 x, .int .i64 y] 66)))
          have KW := Lib.hid (show IsBlk W w.heap.size 44 #[.slice A k c, .slice B k d, .slice (some ⟨b, off, none⟩) q r] from hW ▸ K1.out.alloc _)
          have KP := Lib.hid (show IsBlk W wr.heap.size 66 #[.int .i64 x, .int .i64 y] from hW ▸ IsBlk.new wr _ _)
          have HWW := Lib.hid hW
          clear hW
          have c0 := cell_regrown (KW.out.cell 0)
          have c1 := cell_regrown (KW.out.cell 1)
          have c2 := cell_regrown (KW.out.cell 2)
          have c3 := cell_regrown (KP.out.cell 0)
          have c4 := cell_regrown (KP.out.cell 1)
          have CX := Lib.hid (show ∀ t, inB x 0 9 = t → ∀ d' os', Calls Try.prog 46 #[.int .i64 x, .int .i64 0, .int .i64 9] (Sort.grow (redrawn W d') os') fun e1 w'' => e1 = .returned (.bool t) ∧ ∃ p : Regrown, w'' = Sort.grow (redrawn W p.d) p.os from fun _ ht d' os' => Calls.regrown_of (within_b x 0 9 ht _))
          cases hx : inB x 0 9
          · have HF := Lib.hid (wk_no_per (a := a) (e := e) HK.out (by rw [perOk]; simp [inB] at hx; simp; omega))
            have cX := CX.out _ hx
            clear CX hx
            go_wp2
            rw [← HWW.out]
            refine wp_region_quiet_below (by kernel_rfl) (by kernel_rfl) ?_
            repeat (go_big_quiet_step (first | with_reducible exact cX _ _))
            refine wpQuiet_nil ?_
            intro w2 hw2
            have hb2 : Below W.heap.size W w2 := by obtain ⟨p, rfl⟩ := hw2; exact below_regrown _ _ _
            clear hw2 c0 c1 c2 c3 c4
            go_wp2
            go_ret
            exact ⟨retB HF.out.symm, bx.out.trans (hb2.mono bx.out.size)⟩
          have cX := CX.out _ hx
          have HX := Lib.hid hx
          clear CX hx
          have wk1 : IntKind.i64.wrap ((k : Int) - 1) = (k : Int) - 1 := IntWalk.i64_in _ (by omega)
          have CY := Lib.hid (show ∀ t, inB y 0 ((k : Int) - 1) = t → ∀ d' os', Calls Try.prog 46 #[.int .i64 y, .int .i64 0, .int .i64 ((k : Int) - 1)] (Sort.grow (redrawn W d') os') fun e1 w'' => e1 = .returned (.bool t) ∧ ∃ p : Regrown, w'' = Sort.grow (redrawn W p.d) p.os from fun _ ht d' os' => Calls.regrown_of (within_b y 0 ((k : Int) - 1) ht _))
          cases hy : inB y 0 ((k : Int) - 1)
          · have HF := Lib.hid (wk_no_per (a := a) (e := e) HK.out (by rw [perOk, inW]; simp [inB] at hy; rw [HA.out]; simp; omega))
            have cY := CY.out _ hy
            clear CY hy
            go_wp2
            rw [← HWW.out]
            refine wp_region_quiet_below (by kernel_rfl) (by kernel_rfl) ?_
            repeat (go_big_quiet_step (first | with_reducible exact cX _ _ | with_reducible exact cY _ _))
            refine wpQuiet_nil ?_
            intro w2 hw2
            have hb2 : Below W.heap.size W w2 := by obtain ⟨p, rfl⟩ := hw2; exact below_regrown _ _ _
            clear hw2 c0 c1 c2 c3 c4
            go_wp2
            go_ret
            exact ⟨retB HF.out.symm, bx.out.trans (hb2.mono bx.out.size)⟩
          have cY := CY.out _ hy
          have HY := Lib.hid hy
          simp only [inB, Bool.and_eq_true, decide_eq_true_eq] at hy
          obtain ⟨l, rfl⟩ := Int.eq_ofNat_of_zero_le hy.1
          have hlk : l < k := by omega
          clear CY hy
          obtain ⟨b', off', t, hB', hb', hkt, g2⟩ := RE.out.at_ hlk
          subst hB'
          have c5 := cell_regrown g2
          have HT := Lib.hid hkt
          clear hkt g2
          have l0 : (0 : Int) ≤ (l : Int) := by omega
          have l1 : (l : Int) < (k : Int) := by omega
          cases t
          · have HF := Lib.hid (wk_no_per (a := a) (e := e) HK.out (by rw [perOk, atW, Int.toNat_natCast, getD_some HT.out, Bool.and_false]))
            go_wp2
            rw [← HWW.out]
            refine wp_region_quiet_below (by kernel_rfl) (by kernel_rfl) ?_
            repeat (go_big_quiet_step (first | with_reducible exact cX _ _ | with_reducible exact cY _ _))
            refine wpQuiet_nil ?_
            intro w2 hw2
            have hb2 : Below W.heap.size W w2 := by obtain ⟨p, rfl⟩ := hw2; exact below_regrown _ _ _
            clear hw2 c0 c1 c2 c3 c4
            go_wp2
            go_ret
            exact ⟨retB HF.out.symm, bx.out.trans (hb2.mono bx.out.size)⟩
          have HPO := Lib.hid (show perOk k e (x, (l : Int)) = true by
            have h1 := HX.out; have h2 := HY.out
            rw [perOk, inW, atW, Int.toNat_natCast, getD_some HT.out]
            simp [inB] at h1 h2; simp; omega)
          have CC := Lib.hid (show ∀ t, decide ((x, (l : Int)) ∈ ps.take j) = t → ∀ d' os', Calls Try.prog 47 #[.slice (some ⟨b, off, none⟩) j r, .agg #[.int .i64 x, .int .i64 (l : Int)]] (Sort.grow (redrawn W d') os') fun e1 w'' => e1 = .returned (.bool t) ∧ ∃ p : Regrown, w'' = Sort.grow (redrawn W p.d) p.os from fun _ ht d' os' => Calls.regrown_of (containsJ_any _ j r (ps.take j) x l ht _ (by omega) (RT.out.below (below_regrown _ _ _))))
          cases hc : decide ((x, (l : Int)) ∈ ps.take j)
          · have HN := Lib.hid (of_decide_eq_false hc)
            have cC := CC.out _ hc
            clear CC hc
            go_wp2
            rw [← HWW.out]
            refine wp_region_quiet_below (by kernel_rfl) (by kernel_rfl) ?_
            repeat (go_big_quiet_step (first | with_reducible exact cX _ _ | with_reducible exact cY _ _ | with_reducible exact cC _ _))
            refine wpQuiet_nil ?_
            intro w2 hw2
            have hb2 : Below W.heap.size W w2 := by obtain ⟨p, rfl⟩ := hw2; exact below_regrown _ _ _
            clear hw2 c0 c1 c2 c3 c4
            go_wp2
            go_roundw
            case rel => exact ⟨j + 1, by omega, by go_num, persTo_succ HPE.out HK.out HPO.out HN.out, BW.out.trans (hb2.mono (by have := BW.out.size; simp at this; omega))⟩
            case measure => simp [intOf]; omega
          · have HF := Lib.hid (wk_no_dup (a := a) (e := e) HK.out (of_decide_eq_true hc))
            have cC := CC.out _ hc
            clear CC hc
            go_wp2
            rw [← HWW.out]
            refine wp_region_quiet_below (by kernel_rfl) (by kernel_rfl) ?_
            repeat (go_big_quiet_step (first | with_reducible exact cX _ _ | with_reducible exact cY _ _ | with_reducible exact cC _ _))
            refine wpQuiet_nil ?_
            intro w2 hw2
            have hb2 : Below W.heap.size W w2 := by obtain ⟨p, rfl⟩ := hw2; exact below_regrown _ _ _
            clear hw2 c0 c1 c2 c3 c4
            go_wp2
            go_ret
            exact ⟨retB HF.out.symm, bx.out.trans (hb2.mono bx.out.size)⟩
        · obtain rfl : j = q := by omega
          go_wp2
          go_ret
          exact ⟨retB (wk_yes ⟨by rw [HA.out]; omega, by rw [HA.out]; omega, by rw [HA.out, HE.out], by rw [HP.out]; omega⟩ HLA.out (by rw [HA.out, HP.out]; exact HPE.out)).symm, HB0.out⟩
end Go.Proofs.Ytafgfhjlkdjngaa
