/- Bays, of the program: the table of what must be open, BaySafe, BayMay, BayDo, BayRun. -/
import Derived.Test.YtapbmpodimdkpaaDoorBCA
import Derived.Test.YtapbmpodimdkpaaDoorBPA
import Derived.Test.YtapbmpodimdkpaaDoorBay0
import Derived.Deep.QuietTactic
import Derived.BigQuiet
import Derived.Outline
namespace Go.Proofs.YtapbmpodimdkpaaDoor
open Go.ChangeShapes Go.WideShapes Go.ChangeAt Go.RowKit

/-- A bay as a value. -/
def vB (b : B4) : Value := .agg #[.bool b.1, .bool b.2.1, .bool b.2.2.1, .bool b.2.2.2]
/-- Which other parts must be open, for each deed. -/
def mustP (d : Nat) : List Nat := if d = 2 then [0] else if d = 3 then [0] else if d = 4 then [0] else if d = 5 then [0, 3] else if d = 7 then [2] else []
theorem must_lt : ∀ d, d < 8 → ∀ p ∈ mustP d, p < 4 := by decide
theorem must_len : ∀ d, d < 8 → (mustP d).length ≤ 2 := by decide
theorem may_must : ∀ a b c e : Bool, ∀ d, d < 8 → mayN (a, b, c, e) d = (!(partF (a, b, c, e) (d / 2) == (d % 2 == 1)) && (mustP d).all fun p => !partF (a, b, c, e) p) := by decide
/-- The table lies in memory as it was written. -/
def MustTab (w : World) : Prop := ∀ d, d < 8 → ∃ A c, w.cell? ⟨0, d, none⟩ = some (.slice A (mustP d).length c) ∧ RowZ w A (mustP d).length ((mustP d).map fun (p : Nat) => (p : Int))
theorem MustTab.lt {w : World} (h : MustTab w) : 0 < w.heap.size := by
  obtain ⟨A, c, h1, _⟩ := h 0 (by omega)
  rcases Nat.lt_or_ge 0 w.heap.size with h2 | h2
  · exact h2
  · simp [World.cell?, Array.getElem?_eq_none h2] at h1
theorem MustTab.keep {w w' : World} (h : MustTab w) (hb : Below w.heap.size w w') : MustTab w' := fun d hd => by
  obtain ⟨A, c, h1, h2⟩ := h d hd
  exact ⟨A, c, (hb.cell (p := ⟨0, d, none⟩) h.lt).trans h1, h2.below hb⟩

theorem truthsOf_any (a b c e : Bool) (w : World) :
    Calls Tryd.prog 41 #[.agg #[.bool a, .bool b, .bool c, .bool e]] w fun x w' => x = .returned (.agg #[.bool a, .bool b, .bool c, .bool e]) ∧ Below w.heap.size w w' := by
  go_enter Tryd.func41, Tryd.ntmps41
  go_wp2
  refine bodyPost_ret (v := .agg #[.bool a, .bool b, .bool c, .bool e]) (by simp [results, Tryd.results41, go_sem]) rfl ⟨rfl, ?_⟩
  exact (below_bx _ _).alloc (by simp) _
theorem bayOf_any (a b c e : Bool) (w : World) :
    Calls Tryd.prog 45 #[.agg #[.bool a, .bool b, .bool c, .bool e]] w fun x w' => x = .returned (.agg #[.bool a, .bool b, .bool c, .bool e]) ∧ Below w.heap.size w w' := by
  go_enter Tryd.func45, Tryd.ntmps45
  go_wp2
  refine bodyPost_ret (v := .agg #[.bool a, .bool b, .bool c, .bool e]) (by simp [results, Tryd.results45, go_sem]) rfl ⟨rfl, ?_⟩
  exact (below_bx _ _).alloc (by simp) _
theorem partMoved_any (k : Nat) (hk : k < 8) (w : World) :
    Calls Tryd.prog 42 #[.int .i64 (k : Int)] w fun x w' => x = .returned (.tuple #[.int .i64 ((k / 2 : Nat) : Int), .bool (k % 2 == 1)]) ∧ w = w' := by
  go_enter Tryd.func42, Tryd.ntmps42
  go_wp2
  go_ret2
  refine ⟨?_, rfl⟩
  rcases k with _ | _ | _ | _ | _ | _ | _ | _ | k <;> first | rfl | omega
theorem baySafe_any (a b c e : Bool) (w : World) :
    Calls Tryd.prog 13 #[.agg #[.bool a, .bool b, .bool c, .bool e]] w fun x w' => x = .returned (.bool (safeF (a, b, c, e))) ∧ Below w.heap.size w w' := by
  go_enter Tryd.func13, Tryd.ntmps13
  cases c
  all_goals go_wp2
  all_goals go_ret
  all_goals exact ⟨retB (by simp [safeF]), below_bx _ _⟩
theorem specBaySafe_any (a b c e : Bool) (w : World) :
    Calls Tryd.prog 14 #[.agg #[.bool a, .bool b, .bool c, .bool e]] w fun x w' => x = .returned (.bool (safeF (a, b, c, e))) ∧ Below w.heap.size w w' := by
  go_enter Tryd.func14, Tryd.ntmps14
  cases c
  all_goals go_wp2
  all_goals go_ret
  all_goals exact ⟨retB (by simp [safeF]), below_bx _ _⟩
theorem IsBlk.four {w : World} {g : Nat} {t : TypeId} {u v x y : Value} (h : IsBlk w g t #[u, v, x, y]) : w.cell? ⟨g, 0, none⟩ = some u ∧ w.cell? ⟨g, 1, none⟩ = some v ∧ w.cell? ⟨g, 2, none⟩ = some x ∧ w.cell? ⟨g, 3, none⟩ = some y ∧ w.frozen? ⟨g, 0, none⟩ = false ∧ w.frozen? ⟨g, 1, none⟩ = false ∧ w.frozen? ⟨g, 2, none⟩ = false ∧ w.frozen? ⟨g, 3, none⟩ = false :=
  ⟨h.cell 0, h.cell 1, h.cell 2, h.cell 3, h.thaw 0, h.thaw 1, h.thaw 2, h.thaw 3⟩
theorem IsBlk.put4 {w : World} {g : Nat} {t : TypeId} {u v x y : Value} (h : IsBlk w g t #[u, v, x, y]) (a b c e : Value) : IsBlk ((((w.setCell ⟨g, 0, none⟩ a).setCell ⟨g, 1, none⟩ b).setCell ⟨g, 2, none⟩ c).setCell ⟨g, 3, none⟩ e) g t #[a, b, c, e] := by
  have := (((h.put 0 a).put 1 b).put 2 c).put 3 e
  simpa using this
theorem IsBlk.far4 {w : World} {g q : Nat} {t : TypeId} {cs : Array Value} (h : IsBlk w g t cs) (hne : g ≠ q) (a b c e : Value) : IsBlk ((((w.setCell ⟨q, 0, none⟩ a).setCell ⟨q, 1, none⟩ b).setCell ⟨q, 2, none⟩ c).setCell ⟨q, 3, none⟩ e) g t cs :=
  (((h.far (p := ⟨q, 0, none⟩) hne _).far (p := ⟨q, 1, none⟩) hne _).far (p := ⟨q, 2, none⟩) hne _).far (p := ⟨q, 3, none⟩) hne _
theorem below_four {B g : Nat} {w w' : World} (h : Below B w w') (hg : B ≤ g) (a b c e : Value) : Below B w ((((w'.setCell ⟨g, 0, none⟩ a).setCell ⟨g, 1, none⟩ b).setCell ⟨g, 2, none⟩ c).setCell ⟨g, 3, none⟩ e) := (((h.setCell hg _).setCell hg _).setCell hg _).setCell hg _
theorem part_cell {w : World} {g p : Nat} {t : TypeId} {a b c e : Bool} (h : IsBlk w g t #[.bool a, .bool b, .bool c, .bool e]) (hp : p < 4) : w.cell? ⟨g, p, none⟩ = some (.bool (partF (a, b, c, e) p)) := by
  rw [h.cell]
  rcases p with _ | _ | _ | _ | p <;> first | rfl | omega
theorem bayMay_any (a b c e : Bool) (d : Int) (w : World) (hT : MustTab w) :
    Calls Tryd.prog 17 #[.agg #[.bool a, .bool b, .bool c, .bool e], .int .i64 d] w fun x w' => x = .returned (.bool (mayF (a, b, c, e) d)) ∧ Below w.heap.size w w' := by
  have HT := Lib.hid hT
  clear hT
  by_cases hin : 0 ≤ d ∧ d ≤ 7
  · obtain ⟨k, rfl⟩ := Int.eq_ofNat_of_zero_le hin.1
    have hk : k < 8 := by omega
    have HI := Lib.hid (show inB (k : Int) 0 7 = true by simp [inB]; omega)
    have HM := Lib.hid ((mayF_nat (b := (a, b, c, e)) hk).trans (may_must a b c e k hk))
    have HLT := Lib.hid (must_lt k hk)
    have hln := must_len k hk
    clear hin
    go_enter Tryd.func17, Tryd.ntmps17
    go_wp2_with fail
    refine (within_any _ _ _ _).mono ?_
    rintro x w' ⟨rfl, rfl⟩
    rw [HI.out]
    go_wp2_with fail
    refine (truthsOf_any a b c e _).mono ?_
    rintro x w1 ⟨rfl, hb1⟩
    have b1 : Below w.heap.size w w1 := (below_bx w _).trans (hb1.mono (by simp))
    go_wp2_with fail
    refine (partMoved_any k hk _).mono ?_
    rintro x w' ⟨rfl, rfl⟩
    have KC := Lib.hid (IsBlk.new w1 65 #[.bool a, .bool b, .bool c, .bool e])
    have b2 : Below w.heap.size w (w1.alloc (.cells #[.bool a, .bool b, .bool c, .bool e] 65)) := b1.alloc b1.size _
    have hp4 : ((k / 2 : Nat) : Int) < 4 := by omega
    have hp0 : (0 : Int) ≤ ((k / 2 : Nat) : Int) := by omega
    have cp := part_cell KC.out (show k / 2 < 4 by omega)
    have B2 := Lib.hid b2
    by_cases hq : (partF (a, b, c, e) (k / 2) == (k % 2 == 1)) = true
    · go_wp2
      go_ret
      exact ⟨retB (by rw [HM.out, hq]; rfl), B2.out⟩
    · rw [Bool.not_eq_true] at hq
      obtain ⟨A, cc, ht, hrow⟩ := HT.out k hk
      rw [← b2.cell (p := ⟨0, k, none⟩) HT.out.lt] at ht
      have HR := Lib.hid hrow
      have HQ := Lib.hid hq
      have hk0 : (0 : Int) ≤ (k : Int) := by omega
      have hk8 : (k : Int) < 8 := by omega
      clear hrow b1 b2 hb1
      generalize mustP k = L at *
      go_wp2
      go_loopw [29] (fun i wr => ∃ j : Nat, j ≤ L.length ∧ i = .int .i64 j ∧ Below w.heap.size w wr ∧ IsBlk wr w1.heap.size 65 #[.bool a, .bool b, .bool c, .bool e] ∧ ∀ x ∈ L.take j, partF (a, b, c, e) x = false) (fun i _ => L.length - (intOf i).toNat)
      case atStart => exact ⟨0, by omega, rfl, B2.out, KC.out, by simp⟩
      case round =>
        obtain ⟨j, hj, rfl, hbel, hblk, hall⟩ := hrel
        by_cases hlt : j < L.length
        · obtain ⟨b', off, z, rfl, hb', hz, g0⟩ := HR.out.at_ hlt
          rw [← hbel.cell (p := ⟨b', off + j, none⟩) hb'] at g0
          rw [List.getElem?_map, List.getElem?_eq_getElem hlt] at hz
          have hLj : L[j]? = some L[j] := List.getElem?_eq_getElem hlt
          generalize L[j] = q at hz hLj
          injection hz with hz
          subst hz
          have hq4 := HLT.out q (List.mem_of_getElem? hLj)
          have hc := part_cell hblk hq4
          have HLJ := Lib.hid hLj
          have HALL := Lib.hid hall
          have HB := Lib.hid hblk
          have hz0 : (0 : Int) ≤ (q : Int) := by omega
          have hz4 : (q : Int) < 4 := by omega
          clear hLj hall hblk
          by_cases hpq : partF (a, b, c, e) q = true
          · rw [hpq] at hc
            have HP := Lib.hid hpq
            clear hpq
            go_wp2
            go_ret
            refine ⟨retB ?_, hbel⟩
            rw [HM.out, HQ.out, Bool.not_false, Bool.true_and, Eq.comm, List.all_eq_false]
            exact ⟨q, List.mem_of_getElem? HLJ.out, by rw [HP.out]; simp⟩
          · rw [Bool.not_eq_true] at hpq
            rw [hpq] at hc
            have HP := Lib.hid hpq
            clear hpq
            go_wp2
            go_roundw
            case rel =>
              refine ⟨j + 1, by omega, by go_num, hbel, HB.out, fun x hx => ?_⟩
              rw [List.take_add_one, HLJ.out] at hx
              rcases List.mem_append.1 hx with hx | hx
              · exact HALL.out x hx
              · simp at hx; subst hx; exact HP.out
            case measure => simp [intOf]; omega
        · obtain rfl : j = L.length := by omega
          have HALL := Lib.hid hall
          clear hall
          go_wp2
          go_ret
          refine ⟨retB ?_, hbel⟩
          rw [HM.out, HQ.out, Bool.not_false, Bool.true_and, Eq.comm, List.all_eq_true]
          intro x hx
          rw [HALL.out x (by rw [List.take_length]; exact hx)]; rfl
  · have HI := Lib.hid (show inB d 0 7 = false by rw [Bool.eq_false_iff]; intro h; simp [inB] at h; omega)
    have HM := Lib.hid (mayF_out (b := (a, b, c, e)) hin)
    clear hin
    go_enter Tryd.func17, Tryd.ntmps17
    go_wp2_with fail
    refine (within_any _ _ _ _).mono ?_
    rintro x w' ⟨rfl, rfl⟩
    rw [HI.out]
    go_wp2
    go_ret
    exact ⟨retB HM.out.symm, below_bx _ _⟩

theorem put_cell {w : World} {g p : Nat} {t : TypeId} {b : B4} (u : Bool) (h : IsBlk w g t #[.bool b.1, .bool b.2.1, .bool b.2.2.1, .bool b.2.2.2]) (hp : p < 4) :
    IsBlk (w.setCell ⟨g, p, none⟩ (.bool u)) g t #[.bool (setF b p u).1, .bool (setF b p u).2.1, .bool (setF b p u).2.2.1, .bool (setF b p u).2.2.2] := by
  have := h.put p (.bool u)
  rcases p with _ | _ | _ | _ | p <;> first | exact this | omega
set_option maxHeartbeats 4000000 in
theorem bayDo_any (a b c e : Bool) (d : Int) (w : World) (hT : MustTab w) :
    Calls Tryd.prog 19 #[.agg #[.bool a, .bool b, .bool c, .bool e], .int .i64 d] w fun x w' => x = .returned (.tuple #[vB (doF (a, b, c, e) d), .bool (mayF (a, b, c, e) d)]) ∧ Below w.heap.size w w' := by
  have b0 : Below w.heap.size w ((w.alloc (.cells #[.bool a, .bool b, .bool c, .bool e] 24)).alloc (.cells #[.bool false, .bool false, .bool false, .bool false] 24)) := (below_bx w _).alloc (by simp) _
  have KA := Lib.hid ((IsBlk.new w 24 #[.bool a, .bool b, .bool c, .bool e]).alloc (.cells #[.bool false, .bool false, .bool false, .bool false] 24))
  have KR := Lib.hid (IsBlk.new (w.alloc (.cells #[.bool a, .bool b, .bool c, .bool e] 24)) 24 #[.bool false, .bool false, .bool false, .bool false])
  have HT := Lib.hid hT
  clear hT
  go_enter Tryd.func19, Tryd.ntmps19
  go_wp2_with fail
  refine (bayMay_any a b c e d _ (HT.out.keep b0)).mono ?_
  rintro x w1 ⟨rfl, hb1⟩
  have b1 : Below w.heap.size w w1 := b0.trans (hb1.mono b0.size)
  obtain ⟨p0, p1, p2, p3, -⟩ := (KA.out.keep hb1).four
  have KR1 := Lib.hid (KR.out.keep hb1)
  simp only [World.size_alloc] at KR1
  by_cases hm : mayF (a, b, c, e) d = true
  · obtain ⟨k, rfl, hk, hmk⟩ := mayF_in hm
    have HD := Lib.hid (show vB (doF (a, b, c, e) (k : Int)) = vB (setF (a, b, c, e) (k / 2) (k % 2 == 1)) by rw [doF_nat hk hmk]; rfl)
    have HT1 := Lib.hid (HT.out.keep b1)
    have HM := Lib.hid hm
    rw [hm]
    clear hm hmk
    go_wp2_with fail
    refine (truthsOf_any a b c e _).mono ?_
    rintro x w2 ⟨rfl, hb2⟩
    have b2 : Below w.heap.size w w2 := b1.trans (hb2.mono b1.size)
    have KR2 := Lib.hid ((KR1.out.keep hb2).alloc (.cells #[.bool a, .bool b, .bool c, .bool e] 65))
    have hlt : w.heap.size + 1 < w2.heap.size := (KR1.out.keep hb2).lt
    clear p0 p1 p2 p3
    go_wp2_with fail
    refine (partMoved_any k hk _).mono ?_
    rintro x w' ⟨rfl, rfl⟩
    have hp4 : ((k / 2 : Nat) : Int) < 4 := by omega
    have hp0 : (0 : Int) ≤ ((k / 2 : Nat) : Int) := by omega
    have KC := IsBlk.new w2 65 #[.bool a, .bool b, .bool c, .bool e]
    have b2' : Below w.heap.size w (w2.alloc (.cells #[.bool a, .bool b, .bool c, .bool e] 65)) := b2.alloc b2.size _
    have hz2 := b2.size
    generalize w2.heap.size = g at *
    generalize w2.alloc (.cells #[.bool a, .bool b, .bool c, .bool e] 65) = w4 at *
    have cp := part_cell KC (show k / 2 < 4 by omega)
    have fp := KC.thaw (k / 2)
    have KP := put_cell (b := (a, b, c, e)) (k % 2 == 1) KC (show k / 2 < 4 by omega)
    have b3 : Below w.heap.size w (w4.setCell ⟨g, k / 2, none⟩ (.bool (k % 2 == 1))) := b2'.setCell (by omega) _
    have KR3 := KR2.out.far (p := ⟨g, k / 2, none⟩) (show w.heap.size + 1 ≠ g by omega) (.bool (k % 2 == 1))
    obtain ⟨q0, q1, q2, q3, -⟩ := KP.four
    generalize setF (a, b, c, e) (k / 2) (k % 2 == 1) = y at *
    obtain ⟨y0, y1, y2, y3⟩ := y
    dsimp only at q0 q1 q2 q3
    have B3 := Lib.hid b3
    have K3 := Lib.hid KR3
    clear KP KC b3 KR3 hb2 hb1 b1 b0 b2 b2'
    go_wp2_with fail
    refine (bayOf_any y0 y1 y2 y3 _).mono ?_
    rintro x w3 ⟨rfl, hb3⟩
    obtain ⟨r0, r1, r2, r3, s0, s1, s2, s3⟩ := (K3.out.keep hb3).four
    have b4 : Below w.heap.size w w3 := B3.out.trans (hb3.mono B3.out.size)
    clear q0 q1 q2 q3 hb3
    go_wp2
    refine bodyPost_ret (v := .tuple #[.agg #[.bool y0, .bool y1, .bool y2, .bool y3], .bool true]) (by simp [results, Tryd.results19, go_sem, r0, r1, r2, r3]) rfl ⟨by rw [HD.out, HM.out]; rfl, ?_⟩
    exact below_four b4 (by omega) _ _ _ _
  · have HD := Lib.hid (show vB (doF (a, b, c, e) d) = vB (a, b, c, e) by rw [doF, if_neg hm])
    rw [Bool.not_eq_true] at hm
    have HM := Lib.hid hm
    rw [hm]
    obtain ⟨r0, r1, r2, r3, s0, s1, s2, s3⟩ := KR1.out.four
    clear hm hb1 b0
    go_wp2
    refine bodyPost_ret (v := .tuple #[.agg #[.bool a, .bool b, .bool c, .bool e], .bool false]) (by simp [results, Tryd.results19, go_sem, r0, r1, r2, r3]) rfl ⟨by rw [HD.out, HM.out]; rfl, ?_⟩
    exact below_four b1 (by omega) _ _ _ _

set_option maxHeartbeats 4000000 in
theorem bayRun_any (a b c e : Bool) (A : Option Addr) (n cc : Nat) (ds : List Int) (w : World) (hn : n ≤ 1048576) (hr : RowZ w A n ds) (hT : MustTab w) :
    Calls Tryd.prog 23 #[.agg #[.bool a, .bool b, .bool c, .bool e], .slice A n cc] w fun x w' => x = .returned (.tuple #[vB (runF (a, b, c, e) ds).1, .int .i64 ((runF (a, b, c, e) ds).2 : Int)]) ∧ Below w.heap.size w w' := by
  have HR := Lib.hid hr
  have HL := Lib.hid hr.len
  have HT := Lib.hid hT
  clear hr hT
  go_enter Tryd.func23, Tryd.ntmps23
  go_wp2
  go_loopw [12] (fun i wr => ∃ (k : Nat) (x : B4), k ≤ n ∧ i = .int .i64 k ∧ runF (a, b, c, e) (ds.take k) = (x, k) ∧ Below w.heap.size w wr
      ∧ IsBlk wr w.heap.size 24 #[.bool x.1, .bool x.2.1, .bool x.2.2.1, .bool x.2.2.2] ∧ IsBlk wr (w.heap.size + 1) 24 #[.bool false, .bool false, .bool false, .bool false]) (fun i _ => n - (intOf i).toNat)
  case atStart => exact ⟨0, (a, b, c, e), by omega, rfl, run_start _ _, (below_bx w _).alloc (by simp) _, (IsBlk.new w _ _).alloc _, IsBlk.at_ (by simp) rfl rfl⟩
  case round =>
    obtain ⟨k, x, hk, rfl, hrun, hbel, hA, hB⟩ := hrel
    obtain ⟨x0, x1, x2, x3⟩ := x
    dsimp only at hA
    obtain ⟨p0, p1, p2, p3, f0, f1, f2, f3⟩ := hA.four
    obtain ⟨r0, r1, r2, r3, s0, s1, s2, s3⟩ := hB.four
    have HRUN := Lib.hid hrun
    have HAB := Lib.hid hA
    have HBB := Lib.hid hB
    clear hrun hA hB
    by_cases hlt : k < n
    · obtain ⟨b', off, z, rfl, hb', hz, g0⟩ := HR.out.at_ hlt
      rw [← hbel.cell (p := ⟨b', off + k, none⟩) hb'] at g0
      have HZ := Lib.hid hz
      clear hz
      go_wp2_with fail
      refine (bayDo_any x0 x1 x2 x3 z _ (HT.out.keep hbel)).mono ?_
      rintro y w1 ⟨rfl, hb1⟩
      have b1 := hbel.trans (hb1.mono hbel.size)
      have KA := Lib.hid (HAB.out.keep hb1)
      have KB := Lib.hid (HBB.out.keep hb1)
      have hz1 : w.heap.size + 1 < w1.heap.size := KB.out.lt
      clear p0 p1 p2 p3 f0 f1 f2 f3 r0 r1 r2 r3 s0 s1 s2 s3 g0 HAB HBB hb1
      by_cases hm : mayF (x0, x1, x2, x3) z = true
      · have HST := Lib.hid (run_step HZ.out HRUN.out hm)
        rw [hm]
        generalize doF (x0, x1, x2, x3) z = y at *
        obtain ⟨y0, y1, y2, y3⟩ := y
        dsimp only [vB]
        obtain ⟨p0, p1, p2, p3, f0, f1, f2, f3⟩ := (KA.out.alloc (.cells #[.bool y0, .bool y1, .bool y2, .bool y3] 24)).four
        clear hm
        go_wp2
        go_roundw
        case rel =>
          refine ⟨k + 1, (y0, y1, y2, y3), by omega, by go_num, HST.out, below_four (b1.alloc b1.size _) (Nat.le_refl _) _ _ _ _, ?_, ?_⟩
          · have := ((((KA.out.alloc (.cells #[.bool y0, .bool y1, .bool y2, .bool y3] 24)).put 0 (.bool y0)).put 1 (.bool y1)).put 2 (.bool y2)).put 3 (.bool y3)
            simpa using this
          · exact ((((KB.out.alloc (.cells #[.bool y0, .bool y1, .bool y2, .bool y3] 24)).far (p := ⟨w.heap.size, 0, none⟩) (by simp) _).far (p := ⟨w.heap.size, 1, none⟩) (by simp) _).far (p := ⟨w.heap.size, 2, none⟩) (by simp) _).far (p := ⟨w.heap.size, 3, none⟩) (by simp) _
        case measure => simp [intOf]; omega
      · rw [Bool.not_eq_true] at hm
        have HST := Lib.hid (run_stop HZ.out HRUN.out hm)
        rw [hm]
        generalize doF (x0, x1, x2, x3) z = y at *
        obtain ⟨y0, y1, y2, y3⟩ := y
        dsimp only [vB]
        obtain ⟨p0, p1, p2, p3, f0, f1, f2, f3⟩ := KA.out.four
        obtain ⟨r0, r1, r2, r3, s0, s1, s2, s3⟩ := KB.out.four
        have hza : w.heap.size < w1.heap.size := by omega
        obtain ⟨t0, t1, t2, t3, -⟩ := ((KB.out.put4 (.bool x0) (.bool x1) (.bool x2) (.bool x3)).alloc (.cells #[.bool y0, .bool y1, .bool y2, .bool y3] 24)).four
        clear hm
        go_wp2
        refine bodyPost_ret (v := .tuple #[.agg #[.bool x0, .bool x1, .bool x2, .bool x3], .int .i64 (k : Int)]) (by simp [results, Tryd.results23, go_sem, t0, t1, t2, t3]) rfl ⟨by rw [HST.out]; rfl, ?_⟩
        exact (below_four b1 (by omega) _ _ _ _).alloc (by simp; omega) _
    · obtain rfl : k = n := by omega
      have HST := Lib.hid (run_end (ds := ds) (by rw [HL.out]; exact HRUN.out))
      go_wp2
      refine bodyPost_ret (v := .tuple #[.agg #[.bool x0, .bool x1, .bool x2, .bool x3], .int .i64 (k : Int)]) (by simp [results, Tryd.results23, go_sem, r0, r1, r2, r3]) rfl ⟨by rw [HST.out, HL.out]; rfl, ?_⟩
      exact below_four hbel (by omega) _ _ _ _
end Go.Proofs.YtapbmpodimdkpaaDoor
