/- Busbars: EmptyDeeds, of the model. -/
import Derived.Test.YtafgfhjlkdjngaaDoorBrB
import Derived.Test.YtafgfhjlkdjngaaDoorBrC
namespace Go.Proofs.YtafgfhjlkdjngaaDoor
open Go.ChangeShapes Go.WideShapes Go.ChangeAt Go.RowKit

theorem mov_bound (b : BB) (bay bar : Int) : ∀ z ∈ movF b bay bar, 0 ≤ z ∧ z ≤ 30 := by
  intro z hz
  rw [movF] at hz
  split at hz
  · rename_i h
    simp only [movB, inB, Bool.and_eq_true, decide_eq_true_eq] at h
    have := brs_len h.1.1.1
    simp only [List.mem_append, List.mem_singleton] at hz
    rcases hz with ((hz | hz) | hz) | hz
    · split at hz
      · simp at hz
      · simp at hz; omega
    · split at hz
      · simp at hz
      · simp at hz; omega
    · omega
    · split at hz
      · simp at hz
      · simp at hz; omega
  · simp at hz
set_option maxRecDepth 100000 in
set_option maxHeartbeats 8000000 in
theorem specEmptyDeeds_any (A : Option Addr) (n c : Nat) (ss : List Int) (cp : Bool) (bar : Int) (w : World) (hn : n ≤ 1048576) (hr : RowZ w A n ss) :
    Calls Tryd.prog 55 #[.agg #[.slice A n c, .bool cp], .int .i64 bar] w fun e w' => ∃ v, e = .returned v ∧ OwnI 3 w' w.heap.size v (empF (ss, cp) bar) ∧ Below w.heap.size w w' := by
  have HR := Lib.hid hr
  have HL := Lib.hid hr.len
  clear hr
  by_cases hok : brsOk (ss, cp) = true
  rotate_left
  · rw [Bool.not_eq_true] at hok
    have HF := Lib.hid (show empF (ss, cp) bar = [] by rw [empF, if_neg (by rw [empB, hok]; simp)])
    go_enter Tryd.func55, Tryd.ntmps55
    have b0 : Below w.heap.size w ((w.alloc (.cells #[.slice A n c, .bool cp] 25)).alloc (.cells #[] 3)) := (below_bx w _).alloc (by simp) _
    have O0 := Lib.hid (ownLitR (w.alloc (.cells #[.slice A n c, .bool cp] 25)))
    obtain ⟨p0, p1, -⟩ := ((IsBlk.new w 25 #[.slice A n c, .bool cp]).alloc (.cells #[] 3)).two
    go_wp2_with fail
    refine (specBarsValid_any _ n c ss _ _ hn (HR.out.below b0)).mono ?_
    rintro e w1 ⟨rfl, hb1⟩
    rw [hok]
    go_wp2
    go_ret
    exact ⟨_, rfl, by rw [HF.out]; have := OwnI.keep O0.out hb1; exact OwnI.moreR (by simpa using this) (by simp), b0.trans (hb1.mono b0.size)⟩
  have hlb : 1 ≤ n ∧ n ≤ 6 := by have := brs_len hok; rw [← HL.out]; exact this
  obtain ⟨hn1, hn6⟩ := hlb
  have S0 := Lib.hid (show EmSt w ((w.alloc (.cells #[.slice A n c, .bool cp] 25)).alloc (.cells #[] 3)) A n c (ss, cp) (.slice (some ⟨w.heap.size + 1, 0, none⟩) 0 0) [] from ⟨by have := ownLitR (w.alloc (.cells #[.slice A n c, .bool cp] 25)); simpa using this, (below_bx w _).alloc (by simp) _, (IsBlk.new w _ _).alloc _, HR.out.below ((below_bx w _).alloc (by simp) _), fun b off e => by
    obtain ⟨b', off', e', hb', _⟩ := HR.out.2 (by omega)
    rw [e'] at e; injection e with e; injection e with e
    refine ⟨by omega, by simp; omega, by simp [Value.ownBlock]; omega⟩⟩)
  by_cases hbar : inB bar 1 2 = true
  rotate_left
  · rw [Bool.not_eq_true] at hbar
    have HF := Lib.hid (show empF (ss, cp) bar = [] by rw [empF, if_neg (by rw [empB, hbar]; simp)])
    go_enter Tryd.func55, Tryd.ntmps55
    obtain ⟨p0, p1, -⟩ := S0.out.cur.two
    go_wp2_with fail
    refine (specBarsValid_any _ n c ss _ _ hn (HR.out.below S0.out.bel)).mono ?_
    rintro e w1 ⟨rfl, hb1⟩
    rw [hok]
    have S1 := Lib.hid (S0.out.next hb1)
    go_wp2_with fail
    refine (l1In_any _ _ _ _).mono ?_
    rintro e w' ⟨rfl, rfl⟩
    rw [hbar]
    go_wp2
    go_ret
    exact ⟨_, rfl, by rw [HF.out]; exact OwnI.moreR S1.out.own (by omega), S1.out.bel⟩
  have HOK := Lib.hid hok
  have HE := Lib.hid (show empF (ss, cp) bar = (empN (ss, cp) bar n).2 by rw [empF, if_pos (by rw [empB, hok, hbar]; rfl)]; simp only; rw [HL.out])
  have hb1 : (1 : Int) ≤ bar ∧ bar ≤ 2 := by simp only [inB, Bool.and_eq_true, decide_eq_true_eq] at hbar; exact hbar
  obtain ⟨hba, hbb⟩ := hb1
  go_enter Tryd.func55, Tryd.ntmps55
  obtain ⟨p0, p1, -⟩ := S0.out.cur.two
  go_wp2_with fail
  refine (specBarsValid_any _ n c ss _ _ hn (HR.out.below S0.out.bel)).mono ?_
  rintro e w1 ⟨rfl, hb1⟩
  rw [hok]
  have S1 := Lib.hid (S0.out.next hb1)
  clear S0 p0 p1 hb1 hok
  go_wp2_with fail
  refine (l1In_any _ _ _ _).mono ?_
  rintro e w' ⟨rfl, rfl⟩
  rw [hbar]
  obtain ⟨p0, p1, -⟩ := S1.out.cur.two
  clear hbar
  go_wp2
  clear p0 p1
  go_loopw [5, 6] (fun v i wr => ∃ (k : Nat) (A1 : Option Addr) (c1 : Nat), k ≤ n ∧ i = .int .i64 k ∧ EmSt w wr A1 n c1 (empN (ss, cp) bar k).1 v (empN (ss, cp) bar k).2) (fun _ i _ => n - (intOf i).toNat)
  case atStart => exact ⟨0, A, c, by omega, rfl, S1.out⟩
  case round =>
    obtain ⟨k, A1, c1, hk, rfl, hst⟩ := hrel
    have SK := Lib.hid hst
    have hxok := emp_ok bar HOK.out k
    have hxl : (empN (ss, cp) bar k).1.1.length = n := (emp_len (ss, cp) bar k).trans HL.out
    have hle := emp_le (ss, cp) bar k
    clear hst S1
    by_cases hlt : k < n
    · have HSTEP := Lib.hid (emp_stepR (ss, cp) bar k)
      generalize empN (ss, cp) bar k = X at *
      obtain ⟨⟨x0, x1⟩, ds⟩ := X
      dsimp only at hxok hxl hle SK HSTEP
      have hml := mov_le (x0, x1) k (3 - bar)
      have HXOK := Lib.hid hxok
      have HXL := Lib.hid hxl
      have HBR := Lib.hid (show brF (x0, x1) (movF (x0, x1) k (3 - bar)) = runR (x0, x1) (movF (x0, x1) k (3 - bar)) by rw [brF, if_pos hxok])
      have hrl : (runR (x0, x1) (movF (x0, x1) k (3 - bar))).1.1.length = n := (run_lenR _ _).trans hxl
      have HRL := Lib.hid hrl
      clear hxok hxl hrl
      obtain ⟨Al, cl, hvl⟩ := OwnI.shape SK.out.own
      subst hvl
      obtain ⟨p0, p1, f0, f1⟩ := SK.out.cur.two
      have HDS := Lib.hid (show ds.length ≤ 24 by omega)
      have HMV := Lib.hid hml
      clear hle hml
      have HMB := Lib.hid (mov_bound (x0, x1) k (3 - bar))
      go_wp2_with fail
      refine (specMoveDeeds_any A1 n c1 x0 x1 k (3 - bar) _ hn SK.out.row).mono ?_
      rintro e w5 ⟨v, rfl, hO, hb5⟩
      have S5 := Lib.hid (SK.out.next hb5)
      have hw5 := hb5.size
      have hwr : w.heap.size < wr.heap.size := SK.out.cur.lt
      clear SK p0 p1 f0 f1 hb5
      generalize movF (x0, x1) k (3 - bar) = mv at *
      obtain ⟨Am, cm, hvm⟩ := OwnI.shape hO
      subst hvm
      have O5 := Lib.hid hO
      clear hO
      obtain ⟨p0, p1, f0, f1⟩ := S5.out.cur.two
      go_wp2_with fail
      refine (specBarsRun_any A1 n c1 x0 x1 Am mv.length cm mv _ hn S5.out.row (by have := HMV.out; omega) (OwnI.rowZ O5.out) (fun z hz => by have := HMB.out z hz; omega)).mono ?_
      rintro e w6 ⟨v2, rfl, hO, hb6⟩
      rw [HBR.out] at *
      have S6 := Lib.hid (S5.out.next hb6)
      have O6 := Lib.hid (OwnI.keep O5.out hb6)
      have hw6 := hb6.size
      have HOW := Lib.hid (fun q hq => (OwnI.lt S5.out.own q hq).2)
      have hws : w.heap.size < w5.heap.size := S5.out.cur.lt
      clear p0 p1 f0 f1 hb6 S5 O5
      obtain ⟨A2, c2, hv2⟩ := OwnI.shape hO
      subst hv2
      rw [HRL.out] at hO ⊢
      dsimp only [vR]
      have S6A := Lib.hid (S6.out.next (below_bx w6 (.cells #[.slice A2 n c2, .bool (runR (x0, x1) mv).1.2] 25)))
      have hOA := OwnI.alloc hO (.cells #[.slice A2 n c2, .bool (runR (x0, x1) mv).1.2] 25)
      have O6A := Lib.hid (OwnI.alloc O6.out (.cells #[.slice A2 n c2, .bool (runR (x0, x1) mv).1.2] 25))
      obtain ⟨p0, p1, f0, f1⟩ := S6A.out.cur.two
      have S7 := Lib.hid (S6A.out.put (y := (runR (x0, x1) mv).1) hOA hws HOW.out)
      have O7 := Lib.hid (OwnI.ret2 (g := w.heap.size) O6A.out (fun q hq => by have := (OwnI.lt O6A.out q hq).1; omega) (.slice A2 n c2) (.bool (runR (x0, x1) mv).1.2))
      clear hO hOA S6 O6 S6A O6A HOW
      go_upto_region 10 with fail
      generalize ((w6.alloc (.cells #[.slice A2 n c2, .bool (runR (x0, x1) mv).1.2] 25)).setCell ⟨w.heap.size, 0, none⟩ (.slice A2 n c2)).setCell ⟨w.heap.size, 1, none⟩ (.bool (runR (x0, x1) mv).1.2) = w7 at *
      clear p0 p1 f0 f1
      go_wp2_with (
        at_builtin
        refine wpList_append_lists rfl (.tmp 39) (.tmp 40) rfl (w.heap.size + 1) _ _ _ ds mv rfl rfl S7.out.own O7.out ?c1 ?c2 ?_
        case c1 => have := S7.out.cur.lt; omega
        case c2 => have := HDS.out; have := HMV.out; omega
        intro v3 w8 hown hgrow hat
        have S8 := Lib.hid (S7.out.push hown hgrow hat))
      go_roundw
      case rel => exact ⟨k + 1, A2, c2, by omega, by go_num, by rw [HSTEP.out]; exact S8.out⟩
      case measure => simp [intOf]; omega
    · obtain rfl : k = n := by omega
      obtain ⟨Al, cl, hvl⟩ := OwnI.shape SK.out.own
      subst hvl
      obtain ⟨p0, p1, -⟩ := SK.out.cur.two
      go_wp2
      go_ret
      exact ⟨_, rfl, by rw [HE.out]; exact OwnI.moreR SK.out.own (by omega), SK.out.bel⟩
end Go.Proofs.YtafgfhjlkdjngaaDoor
