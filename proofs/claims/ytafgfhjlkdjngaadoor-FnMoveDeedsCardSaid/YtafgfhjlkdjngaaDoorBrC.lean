/- Busbars: EmptyDeeds, of the program. -/
import Derived.Test.YtafgfhjlkdjngaaDoorBr7
import Derived.Deep.Upon
import Derived.Maps.AppendAt
import Derived.RegionTactic
namespace Go.Proofs.YtafgfhjlkdjngaaDoor
open Go.ChangeShapes Go.WideShapes Go.ChangeAt Go.RowKit

/-- append of one slice of numbers to another one, both of the call's own; nothing may be appended. -/
theorem wpList_append_lists {ops : Array Oper} {rest : List Oper} {o : Oper} {a : Act} {w : World} {Q : Exit → Act → World → Prop} (hgd : o.guard = none) (s x : Operand)
    (ho : o.op = .call { callee := .builtin .append, args := #[s, x], argTypes := #[23, 23] })
    (base B : Nat) (v u : Value) (zs ys : List Int) (hs : a.eval s = v) (hx : a.eval x = u) (hv : OwnI 3 w base v zs) (hy : OwnI 3 w B u ys) (hb : base ≤ w.heap.size) (hl : zs.length + ys.length ≤ 1000)
    (h : ∀ v' w', OwnI 3 w' base v' (zs ++ ys) → w.grownBy w' v.ownBlock → (v'.ownBlock = v.ownBlock ∨ v'.ownBlock = some w.heap.size) → wpList Tryd.prog ops Q rest (a.put o.dst v') w') : wpList Tryd.prog ops Q (o :: rest) a w := by
  obtain ⟨i0, hi, hz0, hz1, hz2⟩ := info_parts intInfo6
  have hu : Tryd.prog.underlying 23 = some (.slice 3) := Tryd.underlying23
  rcases hy.2 with ⟨rfl, h0⟩ | ⟨g, cap, cur, rfl, hbg, hg, hn, hc, hsz, ht⟩
  · obtain rfl : ys = [] := List.eq_nil_of_length_eq_zero h0
    have hle : ∃ A n c, v = .slice A n c ∧ n ≤ c := by
      rcases hv.2 with ⟨rfl, _⟩ | ⟨g, cap, cur, rfl, _, _, hn, _⟩
      · exact ⟨_, _, _, rfl, Nat.le_refl _⟩
      · exact ⟨_, _, _, rfl, hn⟩
    obtain ⟨A, n, c, rfl, hle⟩ := hle
    refine wpList_plain hgd fun K hK => ?_
    have hrun := run_append_nothing (P := Tryd.prog) w 23 23 o.type 3 i0 hu hi A n c hle (.slice none 0 0) (Src.ofNil w hu 0)
    unfold Oper.wp execOp
    simp only [ho, resolve, invoke, builtin, Sem.run_bind, Sem.run_pure, Result.andThen_ok, List.map_toArray, List.map_cons, List.map_nil, hs, hx, hrun]
    exact hK _ _ (h _ _ (by simpa using hv) (World.grownBy.refl _ _) (.inl rfl))
  · have hk : IsBlk w g 3 cur := hg
    refine wpList_append_own_at w hgd s x 23 ho base 3 i0 (.int .i64 0) 1 8 hu hi hz0 hz1 hz2 rfl (by decide) v _ _ hs hv ⟨g, 0, none⟩ ys.length cap (ys.map (Value.int .i64)) hx (by simp) (fun j y hj => ?_) (fun y hy => by obtain ⟨_, _, rfl⟩ := List.mem_map.1 hy; rfl) (by simp only [maxLen]; omega) (by omega) hb ?_
    · have hjl : j < ys.length := by have := (List.getElem?_eq_some_iff.1 hj).1; simpa using this
      have ha : (⟨g, 0, none⟩ : Addr).add j = ⟨g, 0 + j, none⟩ := by unfold Addr.add; split <;> simp_all
      rw [ha, Nat.zero_add, hk.cell, ← Array.getElem?_toList]
      rw [← ht, List.getElem?_take_of_lt (by omega)] at hj
      exact hj
    · intro v' w' hown hgrow _ hat
      exact h v' w' (by simpa [OwnI] using hown) hgrow hat

/-- Bars that change in a box, beside a list of deeds in the making. -/
structure EmSt (w wr : World) (A : Option Addr) (n c : Nat) (x : BB) (v : Value) (ds : List Int) : Prop where
  own : OwnI 3 wr (w.heap.size + 1) v ds
  bel : Below w.heap.size w wr
  cur : IsBlk wr w.heap.size 25 #[.slice A n c, .bool x.2]
  row : RowZ wr A n x.1
  ne : ∀ b off, A = some ⟨b, off, none⟩ → b ≠ w.heap.size ∧ b < wr.heap.size ∧ v.ownBlock ≠ some b
section
variable {w wr w' : World} {A A' : Option Addr} {n c c' : Nat} {x y : BB} {v v' : Value} {ds ds' : List Int}
theorem EmSt.next (h : EmSt w wr A n c x v ds) (hb : Below wr.heap.size wr w') : EmSt w w' A n c x v ds :=
  ⟨OwnI.keep h.own hb, h.bel.trans (hb.mono h.bel.size), h.cur.keep hb, h.row.below hb, fun b off e => ⟨(h.ne b off e).1, Nat.lt_of_lt_of_le (h.ne b off e).2.1 hb.size, (h.ne b off e).2.2⟩⟩
theorem RowZ.far2 (h : RowZ wr A n ds) {g : Nat} (hne : ∀ b off, A = some ⟨b, off, none⟩ → b ≠ g) (a b : Value) : RowZ ((wr.setCell ⟨g, 0, none⟩ a).setCell ⟨g, 1, none⟩ b) A n ds :=
  RowV.grown (RowV.grown h (grown_put _ g 0 _) (fun b off e e2 => hne b off e (by injection e2 with e2; exact e2.symm))) (grown_put _ g 1 _) (fun b off e e2 => hne b off e (by injection e2 with e2; exact e2.symm))
theorem EmSt.put (h : EmSt w wr A n c x v ds) {B : Nat} (ho : OwnI 3 wr B (.slice A' n c') y.1) (hB : w.heap.size < B) (hv : ∀ q, v.ownBlock = some q → q < B) : EmSt w ((wr.setCell ⟨w.heap.size, 0, none⟩ (.slice A' n c')).setCell ⟨w.heap.size, 1, none⟩ (.bool y.2)) A' n c' y v ds := by
  have hg : ∀ b off, A' = some ⟨b, off, none⟩ → B ≤ b ∧ b < wr.heap.size := fun b off e => by
    have := OwnI.lt ho b (by rw [e]; rfl)
    exact this
  refine ⟨OwnI.ret2 h.own (fun q hq => by have := (OwnI.lt h.own q hq).1; omega) _ _, below_two h.bel (Nat.le_refl _) _ _, h.cur.put2 _ _, RowZ.far2 (OwnI.rowZ ho) (fun b off e => by have := hg b off e; omega) _ _, fun b off e => ?_⟩
  have h1 := hg b off e
  refine ⟨by omega, by simpa [World.setCell] using h1.2, fun e2 => by have := hv b e2; omega⟩
theorem EmSt.push (h : EmSt w wr A n c x v ds) (hv : OwnI 3 w' (w.heap.size + 1) v' ds') (hg : wr.grownBy w' v.ownBlock) (hat : v'.ownBlock = v.ownBlock ∨ v'.ownBlock = some wr.heap.size) : EmSt w w' A n c x v' ds' :=
  ⟨hv, h.bel.grown hg h.bel.size (fun q hq => by have := (OwnI.lt h.own q hq).1; omega), h.cur.farG hg (fun e => by have := (OwnI.lt h.own _ e).1; omega), RowV.grown h.row hg (fun b off e => (h.ne b off e).2.2),
    fun b off e => ⟨(h.ne b off e).1, Nat.lt_of_lt_of_le (h.ne b off e).2.1 hg.size, fun e2 => by
      rcases hat with h1 | h1
      · exact (h.ne b off e).2.2 (h1 ▸ e2)
      · rw [h1] at e2; injection e2 with e2; have := (h.ne b off e).2.1; omega⟩⟩
end
theorem emp_stepR (b : BB) (bar : Int) (k : Nat) : empN b bar (k + 1) = ((runR (empN b bar k).1 (movF (empN b bar k).1 k (3 - bar))).1, (empN b bar k).2 ++ movF (empN b bar k).1 k (3 - bar)) := rfl

set_option maxRecDepth 100000 in
set_option maxHeartbeats 8000000 in
theorem emptyDeeds_any (A : Option Addr) (n c : Nat) (ss : List Int) (cp : Bool) (bar : Int) (w : World) (hn : n ≤ 1048576) (hr : RowZ w A n ss) :
    Calls Tryd.prog 54 #[.agg #[.slice A n c, .bool cp], .int .i64 bar] w fun e w' => ∃ v, e = .returned v ∧ OwnI 3 w' w.heap.size v (empF (ss, cp) bar) ∧ Below w.heap.size w w' := by
  have HR := Lib.hid hr
  have HL := Lib.hid hr.len
  clear hr
  by_cases hok : brsOk (ss, cp) = true
  rotate_left
  · rw [Bool.not_eq_true] at hok
    have HF := Lib.hid (show empF (ss, cp) bar = [] by rw [empF, if_neg (by rw [empB, hok]; simp)])
    go_enter Tryd.func54, Tryd.ntmps54
    obtain ⟨p0, p1, -⟩ := (IsBlk.new w 25 #[.slice A n c, .bool cp]).two
    go_wp2_with fail
    refine (barsValid_any _ n c ss _ _ hn (HR.out.below (below_bx w _))).mono ?_
    rintro e w1 ⟨rfl, hb1⟩
    rw [hok]
    go_wp2
    go_ret
    exact ⟨_, rfl, by rw [HF.out]; exact OwnI.nil, (below_bx w _).trans (hb1.mono (by simp))⟩
  have hlb : 1 ≤ n ∧ n ≤ 6 := by have := brs_len hok; rw [← HL.out]; exact this
  obtain ⟨hn1, hn6⟩ := hlb
  have S0 := Lib.hid (show EmSt w (w.alloc (.cells #[.slice A n c, .bool cp] 25)) A n c (ss, cp) (.slice none 0 0) [] from ⟨OwnI.nil, below_bx w _, IsBlk.new w _ _, HR.out.below (below_bx w _), fun b off e => by
    obtain ⟨b', off', e', hb', _⟩ := HR.out.2 (by omega)
    rw [e'] at e; injection e with e; injection e with e
    refine ⟨by omega, by simp; omega, by simp [Value.ownBlock]⟩⟩)
  by_cases hbar : inB bar 1 2 = true
  rotate_left
  · rw [Bool.not_eq_true] at hbar
    have HF := Lib.hid (show empF (ss, cp) bar = [] by rw [empF, if_neg (by rw [empB, hbar]; simp)])
    go_enter Tryd.func54, Tryd.ntmps54
    obtain ⟨p0, p1, -⟩ := S0.out.cur.two
    go_wp2_with fail
    refine (barsValid_any _ n c ss _ _ hn (HR.out.below S0.out.bel)).mono ?_
    rintro e w1 ⟨rfl, hb1⟩
    rw [hok]
    have S1 := Lib.hid (S0.out.next hb1)
    go_wp2_with fail
    refine (within_any _ _ _ _).mono ?_
    rintro e w' ⟨rfl, rfl⟩
    rw [hbar]
    go_wp2
    go_ret
    exact ⟨_, rfl, by rw [HF.out]; exact OwnI.nil, S1.out.bel⟩
  have HOK := Lib.hid hok
  have HE := Lib.hid (show empF (ss, cp) bar = (empN (ss, cp) bar n).2 by rw [empF, if_pos (by rw [empB, hok, hbar]; rfl)]; simp only; rw [HL.out])
  have hb1 : (1 : Int) ≤ bar ∧ bar ≤ 2 := by simp only [inB, Bool.and_eq_true, decide_eq_true_eq] at hbar; exact hbar
  obtain ⟨hba, hbb⟩ := hb1
  go_enter Tryd.func54, Tryd.ntmps54
  obtain ⟨p0, p1, -⟩ := S0.out.cur.two
  go_wp2_with fail
  refine (barsValid_any _ n c ss _ _ hn (HR.out.below S0.out.bel)).mono ?_
  rintro e w1 ⟨rfl, hb1⟩
  rw [hok]
  have S1 := Lib.hid (S0.out.next hb1)
  clear S0 p0 p1 hb1 hok
  go_wp2_with fail
  refine (within_any _ _ _ _).mono ?_
  rintro e w' ⟨rfl, rfl⟩
  rw [hbar]
  obtain ⟨p0, p1, -⟩ := S1.out.cur.two
  clear hbar
  go_wp2
  clear p0 p1
  go_loopw [5, 19] (fun v i wr => ∃ (k : Nat) (A1 : Option Addr) (c1 : Nat), k ≤ n ∧ i = .int .i64 k ∧ EmSt w wr A1 n c1 (empN (ss, cp) bar k).1 v (empN (ss, cp) bar k).2) (fun _ i _ => n - (intOf i).toNat)
  case atStart => exact ⟨0, A, c, by omega, rfl, S1.out⟩
  case round =>
    obtain ⟨k, A1, c1, hk, rfl, hst⟩ := hrel
    have SK := Lib.hid hst
    have hxok := emp_ok bar HOK.out k
    have hxl : (empN (ss, cp) bar k).1.1.length = n := (emp_len (ss, cp) bar k).trans HL.out
    have hle := emp_le (ss, cp) bar k
    clear hst S1
    by_cases hlt : k < n
    · have HSTEP := Lib.hid (emp_stepR (ss, cp) bar k)
      generalize empN (ss, cp) bar k = X at *
      obtain ⟨⟨x0, x1⟩, ds⟩ := X
      dsimp only at hxok hxl hle SK HSTEP
      have hml := mov_le (x0, x1) k (3 - bar)
      have HXOK := Lib.hid hxok
      have HXL := Lib.hid hxl
      have HBR := Lib.hid (show brF (x0, x1) (movF (x0, x1) k (3 - bar)) = runR (x0, x1) (movF (x0, x1) k (3 - bar)) by rw [brF, if_pos hxok])
      have hrl : (runR (x0, x1) (movF (x0, x1) k (3 - bar))).1.1.length = n := (run_lenR _ _).trans hxl
      have HRL := Lib.hid hrl
      clear hxok hxl hrl
      obtain ⟨Al, cl, hvl⟩ := OwnI.shape SK.out.own
      subst hvl
      obtain ⟨p0, p1, f0, f1⟩ := SK.out.cur.two
      have HDS := Lib.hid (show ds.length ≤ 24 by omega)
      have HMV := Lib.hid hml
      clear hle hml
      go_upto_region 7 with fail
      go_cut [7] from 22 to 26 (fun v wx => OwnI 3 wx wr.heap.size v (movF (x0, x1) k (3 - bar)) ∧ Below wr.heap.size wr wx)
      case first =>
        go_region_with (first
          | (go_at_call 95; refine (otherBar_any bar (by omega) (by omega) _).mono ?_; rintro e w' ⟨rfl, rfl⟩)
          | (go_at_call 51; refine (moveDeeds_any A1 n c1 x0 x1 k (3 - bar) _ hn (by exact SK.out.row.below (Below.refl _ _).drew)).mono ?_; rintro e w5 ⟨v, rfl, hO, hb5⟩))
        all_goals go_wp2_with fail
        all_goals go_meet
        all_goals exact ⟨hO, ((Below.refl wr.heap.size wr).drew).trans hb5⟩
      case rest =>
        obtain ⟨hO, hb5⟩ := hcut
        rename World => w5
        have S5 := Lib.hid (SK.out.next hb5)
        have hw5 := hb5.size
        have hwr : w.heap.size < wr.heap.size := SK.out.cur.lt
        clear SK p0 p1 f0 f1 hb5
        generalize movF (x0, x1) k (3 - bar) = mv at *
        obtain ⟨Am, cm, hvm⟩ := OwnI.shape hO
        subst hvm
        have O5 := Lib.hid hO
        clear hO
        obtain ⟨p0, p1, f0, f1⟩ := S5.out.cur.two
        go_wp2_with fail
        refine (barsRun_any A1 n c1 x0 x1 Am mv.length cm mv _ hn S5.out.row (by have := HMV.out; omega) (OwnI.rowZ O5.out)).mono ?_
        rintro e w6 ⟨v2, rfl, hO, hb6⟩
        rw [HBR.out] at *
        have S6 := Lib.hid (S5.out.next hb6)
        have O6 := Lib.hid (OwnI.keep O5.out hb6)
        have hw6 := hb6.size
        have HOW := Lib.hid (fun q hq => (OwnI.lt S5.out.own q hq).2)
        have hws : w.heap.size < w5.heap.size := S5.out.cur.lt
        clear p0 p1 f0 f1 hb6 S5 O5
        obtain ⟨A2, c2, hv2⟩ := OwnI.shape hO
        subst hv2
        rw [HRL.out] at hO ⊢
        dsimp only [vR]
        obtain ⟨p0, p1, f0, f1⟩ := S6.out.cur.two
        have S7 := Lib.hid (S6.out.put (y := (runR (x0, x1) mv).1) hO hws HOW.out)
        have O7 := Lib.hid (OwnI.ret2 (g := w.heap.size) O6.out (fun q hq => by have := (OwnI.lt O6.out q hq).1; omega) (.slice A2 n c2) (.bool (runR (x0, x1) mv).1.2))
        clear hO S6 O6 HOW
        go_upto_region 9 with fail
        generalize (w6.setCell ⟨w.heap.size, 0, none⟩ (.slice A2 n c2)).setCell ⟨w.heap.size, 1, none⟩ (.bool (runR (x0, x1) mv).1.2) = w7 at *
        clear p0 p1 f0 f1
        go_wp2_with (
          at_builtin
          refine wpList_append_lists rfl (.tmp 33) (.tmp 34) rfl (w.heap.size + 1) _ _ _ ds mv rfl rfl S7.out.own O7.out ?c1 ?c2 ?_
          case c1 => have := S7.out.cur.lt; omega
          case c2 => have := HDS.out; have := HMV.out; omega
          intro v3 w8 hown hgrow hat
          have S8 := Lib.hid (S7.out.push hown hgrow hat))
        go_roundw
        case rel => exact ⟨k + 1, A2, c2, by omega, by go_num, by rw [HSTEP.out]; exact S8.out⟩
        case measure => simp [intOf]; omega
    · obtain rfl : k = n := by omega
      obtain ⟨Al, cl, hvl⟩ := OwnI.shape SK.out.own
      subst hvl
      go_wp2
      go_ret
      exact ⟨_, rfl, by rw [HE.out]; exact OwnI.moreR SK.out.own (by omega), SK.out.bel⟩
end Go.Proofs.YtafgfhjlkdjngaaDoor
