/- Busbars: the drawing of bars. -/
import Derived.Test.YtafgfhjlkdjngaaDoorBr9
import Derived.Test.YtafgfhjlkdjngaaDoorD3
import Derived.RegionTactic
namespace Go.Proofs.YtafgfhjlkdjngaaDoor
open Go.ChangeShapes Go.WideShapes Go.ChangeAt Go.RowKit

theorem RowB.allocR {w : World} {A : Option Addr} {n : Nat} {code : List Int} (hr : RowB w A n code) (o : Obj) : RowB (w.alloc o) A n code := by
  refine ⟨hr.1, fun hp => ?_, hr.2.2⟩
  obtain ⟨b, off, e, hlt, hcl⟩ := hr.2.1 hp
  exact ⟨b, off, e, by simp; omega, fun k x hk => by rw [World.cell?_alloc_lt _ _ _ hlt]; exact hcl k x hk⟩
theorem grown_ownR {w0 w w' : World} {R : Nat} {row : Option Nat} (h : w0.grownBy w (some R)) (g : w.grownBy w' row) (hq : ∀ q, row = some q → w0.heap.size ≤ q) : w0.grownBy w' (some R) :=
  ⟨g.os.trans h.os, g.tape.trans h.tape, g.output.trans h.output, Nat.le_trans h.size g.size, fun p hp hne => (g.block p (Nat.lt_of_lt_of_le hp h.size) (fun e => by have := hq p e.symm; omega)).trans (h.block p hp hne)⟩
theorem grown_keepR {w0 w w' : World} {R : Nat} (h : w0.grownBy w (some R)) (hb : Below w.heap.size w w') : w0.grownBy w' (some R) :=
  grown_then h ⟨hb.os, hb.tape, hb.output, hb.size, fun j hj _ => hb.block j hj⟩
/-- Bars in the making: the result's block, the variable's block X, its sides, the reader. -/
structure DrSt (w0 w : World) (R X : Nat) (lim : Int) (t : Bool) (v : Value) (ss : List Int) : Prop where
  ret : IsBlk w w0.heap.size 25 #[.slice none 0 0, .bool false]
  far : w0.heap.size < X
  var : IsBlk w X 25 #[v, .bool t]
  own : OwnI 3 w (X + 1) v ss
  rd : Rd w R lim
  gr : w0.grownBy w (some R)
section
variable {w0 w w' : World} {R X : Nat} {lim lim' : Int} {t : Bool} {v v' : Value} {ss ss' : List Int}
theorem DrSt.pick (hR : R < w0.heap.size) (h : DrSt w0 w R X lim t v ss) (hr : Rd w' R lim') (hg : w.grownBy w' (some R)) : DrSt w0 w' R X lim' t v ss := by
  have hf := h.far
  exact ⟨h.ret.farG hg (fun e => by injection e with e; omega), h.far, h.var.farG hg (fun e => by injection e with e; omega),
    OwnI.far h.own hg (fun q hq e => by injection e with e; have := (OwnI.lt h.own q hq).1; omega), hr, grown_then h.gr hg⟩
theorem DrSt.keep (h : DrSt w0 w R X lim t v ss) (hb : Below w.heap.size w w') : DrSt w0 w' R X lim t v ss :=
  ⟨h.ret.keep hb, h.far, h.var.keep hb, OwnI.keep h.own hb, h.rd.keep hb, grown_keepR h.gr hb⟩
theorem DrSt.drew (h : DrSt w0 w R X lim t v ss) : DrSt w0 w.drew R X lim t v ss := ⟨h.ret, h.far, h.var, h.own, h.rd, h.gr.os, h.gr.tape, h.gr.output, h.gr.size, h.gr.block⟩
theorem DrSt.mono (h : DrSt w0 w R X lim t v ss) (hl : lim ≤ lim') : DrSt w0 w R X lim' t v ss := ⟨h.ret, h.far, h.var, h.own, h.rd.mono hl, h.gr⟩
/-- The sides are another slice now. -/
theorem DrSt.mkS (hR : R < w0.heap.size) (ret : IsBlk w w0.heap.size 25 #[.slice none 0 0, .bool false]) (far : w0.heap.size < X) (var : IsBlk w X 25 #[v, .bool t]) (rd : Rd w R lim) (gr : w0.grownBy w (some R)) (ho : OwnI 3 w (X + 1) v' ss') :
    DrSt w0 (w.setCell ⟨X, 0, none⟩ v') R X lim t v' ss' :=
  ⟨ret.far (p := ⟨X, 0, none⟩) (show w0.heap.size ≠ X by omega) _, far, by have := var.put 0 v'; simpa using this,
    OwnI.far ho (grown_put _ X 0 _) (fun q hq e => by injection e with e; have := (OwnI.lt ho q hq).1; omega), rd.far (by omega) (grown_put _ _ _ _), grown_ownR gr (grown_put _ X 0 _) (fun q e => by injection e with e; omega)⟩
theorem DrSt.set (hR : R < w0.heap.size) (h : DrSt w0 w R X lim t v ss) (ho : OwnI 3 w (X + 1) v' ss') : DrSt w0 (w.setCell ⟨X, 0, none⟩ v') R X lim t v' ss' := DrSt.mkS hR h.ret h.far h.var h.rd h.gr ho
theorem DrSt.push (hR : R < w0.heap.size) (h : DrSt w0 w R X lim t v ss) (o : Obj) (hown : OwnI 3 w' (X + 1) v' ss') (hg : (w.alloc o).grownBy w' v.ownBlock) : DrSt w0 (w'.setCell ⟨X, 0, none⟩ v') R X lim t v' ss' ∧ IsBlk w' X 25 #[v, .bool t] := by
  have hf := h.far
  have hq : ∀ q, v.ownBlock = some q → X + 1 ≤ q := fun q e => (OwnI.lt h.own q e).1
  have hv : IsBlk w' X 25 #[v, .bool t] := (h.var.alloc o).farG hg (fun e => by have := hq _ e; omega)
  exact ⟨DrSt.mkS hR ((h.ret.alloc o).farG hg (fun e => by have := hq _ e; omega)) h.far hv ((h.rd.alloc o).grown hg (fun q e => by have := hq q e; omega)) (grown_ownR (grown_then h.gr (grown_alloc _ _ _)) hg (fun q e => by have := hq q e; omega)) hown, hv⟩
/-- One side is another number now. -/
theorem DrSt.side {g n c k : Nat} {s : Int} (hR : R < w0.heap.size) (h : DrSt w0 w R X lim t (.slice (some ⟨g, 0, none⟩) n c) ss) (hk : ss[k]? = some s) (z : Int) : DrSt w0 (w.setCell ⟨g, k, none⟩ (.int .i64 z)) R X lim t (.slice (some ⟨g, 0, none⟩) n c) (ss.set k z) := by
  have hf := h.far
  have h2 := (OwnI.lt h.own g (by simp [Value.ownBlock])).1
  exact ⟨h.ret.far (p := ⟨g, k, none⟩) (show w0.heap.size ≠ g by omega) _, h.far, h.var.far (p := ⟨g, k, none⟩) (show X ≠ g by omega) _, (OwnI.cellR h.own hk).2.2 z, h.rd.far (by omega) (grown_put _ _ _ _), grown_ownR h.gr (grown_put _ g k _) (fun q e => by injection e with e; omega)⟩
theorem DrSt.coup (hR : R < w0.heap.size) (h : DrSt w0 w R X lim t v ss) (t' : Bool) : DrSt w0 (w.setCell ⟨X, 1, none⟩ (.bool t')) R X lim t' v ss := by
  have hf := h.far
  exact ⟨h.ret.far (p := ⟨X, 1, none⟩) (show w0.heap.size ≠ X by omega) _, h.far, by have := h.var.put 1 (.bool t'); simpa using this,
    OwnI.far h.own (grown_put _ X 1 _) (fun q hq e => by injection e with e; have := (OwnI.lt h.own q hq).1; omega), h.rd.far (by omega) (grown_put _ _ _ _), grown_ownR h.gr (grown_put _ X 1 _) (fun q e => by injection e with e; omega)⟩
theorem DrSt.done (hR : R < w0.heap.size) (h : DrSt w0 w R X lim t v ss) (a b : Value) : OwnI 3 ((w.setCell ⟨w0.heap.size, 0, none⟩ a).setCell ⟨w0.heap.size, 1, none⟩ b) w0.heap.size v ss ∧ Rd ((w.setCell ⟨w0.heap.size, 0, none⟩ a).setCell ⟨w0.heap.size, 1, none⟩ b) R lim ∧ w0.grownBy ((w.setCell ⟨w0.heap.size, 0, none⟩ a).setCell ⟨w0.heap.size, 1, none⟩ b) (some R) := by
  have hf := h.far
  exact ⟨OwnI.ret2 (OwnI.moreR h.own (by omega)) (fun q hq => by have := (OwnI.lt h.own q hq).1; omega) _ _, (h.rd.far hR (grown_put _ _ _ _)).far hR (grown_put _ _ _ _),
    grown_ownR (grown_ownR h.gr (grown_put _ w0.heap.size 0 _) (fun q e => by injection e with e; omega)) (grown_put _ w0.heap.size 1 _) (fun q e => by injection e with e; omega)⟩
end
def litF (j : Nat) : Int := if j = 0 then 0 else if j = 1 then 4 else -1
theorem lit_cell {w : World} {g j : Nat} (h : IsBlk w g 3 #[.int .i64 0, .int .i64 4, .int .i64 (-1)]) (hj : j < 3) : w.cell? ⟨g, j, none⟩ = some (.int .i64 (litF j)) := by
  rw [h.cell]
  rcases j with _ | _ | _ | j <;> first | rfl | omega
theorem grown_undrew {w w' : World} {row : Option Nat} (h : w.drew.grownBy w' row) : w.grownBy w' row := ⟨h.os, h.tape, h.output, h.size, h.block⟩
theorem make7 (w : World) : (Instr.makeSlice 23 (.int .i64 7) (.int .i64 7)).run Tryd.prog w = .ok (.slice (some ⟨w.heap.size, 0, none⟩) 7 7) (w.alloc (.cells (madeCells (Value.int .i64 0).cells 7) 3)) := makeIntsR 7 (by decide) w
theorem own7 (w : World) : OwnI 3 (w.alloc (.cells (madeCells #[.int .i64 0] 7) 3)) w.heap.size (.slice (some ⟨w.heap.size, 0, none⟩) 7 7) (List.replicate 7 0) := by
  refine OwnI.mk_ (by simp) (Nat.le_refl _) (IsBlk.new w _ _) (Nat.le_refl _) (by decide) (size_madeCells _ _) ?_
  rw [toList_madeCells_one]; rfl

set_option linter.unusedSimpArgs false in
set_option maxRecDepth 100000 in
set_option maxHeartbeats 8000000 in
theorem l20Bars_any (R : Nat) (nn lim : Int) (hlim : lim ≤ 900000) (hnn : nn ≤ 1000) (w : World) (hr : Rd w R lim) :
    Calls Tryd.prog 57 #[.pointer (some ⟨R, 0, none⟩), .int .i64 nn] w fun x w' => ∃ A n c ss t, x = .returned (.agg #[.slice A n c, .bool t]) ∧ ss.length = n ∧ 1 ≤ n ∧ n ≤ 7 ∧ OwnI 3 w' w.heap.size (.slice A n c) ss ∧ Rd w' R (lim + 30) ∧ w.grownBy w' (some R) := by
  obtain ⟨i0, hi, hz0, hz1, hz2⟩ := info_parts intInfo6
  have HI := Lib.hid hi
  have hR := hr.lt
  have K0 := Lib.hid (IsBlk.new w 25 #[.slice none 0 0, .bool false])
  clear hi
  go_enter Tryd.func57, Tryd.ntmps57
  go_wp2_with fail
  refine (pick_any R 2 lim (by omega) (by decide) _ (hr.alloc _)).mono ?_
  rintro x w1 ⟨v1, rfl, hv0, hv1, _, hr1, hg1⟩
  have hs1 : w.heap.size < w1.heap.size := by have := hg1.size; simp at this; omega
  have ht0 : ∃ t, t = (v1 == 0) := ⟨_, rfl⟩
  obtain ⟨t, ht⟩ := ht0
  have S1 := Lib.hid (show DrSt w (w1.alloc (.cells #[.slice none 0 0, .bool t] 25)) R w1.heap.size (lim + 1) t (.slice none 0 0) [] from
    ⟨(K0.out.farG hg1 (fun e => by injection e with e; omega)).alloc _, hs1, IsBlk.new w1 _ _, OwnI.nil, hr1.alloc _, grown_then (grown_then (grown_alloc _ _ _) hg1) (grown_alloc _ _ _)⟩)
  rw [ht] at S1
  clear hr hr1 hg1 K0 hv0 hv1 ht
  go_upto_region 2 with fail
  generalize hX : w1.heap.size = X at *
  generalize (v1 == 0) = t at *
  generalize w1.alloc (.cells #[.slice none 0 0, .bool t] 25) = w2 at *
  clear hX
  go_wp2_with fail
  refine (pick_any R 6 _ (by omega) (by decide) _ S1.out.rd).mono ?_
  rintro x w3 ⟨v, rfl, hv0, hv1, _, hr3, hg3⟩
  have hv2 : v < 6 := hv1 (by decide)
  obtain ⟨m, rfl⟩ := Int.eq_ofNat_of_zero_le hv0
  have S3 := Lib.hid (S1.out.pick hR hr3 hg3)
  clear S1 hr3 hg3 hv0 hv1
  go_upto_region 3 with fail
  go_wp2
  go_loopw [6] (fun i wr => ∃ (k : Nat) (v : Value) (ss : List Int), i = .int .i64 k ∧ ss.length + k = m + 1 ∧ DrSt w wr R X (lim + 20 - 2 * k) t v ss) (fun i _ => (intOf i).toNat)
  case atStart => exact ⟨m + 1, _, [], by go_num, by simp, S3.out.mono (by omega)⟩
  case round =>
    obtain ⟨k, v, ss, rfl, hk, hst⟩ := hrel
    have SK := Lib.hid hst
    clear hst S3
    by_cases hlt : 0 < k
    · have hk0 : (0 : Int) < (k : Int) := by omega
      go_wp2_with fail
      refine (pick_any R 2 _ (by omega) (by decide) _ SK.out.rd).mono ?_
      rintro x w4 ⟨a, rfl, ha0, ha1, _, hr4, hg4⟩
      have ha2 : a < 2 := ha1 (by decide)
      have S4 := Lib.hid (SK.out.pick hR hr4 hg4)
      clear SK hr4 hg4 ha1
      obtain ⟨p0, p1, -⟩ := S4.out.var.two
      go_upto_region 6 with fail
      go_cut [28] from 22 to 27 (fun u wx => ∃ bb : Bool, u = .bool bb ∧ DrSt w wx R X (lim + 20 - 2 * (k - 1 : Nat)) t v ss)
      case first =>
        cases t
        · go_wp2_with fail
          go_meet
          exact ⟨_, rfl, S4.out.mono (by omega)⟩
        · go_wp2_with fail
          refine (pick_any R 4 _ (by omega) (by decide) _ S4.out.rd).mono ?_
          rintro x w5 ⟨b, rfl, hb0, hb1, _, hr5, hg5⟩
          have S5 := Lib.hid (S4.out.pick hR hr5 hg5)
          by_cases hb : b = 0
          · subst hb
            go_wp2_with fail
            go_meet
            exact ⟨_, rfl, S5.out.mono (by omega)⟩
          · have hbf : (b == 0) = false := by simpa using hb
            go_wp2_with fail
            go_meet
            exact ⟨_, rfl, S5.out.mono (by omega)⟩
      case rest =>
        obtain ⟨bb, rfl, hst⟩ := hcut
        rename World => w5
        have S5 := Lib.hid hst
        clear S4 hst p0 p1
        obtain ⟨Av, cv, hv⟩ := OwnI.shape S5.out.own
        subst hv
        obtain ⟨p0, p1, -⟩ := S5.out.var.two
        have hws : X < w5.heap.size := S5.out.var.lt
        have hsl : ss.length ≤ 6 := by omega
        cases bb
        · skip
          go_wp2_with (
            at_builtin
            refine wpList_append_own _ rfl _ _ _ rfl (X + 1) 3 i0 (.int .i64 0) 1 8 Tryd.underlying23 HI.out hz0 hz1 hz2 rfl (by decide) _ _ _ rfl (World.ownsRow.alloc S5.out.own _) ⟨w5.heap.size, 0, none⟩ 1 1 [.int .i64 (1 + a)] rfl rfl ?c1 ?c2 ?c3 ?c4 ?c5 ?_
            case c1 => exact cell_one_new _ _ _
            case c2 => intro u hu; simp at hu; subst hu; rfl
            case c3 => simp only [maxLen]; omega
            case c4 => omega
            case c5 => simp; omega
            intro v' w6 hown' hgrow _
            have SP := Lib.hid (S5.out.push (ss' := ss ++ [1 + a]) hR (.cells #[.int .i64 (1 + a)] 3) (by simpa [OwnI] using hown') hgrow)
            obtain ⟨q0, q1, f0, f1⟩ := SP.out.2.two
            obtain ⟨Aw, cw, hvw⟩ := OwnI.shape SP.out.1.own
            subst hvw)
          go_roundw
          case rel => exact ⟨k - 1, .slice Aw (ss.length + 1) cw, ss ++ [1 + a], by go_num, by simp; omega, by simpa using SP.out.1⟩
          case measure => simp [intOf]; omega
        · skip
          go_wp2_with (
            at_builtin
            refine wpList_append_own _ rfl _ _ _ rfl (X + 1) 3 i0 (.int .i64 0) 1 8 Tryd.underlying23 HI.out hz0 hz1 hz2 rfl (by decide) _ _ _ rfl (World.ownsRow.alloc S5.out.own _) ⟨w5.heap.size, 0, none⟩ 1 1 [.int .i64 (3)] rfl rfl ?c1 ?c2 ?c3 ?c4 ?c5 ?_
            case c1 => exact cell_one_new _ _ _
            case c2 => intro u hu; simp at hu; subst hu; rfl
            case c3 => simp only [maxLen]; omega
            case c4 => omega
            case c5 => simp; omega
            intro v' w6 hown' hgrow _
            have SP := Lib.hid (S5.out.push (ss' := ss ++ [3]) hR (.cells #[.int .i64 (3)] 3) (by simpa [OwnI] using hown') hgrow)
            obtain ⟨q0, q1, f0, f1⟩ := SP.out.2.two
            obtain ⟨Aw, cw, hvw⟩ := OwnI.shape SP.out.1.own
            subst hvw)
          go_roundw
          case rel => exact ⟨k - 1, .slice Aw (ss.length + 1) cw, ss ++ [3], by go_num, by simp; omega, by simpa using SP.out.1⟩
          case measure => simp [intOf]; omega
    · obtain rfl : k = 0 := by omega
      have hlen : 1 ≤ ss.length ∧ ss.length ≤ 6 := by omega
      go_wp2_with fail
      refine (odd_any R nn _ (by omega) (by omega) _ SK.out.rd).mono ?_
      rintro x w4 ⟨od, rfl, _, hr4, hg4⟩
      have S4 := Lib.hid (SK.out.pick hR hr4 hg4)
      clear SK hr4 hg4
      obtain ⟨hl1, hl6⟩ := hlen
      obtain ⟨g, cap, hv, hgX, hgs, hcap⟩ := OwnI.headR S4.out.own (by omega)
      subst hv
      cases od
      · obtain ⟨p0, p1, -⟩ := S4.out.var.two
        obtain ⟨r0, r1, s0, s1⟩ := S4.out.ret.two
        go_wp2
        refine bodyPost_ret (v := .agg #[.slice (some ⟨g, 0, none⟩) ss.length cap, .bool t]) (by simp [results, Tryd.results57, go_sem, r0, r1]) rfl ⟨_, _, _, ss, t, rfl, rfl, hl1, by omega, (S4.out.done hR _ _).1, (S4.out.done hR _ _).2.1.mono (by omega), (S4.out.done hR _ _).2.2⟩
      · go_wp2_with fail
        refine (pick_any R 3 _ (by omega) (by decide) _ S4.out.rd).mono ?_
        rintro x w5 ⟨a, rfl, ha0, ha1, _, hr5, hg5⟩
        have ha2 : a < 3 := ha1 (by decide)
        have S5 := Lib.hid (S4.out.pick hR hr5 hg5)
        clear S4 hr5 hg5 ha1
        have hsz : ss[0]? = some ss[0] := List.getElem?_eq_getElem (by omega)
        have HSZ := Lib.hid hsz
        generalize ss[0] = z0 at HSZ
        obtain ⟨p0, p1, pf0, pf1⟩ := S5.out.var.two
        obtain ⟨d0, f0, -⟩ := OwnI.cellR S5.out.own HSZ.out
        obtain ⟨r0, r1, s0, s1⟩ := S5.out.ret.two
        have hl1' : (0 : Int) < (ss.length : Int) := by omega
        clear hsz
        have hXw : X < w5.heap.size := S5.out.var.lt
        have hRw : R < w5.heap.size := S5.out.rd.lt
        have hww : w.heap.size < w5.heap.size := S5.out.ret.lt
        rcases (show a = 0 ∨ a = 1 ∨ a = 2 by omega) with rfl | rfl | rfl
        · go_upto_region 13 with fail
          · skip
            have q0 : w5.drew.cell? ⟨X, 0, none⟩ = some (.slice (some ⟨g, 0, none⟩) ss.length cap) := p0
            have S5M := Lib.hid (S5.out.mono (show _ ≤ lim + 25 by omega))
            have LITN := Lib.hid (fun (W : World) => IsBlk.new W 3 #[.int .i64 0, .int .i64 4, .int .i64 (-1)])
            have D0 := Lib.hid d0
            have FF0 := Lib.hid f0
            clear d0 f0 r0 r1 s0 s1 pf0 pf1
            go_region_with (
              go_at_call 58
              refine (pick_any R 3 (lim + 25) (by omega) (by decide) _ (by first | exact S5M.out.rd | exact S5M.out.rd.alloc _)).mono ?_
              rintro x w6 ⟨q, rfl, hq0, hq1, _, hr6, hg6⟩
              obtain ⟨j, rfl⟩ := Int.eq_ofNat_of_zero_le hq0
              have hj : j < 3 := by have := hq1 (by decide); omega
              have hj' : (j : Int) < 3 := by omega
              have hlit := fun (W : World) => lit_cell (LITN.out W) hj
              have hg7 := grown_undrew hg6
              (first
                | (have S6 := Lib.hid (S5M.out.pick hR hr6 hg7))
                | (have S6 := Lib.hid ((S5M.out.keep (below_bx w5 _)).pick hR hr6 hg7)
                   have hlb := lit_cell ((LITN.out w5).farG hg7 (fun e => by injection e with e; omega)) hj))
              obtain ⟨t0, t1, -⟩ := S6.out.var.two
              obtain ⟨u0, u1, -⟩ := OwnI.cellR S6.out.own HSZ.out
              have hX6 : X < w6.heap.size := S6.out.var.lt
              have hg9 : g < w6.heap.size := (OwnI.lt S6.out.own g (by simp [Value.ownBlock])).2
              clear hr6 hg6 hg7 hq1)
            all_goals go_upto_region 17 with fail
            all_goals first
              | (have S8 := Lib.hid ((S6.out.side hR HSZ.out (litF j)).mono (show _ ≤ lim + 30 by omega))
                 clear t0 t1 u0 u1
                 obtain ⟨p0', p1', -⟩ := S8.out.var.two
                 obtain ⟨r0, r1, s0, s1⟩ := S8.out.ret.two
                 go_wp2
                 refine bodyPost_ret (v := .agg #[.slice (some ⟨g, 0, none⟩) ss.length cap, .bool t]) (by simp [results, Tryd.results57, go_sem, r0, r1]) rfl ⟨_, _, _, ss.set 0 (litF j), t, rfl, by simp, hl1, by omega, (S8.out.done hR _ _).1, (S8.out.done hR _ _).2.1.mono (by omega), (S8.out.done hR _ _).2.2⟩)
              | (have S8 := Lib.hid ((S6.out.drew.side hR HSZ.out (litF j)).mono (show _ ≤ lim + 30 by omega))
                 clear t0 t1 u0 u1
                 obtain ⟨p0', p1', -⟩ := S8.out.var.two
                 obtain ⟨r0, r1, s0, s1⟩ := S8.out.ret.two
                 go_wp2
                 refine bodyPost_ret (v := .agg #[.slice (some ⟨g, 0, none⟩) ss.length cap, .bool t]) (by simp [results, Tryd.results57, go_sem, r0, r1]) rfl ⟨_, _, _, ss.set 0 (litF j), t, rfl, by simp, hl1, by omega, (S8.out.done hR _ _).1, (S8.out.done hR _ _).2.1.mono (by omega), (S8.out.done hR _ _).2.2⟩)
              | (have S8 := Lib.hid (((S6.out.side hR HSZ.out (litF j)).keep (below_bx _ (.cells #[.int .i64 0, .int .i64 4, .int .i64 (-1)] 3))).mono (show _ ≤ lim + 30 by omega))
                 clear t0 t1 u0 u1
                 obtain ⟨p0', p1', -⟩ := S8.out.var.two
                 obtain ⟨r0, r1, s0, s1⟩ := S8.out.ret.two
                 go_wp2
                 refine bodyPost_ret (v := .agg #[.slice (some ⟨g, 0, none⟩) ss.length cap, .bool t]) (by simp [results, Tryd.results57, go_sem, r0, r1]) rfl ⟨_, _, _, ss.set 0 (litF j), t, rfl, by simp, hl1, by omega, (S8.out.done hR _ _).1, (S8.out.done hR _ _).2.1.mono (by omega), (S8.out.done hR _ _).2.2⟩)
        · obtain ⟨S6, S7⟩ : Hid (DrSt w (w5.setCell ⟨g, 0, none⟩ (.int .i64 3)) R X (lim + 30) t (.slice (some ⟨g, 0, none⟩) ss.length cap) (ss.set 0 3)) ∧ True := ⟨Lib.hid ((S5.out.side hR HSZ.out 3).mono (by omega)), trivial⟩
          have S7 := Lib.hid (S6.out.coup hR false)
          go_upto_region 17 with fail
          clear p0 p1 pf0 pf1 d0 f0 r0 r1 s0 s1 S6
          obtain ⟨p0, p1, -⟩ := S7.out.var.two
          obtain ⟨r0, r1, s0, s1⟩ := S7.out.ret.two
          go_wp2
          refine bodyPost_ret (v := .agg #[.slice (some ⟨g, 0, none⟩) ss.length cap, .bool false]) (by simp [results, Tryd.results57, go_sem, r0, r1]) rfl ⟨_, _, _, ss.set 0 3, false, rfl, by simp, hl1, by omega, (S7.out.done hR _ _).1, (S7.out.done hR _ _).2.1.mono (by omega), (S7.out.done hR _ _).2.2⟩
        · have M7 := make7
          have S6 := Lib.hid ((S5.out.keep (below_bx w5 (.cells (madeCells #[.int .i64 0] 7) 3))).set hR (OwnI.moreR (own7 w5) S5.out.var.lt))
          rw [World.setCell_alloc_past _ _ _ _ hXw] at S6
          go_upto_region 17 with fail
          obtain ⟨q0, q1, -⟩ := S6.out.var.two
          obtain ⟨r0', r1', s0', s1'⟩ := S6.out.ret.two
          generalize (w5.setCell ⟨X, 0, none⟩ (.slice (some ⟨w5.heap.size, 0, none⟩) 7 7)).alloc (.cells (madeCells #[.int .i64 0] 7) 3) = w6 at *
          clear p0 p1 pf0 pf1 d0 f0 r0 r1 s0 s1
          go_wp2
          refine bodyPost_ret (v := .agg #[.slice (some ⟨w5.heap.size, 0, none⟩) 7 7, .bool t]) (by simp [results, Tryd.results57, go_sem, r0', r1']) rfl ⟨_, _, _, List.replicate 7 0, t, rfl, rfl, by omega, by omega, (S6.out.done hR _ _).1, (S6.out.done hR _ _).2.1.mono (by omega), (S6.out.done hR _ _).2.2⟩
end Go.Proofs.YtafgfhjlkdjngaaDoor
