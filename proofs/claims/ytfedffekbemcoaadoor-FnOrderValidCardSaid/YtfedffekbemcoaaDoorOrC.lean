/- Switching orders: drawing of orders (l20Order): a list in the making beside a reader that was there before. -/
import Derived.Test.YtfedffekbemcoaaDoorOr3
import Derived.Test.YtfedffekbemcoaaDoorBD1
import Derived.Deep.AppendLies
import Derived.RegionTactic
import Derived.Deep.RegionWith
namespace Go.Proofs.YtfedffekbemcoaaDoor
open Go.ChangeShapes Go.WideShapes Go.ChangeAt Go.RowKit

structure OrdSt (w wr : World) (R : Nat) (lim : Int) (v : Value) (us : List TP) : Prop where
  hR : R < w.heap.size
  own : OwnP wr w.heap.size v us
  rd : Rd wr R lim
  gr : w.grownBy wr (some R)
section
variable {w wr w' : World} {R : Nat} {lim lim' : Int} {v v' : Value} {us us' : List TP}
theorem OrdSt.pick (h : OrdSt w wr R lim v us) (hr : Rd w' R lim') (hg : wr.grownBy w' (some R)) : OrdSt w w' R lim' v us := by
  have h1 := h.hR
  exact ⟨h.hR, h.own.far hg (fun q hq e => by injection e with e; have := (h.own.lt q hq).1; omega), hr, grown_then h.gr hg⟩
theorem OrdSt.keep (h : OrdSt w wr R lim v us) (hb : Below wr.heap.size wr w') : OrdSt w w' R lim v us :=
  ⟨h.hR, h.own.keep hb, h.rd.keep hb, grown_then h.gr ⟨hb.os, hb.tape, hb.output, hb.size, fun i hi _ => hb.block i hi⟩⟩
theorem OrdSt.alloc (h : OrdSt w wr R lim v us) (o : Obj) : OrdSt w (wr.alloc o) R lim v us := h.keep (below_bx _ _)
theorem OrdSt.drew (h : OrdSt w wr R lim v us) : OrdSt w wr.drew R lim v us := h.keep ((Below.refl _ _).drew)
theorem OrdSt.mono (h : OrdSt w wr R lim v us) (hl : lim ≤ lim') : OrdSt w wr R lim' v us := ⟨h.hR, h.own, h.rd.mono hl, h.gr⟩
theorem OrdSt.push (h : OrdSt w wr R lim v us) (o : Obj) (hown : OwnP w' w.heap.size v' us') (hg : (wr.alloc o).grownBy w' v.ownBlock) : OrdSt w w' R lim v' us' := by
  have h1 := h.hR
  have ha := h.alloc o
  have hlow := fun q hq => (ha.own.lt q hq).1
  refine ⟨h.hR, hown, ha.rd.grown hg (fun q hq => by have := hlow q hq; omega), ?_⟩
  exact ⟨hg.os.trans ha.gr.os, hg.tape.trans ha.gr.tape, hg.output.trans ha.gr.output, Nat.le_trans ha.gr.size hg.size, fun q hq hne => (hg.block q (by have := ha.gr.size; omega) (fun e => by have := hlow q e.symm; omega)).trans (ha.gr.block q hq hne)⟩
end
theorem ordOk_snoc {ss : List TP} {p : TP} (h : ss.all stepOk = true) (hp : stepOk p = true) : (ss ++ [p]).all stepOk = true := by
  rw [List.all_append, h]; simp [hp]
theorem OrdSt.look {w wr : World} {R : Nat} {lim : Int} {v : Value} {us : List TP} (h : OrdSt w wr R lim v us) : R < wr.heap.size ∧ w.heap.size ≤ wr.heap.size := ⟨h.rd.lt, h.gr.size⟩
theorem steps_make (n : Nat) (hn : n ≤ 1048576) (w : World) : (Instr.makeSlice 23 (.int .i64 (n : Int)) (.int .i64 (n : Int))).run Tryd.prog w = .ok (.slice (some ⟨w.heap.size, 0, none⟩) n n) (w.alloc (.cells (rowArr fP (List.replicate n (0, false))) 27)) := by
  obtain ⟨i0, hi, hz0, hz1, hz2⟩ := info_parts stepInfo3
  have := run_make (P := Tryd.prog) w 23 27 i0 _ Tryd.underlying23 hi hz0 .i64 .i64 n n (by omega) (by omega) (by rw [hz2]; omega) (by omega)
  rw [this, Int.toNat_natCast, hz1, madeCells_row (f := fP) fP_len (Value.agg #[.int .i64 0, .bool false]).cells (0, false) rfl (by omega)]
theorem own_made (w : World) (n : Nat) (hn : n ≤ 1000) : OwnP (w.alloc (.cells (rowArr fP (List.replicate n (0, false))) 27)) w.heap.size (.slice (some ⟨w.heap.size, 0, none⟩) n n) (List.replicate n (0, false)) := by
  have hl : (List.replicate n ((0, false) : TP)).length = n := List.length_replicate
  have hB := IsBlk.new w 27 (rowArr fP (List.replicate n ((0, false) : TP)))
  show World.ownsRow _ _ _ _ _ (List.replicate n ((0, false) : TP)).length _
  rw [hl]
  refine ⟨by rw [flat_len fP_len, hl], .inr ⟨w.heap.size, n, _, rfl, Nat.le_refl _, hB, Nat.le_refl _, by simp only [maxLen]; omega, by rw [rowArr, List.size_toArray, flat_len fP_len, hl], ?_⟩⟩
  rw [rowArr, List.take_of_length_le (by rw [List.toList_toArray, flat_len fP_len, hl]; exact Nat.le_refl _)]

set_option maxRecDepth 100000 in
set_option maxHeartbeats 4000000 in
theorem order_any (R : Nat) (nn lim : Int) (hlim : lim ≤ 900000) (hnn : nn ≤ 1000) (w : World) (hR : R < w.heap.size) (hr : Rd w R lim) :
    Calls Tryd.prog 39 #[.pointer (some ⟨R, 0, none⟩), .int .i64 nn] w fun e w' => ∃ v us, e = .returned v ∧ OwnP w' w.heap.size v us ∧ us.length ≤ 13 ∧ (nn ≤ 0 → ordOk us = true) ∧ Rd w' R (lim + 50) ∧ w.grownBy w' (some R) := by
  have S0 := Lib.hid (show OrdSt w (w.alloc (.cells #[] 27)) R lim (.slice (some ⟨w.heap.size, 0, none⟩) 0 0) [] from ⟨hR, ownP_lit w, hr.alloc _, grown_alloc _ _ _⟩)
  have hmk : ∀ w : World, (Instr.makeSlice 23 (.int .i64 13) (.int .i64 13)).run Tryd.prog w = .ok (.slice (some ⟨w.heap.size, 0, none⟩) 13 13) (w.alloc (.cells (rowArr fP (List.replicate 13 (0, false))) 27)) := fun w => steps_make 13 (by omega) w
  have HMK := Lib.hid hmk
  clear hr hmk
  go_enter Tryd.func39, Tryd.ntmps39
  go_wp2_with fail
  refine (pick_any R 6 lim (by omega) (by omega) _ S0.out.rd).mono ?_
  rintro e w1 ⟨v1, rfl, hv0, hv1', _, hr1, hg1⟩
  have hv1 := hv1' (by decide)
  obtain ⟨m, rfl⟩ := Int.eq_ofNat_of_zero_le hv0
  have S1 := Lib.hid (S0.out.pick hr1 hg1)
  clear hr1 hg1 hv1' S0
  go_wp2
  go_loopw [5, 6] (fun v i wr => ∃ (k : Nat) (us : List TP), i = .int .i64 (k : Int) ∧ us.length + k ≤ 5 ∧ us.all stepOk = true ∧ OrdSt w wr R (lim + 1 + 2 * (5 - (k : Int))) v us) (fun _ i _ => (intOf i).toNat)
  case atStart => exact ⟨m, [], rfl, by simp; omega, rfl, S1.out.mono (by omega)⟩
  case round =>
    obtain ⟨k, us, rfl, hl, hall, hst⟩ := hrel
    have S := Lib.hid hst
    have HA := Lib.hid hall
    have HL := Lib.hid hl
    clear hst hall hl S1
    by_cases hk : 0 < k
    · have hk' : (0 : Int) < (k : Int) := by omega
      have hk5 : k ≤ 5 := by have := HL.out; omega
      go_wp2_with fail
      refine (pick_any R 10 _ (by omega) (by omega) _ S.out.rd).mono ?_
      rintro e w2 ⟨va, rfl, ha0, ha1', _, hr2, hg2⟩
      have ha1 := ha1' (by decide)
      have S2 := Lib.hid (S.out.pick hr2 hg2)
      clear hr2 hg2 ha1' S
      go_wp2_with fail
      refine (pick_any R 2 _ (by omega) (by omega) _ S2.out.rd).mono ?_
      rintro e w3 ⟨vb, rfl, hb0, hb1, _, hr3, hg3⟩
      have S3 := Lib.hid (S2.out.pick hr3 hg3)
      clear hr3 hg3 S2
      have wk : IntKind.i64.wrap ((k : Int) - 1) = (k : Int) - 1 := IntWalk.i64_in _ (by omega)
      generalize hbt : (vb == 0) = t
      have HBT := Lib.hid hbt
      clear hbt
      have hbt := HBT.out
      go_wp2_with (
        at_builtin
        refine wpList_append_step rfl (.tmp 14) (.tmp 21) rfl w.heap.size w3.heap.size _ us (va, t) rfl rfl (S3.out.own.alloc _) (newP w3 (va, t) _) (by have := HL.out; omega) (by have := S3.out.look.2; simp; omega) ?_
        intro v' w8 hown hgrow hat
        have S8 := Lib.hid (S3.out.push _ hown hgrow))
      go_roundw
      case rel => exact ⟨k - 1, us ++ [(va, t)], by rw [show ((k - 1 : Nat) : Int) = (k : Int) - 1 by omega], by rw [List.length_append]; have := HL.out; simp; omega, ordOk_snoc HA.out (stepOk_iff.2 ⟨ha0, by show va ≤ 9; omega⟩), S8.out.mono (by omega)⟩
      case measure => simp [intOf]; omega
    · obtain rfl : k = 0 := by omega
      have hul : us.length ≤ 5 := by have := HL.out; omega
      have HOk := Lib.hid (show ordOk us = true by rw [ordOk, HA.out, decide_eq_true (by omega)]; rfl)
      obtain ⟨Av, cv, rfl, _⟩ := S.out.own.row
      go_wp2_with fail
      refine (odd_any R nn _ (by omega) (by omega) _ S.out.rd).mono ?_
      rintro e w2 ⟨vo, rfl, hvo, hr2, hg2⟩
      have S2 := Lib.hid (S.out.pick hr2 hg2)
      have HVO := Lib.hid hvo
      clear hr2 hg2 S hvo
      cases vo
      · go_wp2
        go_ret
        exact ⟨_, us, rfl, S2.out.own, by omega, fun _ => HOk.out, S2.out.rd.mono (by omega), S2.out.gr⟩
      · have hnz : ¬ nn ≤ 0 := fun h => by cases HVO.out h
        go_wp2_with fail
        refine (pick_any R 2 _ (by omega) (by omega) _ S2.out.rd).mono ?_
        rintro e w3 ⟨vb, rfl, hb0, hb1', _, hr3, hg3⟩
        have hb1 := hb1' (by decide)
        have S3 := Lib.hid (S2.out.pick hr3 hg3)
        clear hr3 hg3 S2 hb1'
        rcases (show vb = 0 ∨ vb = 1 by omega) with rfl | rfl
        · have hmk := HMK.out
          go_wp2
          go_ret
          have hlk := S3.out.look
          exact ⟨_, _, rfl, (own_made w3 13 (by omega)).more hlk.2, by simp, fun h => absurd h (by omega), (S3.out.rd.alloc _).mono (by omega), (S3.out.alloc _).gr⟩
        · have S4 := Lib.hid (S3.out.alloc (.cells #[.int .i64 (-1), .int .i64 10] 3))
          have B4 := Lib.hid (IsBlk.new w3 3 #[.int .i64 (-1), .int .i64 10])
          have hRb : R < w3.heap.size := S3.out.rd.lt
          go_wp2_with fail
          refine (pick_any R 2 _ (by omega) (by omega) _ S4.out.rd).mono ?_
          rintro e w5 ⟨vc, rfl, hc0, hc1', _, hr5, hg5⟩
          have hc1 := hc1' (by decide)
          have S5 := Lib.hid (S4.out.pick hr5 hg5)
          have B5 := Lib.hid (B4.out.farG hg5 (fun e => by injection e with e; omega))
          clear hr5 hg5 S3 S4 B4 hc1'
          obtain ⟨c0, c1, _, _⟩ := B5.out.two
          rcases (show vc = 0 ∨ vc = 1 by omega) with rfl | rfl
          · go_wp2_with (
              at_builtin
              refine wpList_append_step rfl (.tmp 30) (.tmp 37) rfl w.heap.size w5.heap.size _ us (-1, false) rfl rfl (S5.out.own.alloc _) (newP w5 (-1, false) _) (by omega) (by have := S5.out.look.2; simp; omega) ?_
              intro v' w8 hown hgrow hat
              obtain ⟨A8, c8, rfl, -⟩ := hown.row
              have S8 := Lib.hid (show OrdSt w w8 R _ (.slice A8 (us.length + 1) c8) (us ++ [(-1, false)]) by have h := S5.out.push _ hown hgrow; rw [show (us ++ [((-1, false) : TP)]).length = us.length + 1 by simp] at h; exact h))
            go_ret
            exact ⟨_, us ++ [(-1, false)], rfl, S8.out.own, by rw [List.length_append]; show us.length + 1 ≤ 13; omega, fun h => absurd h (by omega), S8.out.rd.mono (by omega), S8.out.gr⟩
          · go_wp2_with (
              at_builtin
              refine wpList_append_step rfl (.tmp 30) (.tmp 37) rfl w.heap.size w5.heap.size _ us (10, false) rfl rfl (S5.out.own.alloc _) (newP w5 (10, false) _) (by omega) (by have := S5.out.look.2; simp; omega) ?_
              intro v' w8 hown hgrow hat
              obtain ⟨A8, c8, rfl, -⟩ := hown.row
              have S8 := Lib.hid (show OrdSt w w8 R _ (.slice A8 (us.length + 1) c8) (us ++ [(10, false)]) by have h := S5.out.push _ hown hgrow; rw [show (us ++ [((10, false) : TP)]).length = us.length + 1 by simp] at h; exact h))
            go_ret
            exact ⟨_, us ++ [(10, false)], rfl, S8.out.own, by rw [List.length_append]; show us.length + 1 ≤ 13; omega, fun h => absurd h (by omega), S8.out.rd.mono (by omega), S8.out.gr⟩
end Go.Proofs.YtfedffekbemcoaaDoor
