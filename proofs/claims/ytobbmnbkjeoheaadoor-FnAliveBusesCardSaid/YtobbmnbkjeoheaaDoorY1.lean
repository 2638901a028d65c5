/- The drawing of buses beside a network. -/
import Derived.Test.YtobbmnbkjeoheaaDoorK1
import Derived.Test.YtobbmnbkjeoheaaDoorSU3
namespace Go.Proofs.YtobbmnbkjeoheaaDoor
open Go.ChangeShapes Go.WideShapes Go.ChangeAt Go.RowKit

/-- While buses are drawn: the network's box, the list, the reader that was there before. -/
structure BusSt (w wr : World) (R : Nat) (lim bs : Int) (n c : Nat) (A : Option Addr) (v : Value) (us : List TU) : Prop where
  hR : R < w.heap.size
  box : IsBlk wr w.heap.size 25 #[.int .i64 bs, .slice A n c]
  own : OwnU wr (w.heap.size + 1) v us
  rd : Rd wr R lim
  gr : w.grownBy wr (some R)
section
variable {w wr w' : World} {R n c : Nat} {lim lim' bs : Int} {A : Option Addr} {v v' : Value} {us us' : List TU}
theorem BusSt.pick (h : BusSt w wr R lim bs n c A v us) (hr : Rd w' R lim') (hg : wr.grownBy w' (some R)) : BusSt w w' R lim' bs n c A v us := by
  have h1 := h.hR
  exact ⟨h.hR, (hg.block _ h.box.lt (by simp; omega)).trans h.box, h.own.far hg (fun q hq e => by injection e with e; have := (h.own.lt q hq).1; omega), hr, grown_then h.gr hg⟩
theorem BusSt.keep (h : BusSt w wr R lim bs n c A v us) (hb : Below wr.heap.size wr w') : BusSt w w' R lim bs n c A v us :=
  ⟨h.hR, h.box.keep hb, h.own.keep hb, h.rd.keep hb, grown_then h.gr ⟨hb.os, hb.tape, hb.output, hb.size, fun i hi _ => hb.block i hi⟩⟩
theorem BusSt.alloc (h : BusSt w wr R lim bs n c A v us) (o : Obj) : BusSt w (wr.alloc o) R lim bs n c A v us := h.keep (below_bx _ _)
theorem BusSt.mono (h : BusSt w wr R lim bs n c A v us) (hl : lim ≤ lim') : BusSt w wr R lim' bs n c A v us := ⟨h.hR, h.box, h.own, h.rd.mono hl, h.gr⟩
theorem BusSt.put {X : Nat} (h : BusSt w wr R lim bs n c A v us) (hX : w.heap.size < X) (hv : v.ownBlock ≠ some X) (i : Nat) (u : Value) : BusSt w (wr.setCell ⟨X, i, none⟩ u) R lim bs n c A v us := by
  have h1 := h.hR
  have hg : wr.grownBy (wr.setCell ⟨X, i, none⟩ u) (some X) := grown_put _ _ _ _
  exact ⟨h.hR, h.box.far (by simp; omega) _, h.own.far hg (fun q hq e => hv (by rw [hq]; exact e.symm)), h.rd.far (by omega) hg, grown_new h.gr hg (by omega)⟩
theorem BusSt.push (h : BusSt w wr R lim bs n c A v us) (o : Obj) (hown : OwnU w' (w.heap.size + 1) v' us') (hg : (wr.alloc o).grownBy w' v.ownBlock) : BusSt w w' R lim bs n c A v' us' := by
  have h1 := h.hR
  have ha := h.alloc o
  have hlow := fun q hq => (ha.own.lt q hq).1
  refine ⟨h.hR, ha.box.farG hg (fun e => by have := hlow _ e; omega), hown, ha.rd.grown hg (fun q hq => by have := hlow q hq; omega), ?_⟩
  exact ⟨hg.os.trans ha.gr.os, hg.tape.trans ha.gr.tape, hg.output.trans ha.gr.output, Nat.le_trans ha.gr.size hg.size, fun q hq hne => (hg.block q (by have := ha.gr.size; omega) (fun e => by have := hlow q e.symm; omega)).trans (ha.gr.block q hq hne)⟩
theorem BusSt.notown (h : BusSt w wr R lim bs n c A v us) : v.ownBlock ≠ some wr.heap.size := fun e => by have := (h.own.lt _ e).2; omega
/-- A field of the list's first is stored. -/
theorem BusSt.first (h : BusSt w wr R lim bs n c A v us) {g i : Nat} {u : Value} (hg : w.heap.size + 1 ≤ g) (ho : OwnU (wr.setCell ⟨g, i, none⟩ u) (w.heap.size + 1) v us') : BusSt w (wr.setCell ⟨g, i, none⟩ u) R lim bs n c A v us' := by
  have h1 := h.hR
  have hgr : wr.grownBy (wr.setCell ⟨g, i, none⟩ u) (some g) := grown_put _ _ _ _
  exact ⟨h.hR, h.box.far (by simp; omega) _, ho, h.rd.far (by omega) hgr, grown_new h.gr hgr (by omega)⟩
end
theorem ownU_lit (w : World) : OwnU (w.alloc (.cells #[] 32)) w.heap.size (.slice (some ⟨w.heap.size, 0, none⟩) 0 0) [] := by
  have := World.ownsRow_lit (base := w.heap.size) (size := 2) (e := 32) w #[] 0 (by omega) (by decide) rfl
  simpa [OwnU] using this

set_option maxRecDepth 100000 in
set_option maxHeartbeats 4000000 in
theorem buses_any (R : Nat) (bs : Int) (A : Option Addr) (n c : Nat) (nn lim : Int) (hlim : lim ≤ 900000) (hnn : nn ≤ 1000) (hb0 : -1 ≤ bs) (hb9 : bs ≤ 9) (w : World) (hR : R < w.heap.size) (hr : Rd w R lim) :
    Calls Tryd.prog 36 #[.pointer (some ⟨R, 0, none⟩), .agg #[.int .i64 bs, .slice A n c], .int .i64 nn] w fun e w' => ∃ v us, e = .returned v ∧ OwnU w' w.heap.size v us ∧ us.length ≤ 10 ∧ Rd w' R (lim + 50) ∧ w.grownBy w' (some R) := by
  obtain ⟨i0, hi, hz0, hz1, hz2⟩ := info_parts busInfo3
  have HI := Lib.hid hi
  have S0 := Lib.hid (show BusSt w ((w.alloc (.cells #[.int .i64 bs, .slice A n c] 25)).alloc (.cells #[] 32)) R lim bs n c A (.slice (some ⟨w.heap.size + 1, 0, none⟩) 0 0) [] from
    ⟨hR, (IsBlk.new w 25 #[.int .i64 bs, .slice A n c]).alloc _, by have := ownU_lit (w.alloc (.cells #[.int .i64 bs, .slice A n c] 25)); rw [World.size_alloc] at this; exact this, (hr.alloc _).alloc _, grown_then (grown_alloc _ _ _) (grown_alloc _ _ _)⟩)
  clear hi hr
  go_enter Tryd.func36, Tryd.ntmps36
  go_upto_region 2 with fail
  generalize (w.alloc (.cells #[.int .i64 bs, .slice A n c] 25)).alloc (.cells #[] 32) = W0 at *
  go_wp2
  go_loopw [7, 8] (fun v i wr => ∃ (k : Nat) (us : List TU), (k : Int) ≤ 9 ∧ i = .int .i64 k ∧ us.length = k ∧ BusSt w wr R (lim + 3 * k) bs n c A v us) (fun _ i _ => (bs - intOf i).toNat)
  case atStart => exact ⟨0, [], by omega, rfl, rfl, S0.out.mono (by omega)⟩
  case round =>
    obtain ⟨k, us, hk, rfl, hl, hst⟩ := hrel
    have SK := Lib.hid hst
    have KL := Lib.hid hl
    clear hst hl S0
    obtain ⟨p0, p1, p2, p3⟩ := SK.out.box.two
    by_cases hlt : (k : Int) < bs
    · go_wp2_with fail
      refine (pick_any R 20 _ (by omega) (by omega) _ SK.out.rd).mono ?_
      rintro e w1 ⟨v1, rfl, _, _, _, hr1, hg1⟩
      have S1 := Lib.hid (SK.out.pick hr1 hg1)
      clear hr1 hg1 SK p0 p1 p2 p3
      go_wp2_with fail
      have S2 := Lib.hid (S1.out.alloc (.cells #[.int .i64 0, .int .i64 v1] 32))
      have B2 := Lib.hid (IsBlk.new w1 32 #[.int .i64 0, .int .i64 v1])
      have HVB := Lib.hid S1.out.notown
      have hXb : w.heap.size < w1.heap.size := S1.out.box.lt
      have hRb : R < w1.heap.size := S1.out.rd.lt
      clear S1
      refine (pick_any R 3 _ (by omega) (by omega) _ S2.out.rd).mono ?_
      rintro e w2 ⟨v2, rfl, _, _, _, hr2, hg2⟩
      have S3 := Lib.hid (S2.out.pick hr2 hg2)
      have B3 := Lib.hid (B2.out.farG hg2 (fun e => by injection e with e; omega))
      clear S2 B2 hr2 hg2
      generalize w1.heap.size = b at *
      have hul : us.length ≤ 9 := by have := KL.out; omega
      by_cases hz : v2 = 0
      · subst hz
        go_wp2_with fail
        refine (pick_any R 80 _ (by omega) (by omega) _ S3.out.rd).mono ?_
        rintro e w3 ⟨v3, rfl, _, _, _, hr3, hg3⟩
        have S4 := Lib.hid (S3.out.pick hr3 hg3)
        have B4 := Lib.hid (B3.out.farG hg3 (fun e => by injection e with e; omega))
        clear S3 B3 hr3 hg3
        obtain ⟨c0, _, f0, _⟩ := B4.out.two
        have S5 := Lib.hid (S4.out.put hXb HVB.out 0 (.int .i64 v3))
        have B5 := Lib.hid (show IsBlk _ b 32 #[.int .i64 v3, .int .i64 v1] from B4.out.put 0 (.int .i64 v3))
        clear S4 B4
        go_upto_region 8 with fail
        clear c0 f0
        generalize w3.setCell ⟨b, 0, none⟩ (.int .i64 v3) = W5 at *
        obtain ⟨c0, c1, _, _⟩ := B5.out.two
        go_wp2_with (
          at_builtin
          refine wpList_append_own _ rfl _ _ _ rfl (w.heap.size + 1) 32 i0 (.agg #[.int .i64 0, .int .i64 0]) 2 16 Tryd.underlying26 HI.out hz0 hz1 hz2 rfl (by decide) _ _ _ rfl (World.ownsRow.alloc S5.out.own _) ⟨W5.heap.size, 0, none⟩ 1 1 (fU (v3, v1)) rfl rfl ?c1 ?c2 ?c3 ?c4 ?c5 ?_
          case c1 => exact newU W5 (v3, v1) _
          case c2 => intro u hu; simp [fU] at hu; rcases hu with rfl | rfl <;> rfl
          case c3 => simp only [maxLen]; omega
          case c4 => omega
          case c5 => have := S5.out.box.lt; simp; omega
          intro v' w8 hown' hgrow _
          have S6 := Lib.hid (S5.out.push _ (OwnU.snoc hown') hgrow))
        go_roundw
        case rel => exact ⟨k + 1, us ++ [(v3, v1)], by omega, by go_num, by rw [List.length_append, KL.out]; rfl, S6.out.mono (by omega)⟩
        case measure => simp [intOf]; omega
      · have hz0' : (v2 == 0) = false := by simpa using hz
        go_upto_region 8 with fail
        obtain ⟨c0, c1, _, _⟩ := B3.out.two
        go_wp2_with (
          at_builtin
          refine wpList_append_own _ rfl _ _ _ rfl (w.heap.size + 1) 32 i0 (.agg #[.int .i64 0, .int .i64 0]) 2 16 Tryd.underlying26 HI.out hz0 hz1 hz2 rfl (by decide) _ _ _ rfl (World.ownsRow.alloc S3.out.own _) ⟨w2.heap.size, 0, none⟩ 1 1 (fU (0, v1)) rfl rfl ?c1 ?c2 ?c3 ?c4 ?c5 ?_
          case c1 => exact newU w2 (0, v1) _
          case c2 => intro u hu; simp [fU] at hu; rcases hu with rfl | rfl <;> rfl
          case c3 => simp only [maxLen]; omega
          case c4 => omega
          case c5 => have := S3.out.box.lt; simp; omega
          intro v' w8 hown' hgrow _
          have S6 := Lib.hid (S3.out.push _ (OwnU.snoc hown') hgrow))
        go_roundw
        case rel => exact ⟨k + 1, us ++ [(0, v1)], by omega, by go_num, by rw [List.length_append, KL.out]; rfl, S6.out.mono (by omega)⟩
        case measure => simp [intOf]; omega
    · go_wp2_with fail
      refine (odd_any R nn _ (by omega) (by omega) _ SK.out.rd).mono ?_
      rintro e w1 ⟨vo, rfl, _, hr1, hg1⟩
      have S1 := Lib.hid (SK.out.pick hr1 hg1)
      have hsv := S1.out.own.row
      obtain ⟨Av, cv, rfl, _⟩ := hsv
      clear hr1 hg1 SK p0 p1 p2 p3
      have hul : us.length ≤ 9 := by have := KL.out; omega
      cases vo
      · go_wp2
        go_ret
        exact ⟨_, us, rfl, S1.out.own.more (by omega), by omega, S1.out.rd.mono (by omega), S1.out.gr⟩
      · go_wp2_with fail
        refine (pick_any R 3 _ (by omega) (by omega) _ S1.out.rd).mono ?_
        rintro e w2 ⟨v2, rfl, hv0, hv1, _, hr2, hg2⟩
        have hv3 := hv1 (by decide)
        have S2 := Lib.hid (S1.out.pick hr2 hg2)
        clear S1 hr2 hg2 hv1
        rcases (show v2 = 0 ∨ v2 = 1 ∨ v2 = 2 by omega) with rfl | rfl | rfl
        · go_wp2_with (
            at_builtin
            refine wpList_append_own _ rfl _ _ _ rfl (w.heap.size + 1) 32 i0 (.agg #[.int .i64 0, .int .i64 0]) 2 16 Tryd.underlying26 HI.out hz0 hz1 hz2 rfl (by decide) _ _ _ rfl (World.ownsRow.alloc S2.out.own _) ⟨w2.heap.size, 0, none⟩ 1 1 (fU (0, 0)) rfl rfl ?c1 ?c2 ?c3 ?c4 ?c5 ?_
            case c1 => exact newU w2 (0, 0) _
            case c2 => intro u hu; simp [fU] at hu; rcases hu with rfl | rfl <;> rfl
            case c3 => simp only [maxLen]; omega
            case c4 => omega
            case c5 => have := S2.out.box.lt; simp; omega
            intro v' w8 hown' hgrow _
            have S6 := Lib.hid (S2.out.push _ (OwnU.snoc hown') hgrow))
          go_ret
          exact ⟨_, us ++ [(0, 0)], rfl, S6.out.own.more (by omega), by rw [List.length_append]; simp; omega, S6.out.rd.mono (by omega), S6.out.gr⟩
        · go_wp2_with (
            at_builtin
            refine wpList_append_own _ rfl _ _ _ rfl (w.heap.size + 1) 32 i0 (.agg #[.int .i64 0, .int .i64 0]) 2 16 Tryd.underlying26 HI.out hz0 hz1 hz2 rfl (by decide) _ _ _ rfl (World.ownsRow.alloc S2.out.own _) ⟨w2.heap.size, 0, none⟩ 1 1 (fU (-1, 0)) rfl rfl ?c1 ?c2 ?c3 ?c4 ?c5 ?_
            case c1 => exact newU w2 (-1, 0) _
            case c2 => intro u hu; simp [fU] at hu; rcases hu with rfl | rfl <;> rfl
            case c3 => simp only [maxLen]; omega
            case c4 => omega
            case c5 => have := S2.out.box.lt; simp; omega
            intro v' w8 hown' hgrow _
            have S6 := Lib.hid (S2.out.push _ (OwnU.snoc hown') hgrow))
          go_ret
          exact ⟨_, us ++ [(-1, 0)], rfl, S6.out.own.more (by omega), by rw [List.length_append]; simp; omega, S6.out.rd.mono (by omega), S6.out.gr⟩
        · by_cases h0 : us.length = 0
          · rw [h0] at S2 ⊢
            go_wp2
            go_ret
            exact ⟨_, us, rfl, S2.out.own.more (by omega), by omega, S2.out.rd.mono (by omega), S2.out.gr⟩
          · have h0' : (0 : Int) < (us.length : Int) := by omega
            have hu0 : us[0]? = some (us[0]'(by omega)) := List.getElem?_eq_getElem _
            generalize (us[0]'(by omega)) = u at hu0
            go_wp2_with fail
            have S3 := Lib.hid (S2.out.alloc (.cells #[.int .i64 (-1), .int .i64 1000] 3))
            have B3 := Lib.hid (IsBlk.new w2 3 #[.int .i64 (-1), .int .i64 1000])
            have hRb : R < w2.heap.size := S2.out.rd.lt
            refine (pick_any R 2 _ (by omega) (by omega) _ S3.out.rd).mono ?_
            rintro e w3 ⟨v3, rfl, ht0, ht1, _, hr3, hg3⟩
            have ht3 := ht1 (by decide)
            have S4 := Lib.hid (S3.out.pick hr3 hg3)
            have B4 := Lib.hid (B3.out.farG hg3 (fun e => by injection e with e; omega))
            obtain ⟨c0, c1, _, _⟩ := B4.out.two
            clear S2 S3 B3 B4 hr3 hg3 ht1
            generalize w2.heap.size = b at *
            rcases (show v3 = 0 ∨ v3 = 1 by omega) with rfl | rfl
            · obtain ⟨g, cap, hge, hgb, _, f0, ⟨z, d0⟩, ho⟩ := S4.out.own.put (k := 0) (j := 1) (u := u) (u' := (u.1, -1)) (x := .int .i64 (-1)) hu0 (by decide) rfl
              injection hge with hA hn hc
              subst hA hc
              have HO := Lib.hid (S4.out.first hgb ho)
              clear ho S4 hu0
              simp only [Nat.zero_mul, Nat.zero_add] at f0 d0 HO
              go_wp2
              go_ret
              exact ⟨_, us.set 0 (u.1, -1), rfl, OwnU.more (base := w.heap.size + 1) HO.out.own (Nat.le_succ _), by rw [List.length_set]; omega, HO.out.rd.mono (by omega), HO.out.gr⟩
            · obtain ⟨g, cap, hge, hgb, _, f0, ⟨z, d0⟩, ho⟩ := S4.out.own.put (k := 0) (j := 1) (u := u) (u' := (u.1, 1000)) (x := .int .i64 1000) hu0 (by decide) rfl
              injection hge with hA hn hc
              subst hA hc
              have HO := Lib.hid (S4.out.first hgb ho)
              clear ho S4 hu0
              simp only [Nat.zero_mul, Nat.zero_add] at f0 d0 HO
              go_wp2
              go_ret
              exact ⟨_, us.set 0 (u.1, 1000), rfl, OwnU.more (base := w.heap.size + 1) HO.out.own (Nat.le_succ _), by rw [List.length_set]; omega, HO.out.rd.mono (by omega), HO.out.gr⟩
end Go.Proofs.YtobbmnbkjeoheaaDoor
