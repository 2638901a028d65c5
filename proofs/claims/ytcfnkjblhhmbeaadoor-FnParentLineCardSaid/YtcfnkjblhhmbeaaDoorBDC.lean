/- Texts joined: Slices of the struct Bus of a call's own (written by program); The drawing of buses beside a network; The drawing of a network, a state and buses beside a reader; and what draws by it; The drawings of FnBusesValid, FnIslandFeed and FnIslandLoad. -/
import Derived.Test.YtcfnkjblhhmbeaaDoorChecked
import Derived.Test.YtcfnkjblhhmbeaaDoorBPA
import Derived.Laws.MakeOwn
import Derived.Laws.OwnMore
import Derived.ProofKit
import Derived.Test.YtcfnkjblhhmbeaaDoorBDB

/- Slices of the struct Bus of a call's own (written by program). -/
namespace Go.Proofs.YtcfnkjblhhmbeaaDoor
open Go.ChangeShapes Go.WideShapes Go.ChangeAt Go.RowKit

theorem busInfo3 : (Tryd.prog.info? 43).map (fun i => (i.zero, i.size, i.bytes)) = some (some (.agg #[.int .i64 0, .int .i64 0]), 2, 16) := by kernel_rfl
def OwnU (w : World) (base : Nat) (v : Value) (us : List TU) : Prop := w.ownsRow base 43 2 v us.length (us.flatMap fU)
section
variable {w w' : World} {base base' : Nat} {v : Value} {us : List TU}
theorem OwnU.keep (h : OwnU w base v us) (hb : Below w.heap.size w w') : OwnU w' base v us :=
  World.ownsRow.kept (row := none) h ⟨hb.os, hb.tape, hb.output, hb.size, fun i hi _ => hb.block i hi⟩ (Classical.em _)
theorem OwnU.alloc (h : OwnU w base v us) (o : Obj) : OwnU (w.alloc o) base v us := h.keep (below_bx w o)
theorem OwnU.nil {w : World} {base : Nat} : OwnU w base (.slice none 0 0) [] := World.ownsRow_nil _ _ _ _
theorem OwnU.far {row : Option Nat} (h : OwnU w base v us) (hg : w.grownBy w' row) (hne : ∀ q, v.ownBlock = some q → row ≠ some q) : OwnU w' base v us := by
  refine World.ownsRow.kept h hg ?_
  rcases hq : v.ownBlock with _ | q
  · exact .inl rfl
  · exact .inr (fun e => hne q hq e.symm)
theorem OwnU.lt (h : OwnU w base v us) : ∀ q, v.ownBlock = some q → base ≤ q ∧ q < w.heap.size := fun q hq => World.ownsRow.lt h q hq
theorem OwnU.more (h : OwnU w base v us) (hb : base' ≤ base) : OwnU w base' v us := by
  refine ⟨h.1, ?_⟩
  rcases h.2 with h | ⟨g, cap, cur, h1, h2, h3⟩
  · exact .inl h
  · exact .inr ⟨g, cap, cur, h1, Nat.le_trans hb h2, h3⟩
theorem OwnU.row (h : OwnU w base v us) : ∃ A c, v = .slice A us.length c ∧ RowU w A us.length us := by
  rcases h.2 with ⟨rfl, h0⟩ | ⟨g, cap, cur, rfl, hb, hg, hn, hc, hsz, ht⟩
  · exact ⟨none, 0, by rw [h0], rfl, fun hp => absurd hp (by omega)⟩
  · refine ⟨some ⟨g, 0, none⟩, cap, rfl, rfl, fun _ => ⟨g, 0, rfl, (Array.getElem?_eq_some_iff.1 hg).1, fun k l hk => ?_⟩⟩
    have hlt : k < us.length := (List.getElem?_eq_some_iff.1 hk).1
    have one : ∀ j, j < 2 → w.cell? ⟨g, 0 + k * 2 + j, none⟩ = (fU l)[j]? := by
      intro j hj
      rw [cell_of_row w g _ cur 43 (0, 0) hg, Nat.zero_add, ← Array.getElem?_toList]
      have e := flat_get (f := fU) fU_len us k l j hk hj
      rw [← ht, List.getElem?_take_of_lt (by omega)] at e
      exact e
    exact ⟨one 0 (by omega), one 1 (by omega)⟩
/-- A field of an element is stored. -/
theorem OwnU.put (h : OwnU w base v us) {k j : Nat} {u u' : TU} {x : Value} (hk : us[k]? = some u) (hj : j < 2) (hu : fU u' = (fU u).set j x) :
    ∃ g cap, v = .slice (some ⟨g, 0, none⟩) us.length cap ∧ base ≤ g ∧ g < w.heap.size ∧ w.frozen? ⟨g, k * 2 + j, none⟩ = false ∧ (∃ z, w.cell? ⟨g, k * 2 + j, none⟩ = some z) ∧ OwnU (w.setCell ⟨g, k * 2 + j, none⟩ x) base v (us.set k u') := by
  have hlt : k < us.length := (List.getElem?_eq_some_iff.1 hk).1
  have hkm : k * 2 + j < us.length * 2 := by omega
  rcases h.2 with ⟨_, h0⟩ | ⟨g, cap, cur, rfl, hb, hg, hn, hc, hsz, ht⟩
  · omega
  · have hB : IsBlk w g 43 cur := hg
    have hcs : k * 2 + j < cur.size := by omega
    refine ⟨g, cap, rfl, hb, hB.lt, hB.thaw _, ⟨cur[k * 2 + j], (hB.cell _).trans (Array.getElem?_eq_getElem hcs)⟩, ?_⟩
    show World.ownsRow _ _ _ _ _ (us.set k u').length _
    rw [List.length_set]
    refine ⟨by rw [flat_len fU_len, List.length_set], .inr ⟨g, cap, _, rfl, hb, hB.put _ _, hn, hc, by simpa using hsz, ?_⟩⟩
    rw [Array.toList_setIfInBounds, List.take_set, ht]
    clear ht hsz hn hc hg hB hcs hkm h hlt
    revert k
    induction us with
    | nil => intro k hk; simp at hk
    | cons a t ih =>
      intro k hk
      rcases k with _ | k
      · simp at hk; subst hk
        rw [List.set_cons_zero, List.flatMap_cons, List.flatMap_cons, hu, Nat.zero_mul, Nat.zero_add, List.set_append_left _ _ (by rw [fU_len]; exact hj)]
      · have := ih (k := k) (by simpa using hk)
        rw [List.set_cons_succ, List.flatMap_cons, List.flatMap_cons, ← this, List.set_append_right _ _ (by rw [fU_len]; omega), fU_len]
        congr 2; omega
theorem OwnU.snoc {u : TU} (h : w.ownsRow base 43 2 v (us.length + 1) (us.flatMap fU ++ fU u)) : OwnU w base v (us ++ [u]) := by
  show World.ownsRow _ _ _ _ _ (us ++ [u]).length _
  rw [List.length_append, List.flatMap_append, List.flatMap_singleton]; exact h
theorem newU (w : World) (l : TU) (t : TypeId) : ∀ j u, (fU l)[j]? = some u → (w.alloc (.cells (fU l).toArray t)).cell? ((⟨w.heap.size, 0, none⟩ : Addr).add j) = some u := by
  intro j u hj
  have h := (IsBlk.new w t (fU l).toArray).cell j
  have ha : (⟨w.heap.size, 0, none⟩ : Addr).add j = ⟨w.heap.size, j, none⟩ := by unfold Addr.add; split <;> simp_all
  rw [ha, h, ← hj]; simp
end
end Go.Proofs.YtcfnkjblhhmbeaaDoor

/- The drawing of buses beside a network. -/
namespace Go.Proofs.YtcfnkjblhhmbeaaDoor
open Go.ChangeShapes Go.WideShapes Go.ChangeAt Go.RowKit

/-- While buses are drawn: the network's box, the list, the reader that was there before. -/
structure BusSt (w wr : World) (R : Nat) (lim bs : Int) (n c : Nat) (A : Option Addr) (v : Value) (us : List TU) : Prop where
  hR : R < w.heap.size
  box : IsBlk wr w.heap.size 25 #[.int .i64 bs, .slice A n c]
  own : OwnU wr (w.heap.size + 1) v us
  rd : Rd wr R lim
  gr : w.grownBy wr (some R)
section
variable {w wr w' : World} {R n c : Nat} {lim lim' bs : Int} {A : Option Addr} {v v' : Value} {us us' : List TU}
theorem BusSt.pick (h : BusSt w wr R lim bs n c A v us) (hr : Rd w' R lim') (hg : wr.grownBy w' (some R)) : BusSt w w' R lim' bs n c A v us := by
  have h1 := h.hR
  exact ⟨h.hR, (hg.block _ h.box.lt (by simp; omega)).trans h.box, h.own.far hg (fun q hq e => by injection e with e; have := (h.own.lt q hq).1; omega), hr, grown_then h.gr hg⟩
theorem BusSt.keep (h : BusSt w wr R lim bs n c A v us) (hb : Below wr.heap.size wr w') : BusSt w w' R lim bs n c A v us :=
  ⟨h.hR, h.box.keep hb, h.own.keep hb, h.rd.keep hb, grown_then h.gr ⟨hb.os, hb.tape, hb.output, hb.size, fun i hi _ => hb.block i hi⟩⟩
theorem BusSt.alloc (h : BusSt w wr R lim bs n c A v us) (o : Obj) : BusSt w (wr.alloc o) R lim bs n c A v us := h.keep (below_bx _ _)
theorem BusSt.mono (h : BusSt w wr R lim bs n c A v us) (hl : lim ≤ lim') : BusSt w wr R lim' bs n c A v us := ⟨h.hR, h.box, h.own, h.rd.mono hl, h.gr⟩
theorem BusSt.put {X : Nat} (h : BusSt w wr R lim bs n c A v us) (hX : w.heap.size < X) (hv : v.ownBlock ≠ some X) (i : Nat) (u : Value) : BusSt w (wr.setCell ⟨X, i, none⟩ u) R lim bs n c A v us := by
  have h1 := h.hR
  have hg : wr.grownBy (wr.setCell ⟨X, i, none⟩ u) (some X) := grown_put _ _ _ _
  exact ⟨h.hR, h.box.far (by simp; omega) _, h.own.far hg (fun q hq e => hv (by rw [hq]; exact e.symm)), h.rd.far (by omega) hg, grown_new h.gr hg (by omega)⟩
theorem BusSt.push (h : BusSt w wr R lim bs n c A v us) (o : Obj) (hown : OwnU w' (w.heap.size + 1) v' us') (hg : (wr.alloc o).grownBy w' v.ownBlock) : BusSt w w' R lim bs n c A v' us' := by
  have h1 := h.hR
  have ha := h.alloc o
  have hlow := fun q hq => (ha.own.lt q hq).1
  refine ⟨h.hR, ha.box.farG hg (fun e => by have := hlow _ e; omega), hown, ha.rd.grown hg (fun q hq => by have := hlow q hq; omega), ?_⟩
  exact ⟨hg.os.trans ha.gr.os, hg.tape.trans ha.gr.tape, hg.output.trans ha.gr.output, Nat.le_trans ha.gr.size hg.size, fun q hq hne => (hg.block q (by have := ha.gr.size; omega) (fun e => by have := hlow q e.symm; omega)).trans (ha.gr.block q hq hne)⟩
theorem BusSt.notown (h : BusSt w wr R lim bs n c A v us) : v.ownBlock ≠ some wr.heap.size := fun e => by have := (h.own.lt _ e).2; omega
/-- A field of the list's first is stored. -/
theorem BusSt.first (h : BusSt w wr R lim bs n c A v us) {g i : Nat} {u : Value} (hg : w.heap.size + 1 ≤ g) (ho : OwnU (wr.setCell ⟨g, i, none⟩ u) (w.heap.size + 1) v us') : BusSt w (wr.setCell ⟨g, i, none⟩ u) R lim bs n c A v us' := by
  have h1 := h.hR
  have hgr : wr.grownBy (wr.setCell ⟨g, i, none⟩ u) (some g) := grown_put _ _ _ _
  exact ⟨h.hR, h.box.far (by simp; omega) _, ho, h.rd.far (by omega) hgr, grown_new h.gr hgr (by omega)⟩
end
theorem ownU_lit (w : World) : OwnU (w.alloc (.cells #[] 43)) w.heap.size (.slice (some ⟨w.heap.size, 0, none⟩) 0 0) [] := by
  have := World.ownsRow_lit (base := w.heap.size) (size := 2) (e := 43) w #[] 0 (by omega) (by decide) rfl
  simpa [OwnU] using this

set_option maxRecDepth 100000 in
set_option maxHeartbeats 4000000 in
theorem buses_any (R : Nat) (bs : Int) (A : Option Addr) (n c : Nat) (nn lim : Int) (hlim : lim ≤ 900000) (hnn : nn ≤ 1000) (hb0 : -1 ≤ bs) (hb9 : bs ≤ 9) (w : World) (hR : R < w.heap.size) (hr : Rd w R lim) :
    Calls Tryd.prog 58 #[.pointer (some ⟨R, 0, none⟩), .agg #[.int .i64 bs, .slice A n c], .int .i64 nn] w fun e w' => ∃ v us, e = .returned v ∧ OwnU w' w.heap.size v us ∧ us.length ≤ 10 ∧ Rd w' R (lim + 50) ∧ w.grownBy w' (some R) := by
  obtain ⟨i0, hi, hz0, hz1, hz2⟩ := info_parts busInfo3
  have HI := Lib.hid hi
  have S0 := Lib.hid (show BusSt w ((w.alloc (.cells #[.int .i64 bs, .slice A n c] 25)).alloc (.cells #[] 43)) R lim bs n c A (.slice (some ⟨w.heap.size + 1, 0, none⟩) 0 0) [] from
    ⟨hR, (IsBlk.new w 25 #[.int .i64 bs, .slice A n c]).alloc _, by have := ownU_lit (w.alloc (.cells #[.int .i64 bs, .slice A n c] 25)); rw [World.size_alloc] at this; exact this, (hr.alloc _).alloc _, grown_then (grown_alloc _ _ _) (grown_alloc _ _ _)⟩)
  clear hi hr
  go_enter Tryd.func58, Tryd.ntmps58
  go_upto_region 2 with fail
  generalize (w.alloc (.cells #[.int .i64 bs, .slice A n c] 25)).alloc (.cells #[] 43) = W0 at *
  go_wp2
  go_loopw [7, 8] (fun v i wr => ∃ (k : Nat) (us : List TU), (k : Int) ≤ 9 ∧ i = .int .i64 k ∧ us.length = k ∧ BusSt w wr R (lim + 3 * k) bs n c A v us) (fun _ i _ => (bs - intOf i).toNat)
  case atStart => exact ⟨0, [], by omega, rfl, rfl, S0.out.mono (by omega)⟩
  case round =>
    obtain ⟨k, us, hk, rfl, hl, hst⟩ := hrel
    have SK := Lib.hid hst
    have KL := Lib.hid hl
    clear hst hl S0
    obtain ⟨p0, p1, p2, p3⟩ := SK.out.box.two
    by_cases hlt : (k : Int) < bs
    · go_wp2_with fail
      refine (pick_any R 20 _ (by omega) (by omega) _ SK.out.rd).mono ?_
      rintro e w1 ⟨v1, rfl, _, _, _, hr1, hg1⟩
      have S1 := Lib.hid (SK.out.pick hr1 hg1)
      clear hr1 hg1 SK p0 p1 p2 p3
      go_wp2_with fail
      have S2 := Lib.hid (S1.out.alloc (.cells #[.int .i64 0, .int .i64 v1] 43))
      have B2 := Lib.hid (IsBlk.new w1 43 #[.int .i64 0, .int .i64 v1])
      have HVB := Lib.hid S1.out.notown
      have hXb : w.heap.size < w1.heap.size := S1.out.box.lt
      have hRb : R < w1.heap.size := S1.out.rd.lt
      clear S1
      refine (pick_any R 3 _ (by omega) (by omega) _ S2.out.rd).mono ?_
      rintro e w2 ⟨v2, rfl, _, _, _, hr2, hg2⟩
      have S3 := Lib.hid (S2.out.pick hr2 hg2)
      have B3 := Lib.hid (B2.out.farG hg2 (fun e => by injection e with e; omega))
      clear S2 B2 hr2 hg2
      generalize w1.heap.size = b at *
      have hul : us.length ≤ 9 := by have := KL.out; omega
      by_cases hz : v2 = 0
      · subst hz
        go_wp2_with fail
        refine (pick_any R 80 _ (by omega) (by omega) _ S3.out.rd).mono ?_
        rintro e w3 ⟨v3, rfl, _, _, _, hr3, hg3⟩
        have S4 := Lib.hid (S3.out.pick hr3 hg3)
        have B4 := Lib.hid (B3.out.farG hg3 (fun e => by injection e with e; omega))
        clear S3 B3 hr3 hg3
        obtain ⟨c0, _, f0, _⟩ := B4.out.two
        have S5 := Lib.hid (S4.out.put hXb HVB.out 0 (.int .i64 v3))
        have B5 := Lib.hid (show IsBlk _ b 43 #[.int .i64 v3, .int .i64 v1] from B4.out.put 0 (.int .i64 v3))
        clear S4 B4
        go_upto_region 8 with fail
        clear c0 f0
        generalize w3.setCell ⟨b, 0, none⟩ (.int .i64 v3) = W5 at *
        obtain ⟨c0, c1, _, _⟩ := B5.out.two
        go_wp2_with (
          at_builtin
          refine wpList_append_own _ rfl _ _ _ rfl (w.heap.size + 1) 43 i0 (.agg #[.int .i64 0, .int .i64 0]) 2 16 Tryd.underlying27 HI.out hz0 hz1 hz2 rfl (by decide) _ _ _ rfl (World.ownsRow.alloc S5.out.own _) ⟨W5.heap.size, 0, none⟩ 1 1 (fU (v3, v1)) rfl rfl ?c1 ?c2 ?c3 ?c4 ?c5 ?_
          case c1 => exact newU W5 (v3, v1) _
          case c2 => intro u hu; simp [fU] at hu; rcases hu with rfl | rfl <;> rfl
          case c3 => simp only [maxLen]; omega
          case c4 => omega
          case c5 => have := S5.out.box.lt; simp; omega
          intro v' w8 hown' hgrow _
          have S6 := Lib.hid (S5.out.push _ (OwnU.snoc hown') hgrow))
        go_roundw
        case rel => exact ⟨k + 1, us ++ [(v3, v1)], by omega, by go_num, by rw [List.length_append, KL.out]; rfl, S6.out.mono (by omega)⟩
        case measure => simp [intOf]; omega
      · have hz0' : (v2 == 0) = false := by simpa using hz
        go_upto_region 8 with fail
        obtain ⟨c0, c1, _, _⟩ := B3.out.two
        go_wp2_with (
          at_builtin
          refine wpList_append_own _ rfl _ _ _ rfl (w.heap.size + 1) 43 i0 (.agg #[.int .i64 0, .int .i64 0]) 2 16 Tryd.underlying27 HI.out hz0 hz1 hz2 rfl (by decide) _ _ _ rfl (World.ownsRow.alloc S3.out.own _) ⟨w2.heap.size, 0, none⟩ 1 1 (fU (0, v1)) rfl rfl ?c1 ?c2 ?c3 ?c4 ?c5 ?_
          case c1 => exact newU w2 (0, v1) _
          case c2 => intro u hu; simp [fU] at hu; rcases hu with rfl | rfl <;> rfl
          case c3 => simp only [maxLen]; omega
          case c4 => omega
          case c5 => have := S3.out.box.lt; simp; omega
          intro v' w8 hown' hgrow _
          have S6 := Lib.hid (S3.out.push _ (OwnU.snoc hown') hgrow))
        go_roundw
        case rel => exact ⟨k + 1, us ++ [(0, v1)], by omega, by go_num, by rw [List.length_append, KL.out]; rfl, S6.out.mono (by omega)⟩
        case measure => simp [intOf]; omega
    · go_wp2_with fail
      refine (odd_any R nn _ (by omega) (by omega) _ SK.out.rd).mono ?_
      rintro e w1 ⟨vo, rfl, _, hr1, hg1⟩
      have S1 := Lib.hid (SK.out.pick hr1 hg1)
      have hsv := S1.out.own.row
      obtain ⟨Av, cv, rfl, _⟩ := hsv
      clear hr1 hg1 SK p0 p1 p2 p3
      have hul : us.length ≤ 9 := by have := KL.out; omega
      cases vo
      · go_wp2
        go_ret
        exact ⟨_, us, rfl, S1.out.own.more (by omega), by omega, S1.out.rd.mono (by omega), S1.out.gr⟩
      · go_wp2_with fail
        refine (pick_any R 3 _ (by omega) (by omega) _ S1.out.rd).mono ?_
        rintro e w2 ⟨v2, rfl, hv0, hv1, _, hr2, hg2⟩
        have hv3 := hv1 (by decide)
        have S2 := Lib.hid (S1.out.pick hr2 hg2)
        clear S1 hr2 hg2 hv1
        rcases (show v2 = 0 ∨ v2 = 1 ∨ v2 = 2 by omega) with rfl | rfl | rfl
        · go_wp2_with (
            at_builtin
            refine wpList_append_own _ rfl _ _ _ rfl (w.heap.size + 1) 43 i0 (.agg #[.int .i64 0, .int .i64 0]) 2 16 Tryd.underlying27 HI.out hz0 hz1 hz2 rfl (by decide) _ _ _ rfl (World.ownsRow.alloc S2.out.own _) ⟨w2.heap.size, 0, none⟩ 1 1 (fU (0, 0)) rfl rfl ?c1 ?c2 ?c3 ?c4 ?c5 ?_
            case c1 => exact newU w2 (0, 0) _
            case c2 => intro u hu; simp [fU] at hu; rcases hu with rfl | rfl <;> rfl
            case c3 => simp only [maxLen]; omega
            case c4 => omega
            case c5 => have := S2.out.box.lt; simp; omega
            intro v' w8 hown' hgrow _
            have S6 := Lib.hid (S2.out.push _ (OwnU.snoc hown') hgrow))
          go_ret
          exact ⟨_, us ++ [(0, 0)], rfl, S6.out.own.more (by omega), by rw [List.length_append]; simp; omega, S6.out.rd.mono (by omega), S6.out.gr⟩
        · go_wp2_with (
            at_builtin
            refine wpList_append_own _ rfl _ _ _ rfl (w.heap.size + 1) 43 i0 (.agg #[.int .i64 0, .int .i64 0]) 2 16 Tryd.underlying27 HI.out hz0 hz1 hz2 rfl (by decide) _ _ _ rfl (World.ownsRow.alloc S2.out.own _) ⟨w2.heap.size, 0, none⟩ 1 1 (fU (-1, 0)) rfl rfl ?c1 ?c2 ?c3 ?c4 ?c5 ?_
            case c1 => exact newU w2 (-1, 0) _
            case c2 => intro u hu; simp [fU] at hu; rcases hu with rfl | rfl <;> rfl
            case c3 => simp only [maxLen]; omega
            case c4 => omega
            case c5 => have := S2.out.box.lt; simp; omega
            intro v' w8 hown' hgrow _
            have S6 := Lib.hid (S2.out.push _ (OwnU.snoc hown') hgrow))
          go_ret
          exact ⟨_, us ++ [(-1, 0)], rfl, S6.out.own.more (by omega), by rw [List.length_append]; simp; omega, S6.out.rd.mono (by omega), S6.out.gr⟩
        · by_cases h0 : us.length = 0
          · rw [h0] at S2 ⊢
            go_wp2
            go_ret
            exact ⟨_, us, rfl, S2.out.own.more (by omega), by omega, S2.out.rd.mono (by omega), S2.out.gr⟩
          · have h0' : (0 : Int) < (us.length : Int) := by omega
            have hu0 : us[0]? = some (us[0]'(by omega)) := List.getElem?_eq_getElem _
            generalize (us[0]'(by omega)) = u at hu0
            go_wp2_with fail
            have S3 := Lib.hid (S2.out.alloc (.cells #[.int .i64 (-1), .int .i64 1000] 3))
            have B3 := Lib.hid (IsBlk.new w2 3 #[.int .i64 (-1), .int .i64 1000])
            have hRb : R < w2.heap.size := S2.out.rd.lt
            refine (pick_any R 2 _ (by omega) (by omega) _ S3.out.rd).mono ?_
            rintro e w3 ⟨v3, rfl, ht0, ht1, _, hr3, hg3⟩
            have ht3 := ht1 (by decide)
            have S4 := Lib.hid (S3.out.pick hr3 hg3)
            have B4 := Lib.hid (B3.out.farG hg3 (fun e => by injection e with e; omega))
            obtain ⟨c0, c1, _, _⟩ := B4.out.two
            clear S2 S3 B3 B4 hr3 hg3 ht1
            generalize w2.heap.size = b at *
            rcases (show v3 = 0 ∨ v3 = 1 by omega) with rfl | rfl
            · obtain ⟨g, cap, hge, hgb, _, f0, ⟨z, d0⟩, ho⟩ := S4.out.own.put (k := 0) (j := 1) (u := u) (u' := (u.1, -1)) (x := .int .i64 (-1)) hu0 (by decide) rfl
              injection hge with hA hn hc
              subst hA hc
              have HO := Lib.hid (S4.out.first hgb ho)
              clear ho S4 hu0
              simp only [Nat.zero_mul, Nat.zero_add] at f0 d0 HO
              go_wp2
              go_ret
              exact ⟨_, us.set 0 (u.1, -1), rfl, OwnU.more (base := w.heap.size + 1) HO.out.own (Nat.le_succ _), by rw [List.length_set]; omega, HO.out.rd.mono (by omega), HO.out.gr⟩
            · obtain ⟨g, cap, hge, hgb, _, f0, ⟨z, d0⟩, ho⟩ := S4.out.own.put (k := 0) (j := 1) (u := u) (u' := (u.1, 1000)) (x := .int .i64 1000) hu0 (by decide) rfl
              injection hge with hA hn hc
              subst hA hc
              have HO := Lib.hid (S4.out.first hgb ho)
              clear ho S4 hu0
              simp only [Nat.zero_mul, Nat.zero_add] at f0 d0 HO
              go_wp2
              go_ret
              exact ⟨_, us.set 0 (u.1, 1000), rfl, OwnU.more (base := w.heap.size + 1) HO.out.own (Nat.le_succ _), by rw [List.length_set]; omega, HO.out.rd.mono (by omega), HO.out.gr⟩
end Go.Proofs.YtcfnkjblhhmbeaaDoor

/- The drawing of a network, a state and buses beside a reader; and what draws by it. -/
namespace Go.Proofs.YtcfnkjblhhmbeaaDoor
open Go.ChangeShapes Go.WideShapes Go.ChangeAt Go.RowKit

theorem OwnU.far1 {wx : World} {base q : Nat} {v : Value} {us : List TU} (h : OwnU wx base v us) (hq : q < base) (u u' : Value) : OwnU ((wx.setCell ⟨q, 0, none⟩ u).setCell ⟨q, 1, none⟩ u') base v us :=
  h.far (grown_then (grown_put _ _ _ _) (grown_put _ _ _ _)) (fun p hp e => by injection e with e; have := (h.lt p hp).1; omega)
theorem OwnU.pick {w w' : World} {base : Nat} {v : Value} {us : List TU} {R : Nat} (h : OwnU w base v us) (hg : w.grownBy w' (some R)) (hR : R < base) : OwnU w' base v us :=
  h.far hg (fun q hq e => by injection e with e; have := (h.lt q hq).1; omega)

set_option maxRecDepth 100000 in
set_option maxHeartbeats 1000000 in
theorem powered_any (R : Nat) (n lim : Int) (hlim : lim ≤ 700000) (hn0 : 0 ≤ n) (hn : n ≤ 200) (w : World) (hR : R < w.heap.size) (hr : Rd w R lim) :
    Calls Tryd.prog 34 #[.pointer (some ⟨R, 0, none⟩), .int .i64 n] w fun e w' => ∃ bs A c ls v ts u us, e = .returned (.tuple #[.agg #[.int .i64 bs, .slice A ls.length c], v, u]) ∧ OwnL w' (w.heap.size + 1) (.slice A ls.length c) ls ∧ ls.length ≤ 12 ∧ -1 ≤ bs ∧ bs ≤ 9 ∧ OwnT w' (w.heap.size + 1) v ts ∧ ts.length ≤ 13 ∧ OwnU w' (w.heap.size + 1) u us ∧ us.length ≤ 10 ∧ Rd w' R (lim + 250) ∧ w.grownBy w' (some R) := by
  have hw : IntKind.i64.wrap (2 * n) = 2 * n := IntWalk.i64_in _ (by omega)
  go_enter Tryd.func34, Tryd.ntmps34
  go_wp2_with fail
  refine (switched_any R (2 * n) lim (by omega) (by omega) (by omega) _ (by simp; omega) (hr.alloc _)).mono ?_
  rintro e w2 ⟨bs, A', c', ls, v, ts, rfl, ho, hl, hb0, hb9, hO, hts, hr2, hg2⟩
  obtain ⟨As, cs, rfl, _, _⟩ := hO.row
  have S1 := Lib.hid (sw_start (bs := bs) hR ho hr2 hg2)
  have O1 := Lib.hid (show OwnT (w2.alloc (.cells #[.int .i64 bs, .slice A' ls.length c'] 25)) (w.heap.size + 1) (.slice As ts.length cs) ts from (hO.more (by simp)).keep (below_bx _ _))
  clear hr2 hg2 ho hO hr
  go_upto_region 2 with fail
  obtain ⟨p0, p1, p2, p3⟩ := S1.out.var.two
  obtain ⟨q0, q1, q2, q3⟩ := S1.out.ret.two
  have hX1 : ¬ w.heap.size = w2.heap.size := by have := S1.out.hX; omega
  generalize w2.heap.size = X at *
  have D1 := Lib.hid S1.out.drew
  have DO := Lib.hid (show OwnT (w2.alloc (.cells #[.int .i64 bs, .slice A' ls.length c'] 25)).drew (w.heap.size + 1) (.slice As ts.length cs) ts from O1.out)
  have HN1 := Lib.hid (show 2 * n ≤ 1000 by omega)
  have HL1 := Lib.hid (show lim + 200 ≤ 900000 by omega)
  have HB0 := Lib.hid hb0
  have HB9 := Lib.hid hb9
  have HRB := Lib.hid (show R < w.heap.size + 1 by omega)
  clear S1 O1
  go_region_with (first
    | (go_at_call 58; refine (buses_any R bs A' ls.length c' (2 * n) _ HL1.out HN1.out HB0.out HB9.out _ D1.out.rd.lt D1.out.rd).mono ?_; rintro e w3 ⟨vu, us, rfl, hU, hus, hr3, hg3⟩; have T1 := Lib.hid (D1.out.pick hr3 hg3); have TT := Lib.hid (DO.out.pick hg3 HRB.out); have TU := Lib.hid hU; clear hU; obtain ⟨p0, p1, p2, p3⟩ := T1.out.var.two; obtain ⟨q0, q1, q2, q3⟩ := T1.out.ret.two))
  all_goals go_wp2_with fail
  all_goals
    obtain ⟨o4, r4, g4⟩ := T1.out.done (.int .i64 bs) (.slice A' ls.length c')
    obtain ⟨Au, cu, rfl, _⟩ := TU.out.row
    refine bodyPost_ret (v := .tuple #[.agg #[.int .i64 bs, .slice A' ls.length c'], .slice As ts.length cs, .slice Au us.length cu]) (by simp [results, Tryd.results34, go_sem, q0, q1]) rfl ⟨bs, A', c', ls, _, ts, _, us, rfl, o4, hl, hb0, hb9, TT.out.far1 (by omega) _ _, hts, (TU.out.far1 (by have := D1.out.hX; have := D1.out.var.lt; omega) _ _).more (by have := D1.out.hX; have := D1.out.var.lt; omega), hus, r4.mono (by omega), g4⟩

/-- The answer of such a drawing without a bus. -/
def Powered (w : World) (e : Ending) (w' : World) : Prop := ∃ bs A c ls v ts u us, e = .returned (.tuple #[.agg #[.int .i64 bs, .slice A ls.length c], v, u]) ∧ RowL w' A ls.length ls ∧ ls.length ≤ 12 ∧ -1 ≤ bs ∧ bs ≤ 9 ∧ OwnT w' w.heap.size v ts ∧ ts.length ≤ 13 ∧ OwnU w' w.heap.size u us ∧ us.length ≤ 10 ∧ Below w.heap.size w w'
/-- The network is stored into the result; the buses are where they were. -/
theorem storedU {w w1 w2 : World} {u : Value} {us : List TU} (hs : w1.heap.size = w.heap.size + 1 + 1) (hU : OwnU w2 (w1.heap.size + 1) u us) (x y : Value) :
    OwnU ((w2.setCell ⟨w.heap.size, 0, none⟩ x).setCell ⟨w.heap.size, 1, none⟩ y) w.heap.size u us := (hU.far1 (by omega) _ _).more (by omega)

end Go.Proofs.YtcfnkjblhhmbeaaDoor

/- The drawings of FnBusesValid, FnIslandFeed and FnIslandLoad. -/
namespace Go.Proofs.YtcfnkjblhhmbeaaDoor
open Go.ChangeShapes Go.WideShapes Go.ChangeAt Go.RowKit

theorem OwnL.far1 {wx : World} {base q : Nat} {v : Value} {ls : List L3} (h : OwnL wx base v ls) (hq : q < base) (u u' : Value) : OwnL ((wx.setCell ⟨q, 0, none⟩ u).setCell ⟨q, 1, none⟩ u') base v ls :=
  h.far (grown_then (grown_put _ _ _ _) (grown_put _ _ _ _)) (fun p hp e => by injection e with e; have := (World.ownsRow.lt h p hp).1; omega)
theorem OwnL.rowL {w : World} {base n c : Nat} {A : Option Addr} {ls : List L3} (h : OwnL w base (.slice A n c) ls) : RowL w A n ls := by
  obtain ⟨A', c', e, hr⟩ := h.row
  injection e with e1 e2
  subst e1 e2; exact hr
/-- The answer of such a drawing with a bus. -/
def PoweredBus (w : World) (e : Ending) (w' : World) : Prop := ∃ bs A c ls v ts u us bus, e = .returned (.tuple #[.agg #[.int .i64 bs, .slice A ls.length c], v, u, .int .i64 bus]) ∧ OwnL w' w.heap.size (.slice A ls.length c) ls ∧ ls.length ≤ 12 ∧ -1 ≤ bs ∧ bs ≤ 9 ∧ OwnT w' w.heap.size v ts ∧ ts.length ≤ 13 ∧ OwnU w' w.heap.size u us ∧ us.length ≤ 10 ∧ Below w.heap.size w w'

end Go.Proofs.YtcfnkjblhhmbeaaDoor
