/- The drawing of a network: whatever the bytes, it is some network, in new memory. -/
import Derived.Test.YtcdliaabbhoagaaDoorD1
import Derived.Maps.AppendAt
import Derived.OwnWalk
import Derived.Deep.RegionWith
import Derived.Deep.LoopGhost
import Derived.Deep.AppendLies
import Derived.Deep.RegionLaw
import Derived.Deep.CutBlock
namespace Go.Proofs.YtcdliaabbhoagaaDoor
open Go.ChangeShapes Go.WideShapes Go.ChangeAt Go.RowKit

/-- A slice of lines of the call's own. -/
def OwnL (w : World) (base : Nat) (v : Value) (ls : List L3) : Prop := w.ownsRow base 45 3 v ls.length (ls.flatMap fL)
theorem OwnL.keep {w w' : World} {base : Nat} {v : Value} {xs : List L3} (h : OwnL w base v xs) (hb : Below w.heap.size w w') : OwnL w' base v xs :=
  World.ownsRow.kept (row := none) h ⟨hb.os, hb.tape, hb.output, hb.size, fun i hi _ => hb.block i hi⟩ (Classical.em _)
theorem OwnL.far {w w' : World} {base : Nat} {v : Value} {xs : List L3} {row : Option Nat} (h : OwnL w base v xs) (hg : w.grownBy w' row) (hne : ∀ q, v.ownBlock = some q → row ≠ some q) : OwnL w' base v xs := by
  refine World.ownsRow.kept h hg ?_
  rcases hq : v.ownBlock with _ | q
  · exact .inl rfl
  · exact .inr (fun e => hne q hq e.symm)
theorem OwnL.row {w : World} {base : Nat} {v : Value} {ls : List L3} (h : OwnL w base v ls) : ∃ A c, v = .slice A ls.length c ∧ RowL w A ls.length ls := by
  rcases h.2 with ⟨rfl, h0⟩ | ⟨g, cap, cur, rfl, hb, hg, hn, hc, hsz, ht⟩
  · exact ⟨none, 0, by rw [h0], rfl, fun hp => absurd hp (by omega)⟩
  · refine ⟨some ⟨g, 0, none⟩, cap, rfl, rfl, fun _ => ⟨g, 0, rfl, (Array.getElem?_eq_some_iff.1 hg).1, fun k l hk => ?_⟩⟩
    have hlt : k < ls.length := (List.getElem?_eq_some_iff.1 hk).1
    have one : ∀ j, j < 3 → w.cell? ⟨g, 0 + k * 3 + j, none⟩ = (fL l)[j]? := by
      intro j hj
      rw [cell_of_row w g _ cur 45 (0, 0) hg, Nat.zero_add, ← Array.getElem?_toList]
      have e := flat_get (f := fL) fL_len ls k l j hk hj
      rw [← ht, List.getElem?_take_of_lt (by omega)] at e
      exact e
    exact ⟨one 0 (by omega), one 1 (by omega), one 2 (by omega)⟩

/-- While a network is drawn: the result's block, the variable's block, its lines, the reader. -/
structure NetSt (w0 w : World) (R X : Nat) (lim : Int) (bs : Int) (v : Value) (ls : List L3) : Prop where
  ret : IsBlk w w0.heap.size 25 #[.int .i64 0, .slice none 0 0]
  far : w0.heap.size < X
  var : IsBlk w X 25 #[.int .i64 bs, v]
  own : OwnL w (X + 1) v ls
  rd : Rd w R lim
  grown : w0.grownBy w (some R)
section
variable {w0 w w' : World} {R X : Nat} {lim lim' : Int} {bs : Int} {v : Value} {ls : List L3}
theorem NetSt.pick (hR : R < w0.heap.size) (h : NetSt w0 w R X lim bs v ls) (hr : Rd w' R lim') (hg : w.grownBy w' (some R)) : NetSt w0 w' R X lim' bs v ls := by
  have hf := h.far
  exact ⟨(hg.block _ h.ret.lt (by simp; omega)).trans h.ret, h.far, (hg.block _ h.var.lt (by simp; omega)).trans h.var,
    h.own.far hg (fun q hq e => by injection e with e; have := (World.ownsRow.lt h.own q hq).1; omega), hr, grown_then h.grown hg⟩
theorem NetSt.keep (h : NetSt w0 w R X lim bs v ls) (hb : Below w.heap.size w w') : NetSt w0 w' R X lim bs v ls :=
  ⟨h.ret.keep hb, h.far, h.var.keep hb, h.own.keep hb, h.rd.keep hb, grown_then h.grown ⟨hb.os, hb.tape, hb.output, hb.size, fun k hk _ => hb.block k hk⟩⟩
theorem NetSt.drew (h : NetSt w0 w R X lim bs v ls) : NetSt w0 w.drew R X lim bs v ls := ⟨h.ret, h.far, h.var, h.own, h.rd, h.grown.os, h.grown.tape, h.grown.output, h.grown.size, h.grown.block⟩
theorem NetSt.mono (h : NetSt w0 w R X lim bs v ls) (hl : lim ≤ lim') : NetSt w0 w R X lim' bs v ls := ⟨h.ret, h.far, h.var, h.own, h.rd.mono hl, h.grown⟩
/-- A line is appended. -/
theorem NetSt.push (hR : R < w0.heap.size) (h : NetSt w0 w R X lim bs v ls) (o : Obj) {w8 : World} {v' : Value} {l : L3} (hown : w8.ownsRow (X + 1) 45 3 v' (ls.length + 1) (ls.flatMap fL ++ fL l)) (hg : (w.alloc o).grownBy w8 v.ownBlock) :
    NetSt w0 (w8.setCell ⟨X, 1, none⟩ v') R X lim bs v' (ls ++ [l]) ∧ IsBlk w8 X 25 #[.int .i64 bs, v] := by
  have hf := h.far
  have hq : ∀ q, v.ownBlock = some q → X + 1 ≤ q := fun q e => (World.ownsRow.lt h.own q e).1
  have hx : X < w.heap.size := h.var.lt
  have hr : w0.heap.size < w.heap.size := h.ret.lt
  have keep : ∀ k, k < w.heap.size → k ≤ X → w8.heap[k]? = w.heap[k]? := fun k hk hkX => (hg.block k (by simp; omega) (fun e => by have := hq k e.symm; omega)).trans (Below.heap_alloc w o k hk)
  have var8 : IsBlk w8 X 25 #[.int .i64 bs, v] := (keep X hx (Nat.le_refl _)).trans h.var
  have hgp : w8.grownBy (w8.setCell ⟨X, 1, none⟩ v') (some X) := grown_put _ _ _ _
  have own8 : OwnL w8 (X + 1) v' (ls ++ [l]) := by
    show World.ownsRow _ _ _ _ _ (ls ++ [l]).length _
    rw [List.length_append, List.flatMap_append, List.flatMap_singleton]; exact hown
  refine ⟨⟨IsBlk.far ((keep _ hr (by omega)).trans h.ret) (by simp; omega) _, hf, var8.put 1 _, own8.far hgp (fun q e e2 => by injection e2 with e2; have := (World.ownsRow.lt own8 q e).1; omega), ((h.rd.alloc o).grown hg (fun q e => by have := hq q e; omega)).far (by omega) hgp, ?_⟩, var8⟩
  have hsz : w.heap.size ≤ w8.heap.size := by have := hg.size; simp at this; omega
  refine ⟨hgp.os.trans (hg.os.trans h.grown.os), hgp.tape.trans (hg.tape.trans h.grown.tape), hgp.output.trans (hg.output.trans h.grown.output), Nat.le_trans h.grown.size (Nat.le_trans hsz hgp.size), fun k hk hne => ?_⟩
  have := h.grown.size
  exact (hgp.block k (by omega) (by simp; omega)).trans ((keep k (by omega) (by omega)).trans (h.grown.block k hk hne))
/-- Fresh lines are stored. -/
theorem NetSt.fresh (hR : R < w0.heap.size) (h : NetSt w0 w R X lim bs v ls) (ls' : List L3) (hm : ls'.length ≤ maxLen) (n : Nat) (hn : ls'.length = n) :
    NetSt w0 ((w.alloc (.cells (rowArr fL ls') 45)).setCell ⟨X, 1, none⟩ (.slice (some ⟨w.heap.size, 0, none⟩) n n)) R X lim bs (.slice (some ⟨w.heap.size, 0, none⟩) n n) ls' := by
  subst hn
  have hf := h.far
  have hx : X < w.heap.size := h.var.lt
  have k := h.keep (below_bx w (.cells (rowArr fL ls') 45))
  have hgp : (w.alloc (.cells (rowArr fL ls') 45)).grownBy ((w.alloc (.cells (rowArr fL ls') 45)).setCell ⟨X, 1, none⟩ (.slice (some ⟨w.heap.size, 0, none⟩) ls'.length ls'.length)) (some X) := grown_put _ _ _ _
  have own8 : OwnL (w.alloc (.cells (rowArr fL ls') 45)) (X + 1) (.slice (some ⟨w.heap.size, 0, none⟩) ls'.length ls'.length) ls' := by
    have hs : (rowArr fL ls').size = ls'.length * 3 := by rw [rowArr, List.size_toArray, flat_len fL_len]
    have := World.ownsRow_lit (base := X + 1) (size := 3) (e := 45) w (rowArr fL ls') ls'.length (by omega) hm hs
    exact this
  refine ⟨IsBlk.far k.ret (by simp; omega) _, hf, k.var.put 1 _, own8.far hgp (fun q e e2 => by injection e2 with e2; have := (World.ownsRow.lt own8 q e).1; omega), k.rd.far (by omega) hgp, ?_⟩
  have := k.grown.size
  exact ⟨hgp.os.trans k.grown.os, hgp.tape.trans k.grown.tape, hgp.output.trans k.grown.output, Nat.le_trans k.grown.size hgp.size, fun q hk hne => (hgp.block q (by omega) (by simp; omega)).trans (k.grown.block q hk hne)⟩
/-- A store into the variable. -/
theorem NetSt.store (hR : R < w0.heap.size) (h : NetSt w0 w R X lim bs v ls) (b' : Int) : NetSt w0 (w.setCell ⟨X, 0, none⟩ (.int .i64 b')) R X lim b' v ls := by
  have hf := h.far
  have hx : X < w.heap.size := h.var.lt
  have hg : w.grownBy (w.setCell ⟨X, 0, none⟩ (.int .i64 b')) (some X) := grown_put _ _ _ _
  refine ⟨h.ret.far (by simp; omega) _, h.far, h.var.put 0 _, h.own.far hg (fun q hq e => by injection e with e; have := (World.ownsRow.lt h.own q hq).1; omega), h.rd.far (by omega) hg, ?_⟩
  · exact ⟨hg.os.trans h.grown.os, hg.tape.trans h.grown.tape, hg.output.trans h.grown.output, Nat.le_trans h.grown.size hg.size, fun k hk hne => (hg.block k (by have := h.grown.size; omega) (by simp; omega)).trans (h.grown.block k hk hne)⟩
end

theorem news_new (w : World) (l : L3) (t : TypeId) : ∀ j u, (fL l)[j]? = some u → (w.alloc (.cells (fL l).toArray t)).cell? ((⟨w.heap.size, 0, none⟩ : Addr).add j) = some u := by
  intro j u hj
  have h := (IsBlk.new w t (fL l).toArray).cell j
  have ha : (⟨w.heap.size, 0, none⟩ : Addr).add j = ⟨w.heap.size, j, none⟩ := by unfold Addr.add; split <;> simp_all
  rw [ha, h, ← hj]; simp
theorem news_at (_n : Nat) (w : World) {o : Obj} (l : L3) (t : TypeId) : ∀ j u, (fL l)[j]? = some u → ((w.alloc o).alloc (.cells (fL l).toArray t)).cell? ((⟨w.heap.size + 1, 0, none⟩ : Addr).add j) = some u := by
  have h := news_new (w.alloc o) l t
  simp only [World.size_alloc] at h
  exact h
theorem two_at {w : World} {g : Nat} {t : TypeId} {x y : Int} (h : w.heap[g]? = some (.cells #[.int .i64 x, .int .i64 y] t (0, 0))) {j : Int} (h0 : 0 ≤ j) (h1 : j < 2) : ∃ z, w.cell? ⟨g, j.toNat, none⟩ = some (.int .i64 z) := by
  rcases (show j = 0 ∨ j = 1 by omega) with rfl | rfl
  · exact ⟨x, IsBlk.cell h 0⟩
  · exact ⟨y, IsBlk.cell h 1⟩
theorem lineInfo : (Tryd.prog.info? 45).map (fun i => (i.zero, i.size, i.bytes)) = some (some (.agg #[.int .i64 0, .int .i64 0, .int .i64 0]), 3, 24) := by kernel_rfl
def lines11 : Array Value := rowArr fL (List.replicate 11 (0, 0, 0))
theorem make11 (w : World) : (Instr.makeSlice 23 (.int .i64 11) (.int .i64 11)).run Tryd.prog w = .ok (.slice (some ⟨w.heap.size, 0, none⟩) 11 11) (w.alloc (.cells lines11 45)) := by
  obtain ⟨i0, hi, hz0, hz1, hz2⟩ := info_parts lineInfo
  have := run_make (P := Tryd.prog) w 23 45 i0 _ Tryd.underlying23 hi hz0 .i64 .i64 11 11 (by omega) (by omega) (by rw [hz2]; omega) (by omega)
  rw [this]
  show Result.ok _ (w.alloc (.cells (madeCells (Value.agg #[.int .i64 0, .int .i64 0, .int .i64 0]).cells (11 * i0.size)) _)) = _
  rw [hz1, madeCells_row (f := fL) fL_len (Value.agg #[.int .i64 0, .int .i64 0, .int .i64 0]).cells (0, 0, 0) rfl (by omega)]
  rfl
theorem other_bus {bs va vc : Int} (h1 : 2 ≤ bs) (h2 : bs ≤ 8) (_h3 : 0 ≤ va) (h4 : va < bs) (h5 : 0 ≤ vc) (h6 : vc < bs - 1) :
    0 ≤ (va + 1 + vc) % bs ∧ (va + 1 + vc) % bs < bs ∧ (va != (va + 1 + vc) % bs) = true := by
  refine ⟨Int.emod_nonneg _ (by omega), Int.emod_lt_of_pos _ (by omega), ?_⟩
  rw [bne_iff_ne]
  rcases (show bs = 2 ∨ bs = 3 ∨ bs = 4 ∨ bs = 5 ∨ bs = 6 ∨ bs = 7 ∨ bs = 8 by omega) with rfl | rfl | rfl | rfl | rfl | rfl | rfl <;> omega
theorem lineOk_mk {bs a b m : Int} (h0 : 0 ≤ a) (h1 : a < bs) (h2 : 0 ≤ b) (h3 : b < bs) (h4 : (a != b) = true) (h5 : 1 ≤ m) (h6 : m ≤ 999) : lineOk bs (a, b, m) = true := by
  simp only [lineOk, inB, Bool.and_eq_true, decide_eq_true_eq]
  exact ⟨⟨⟨⟨h0, by omega⟩, ⟨h2, by omega⟩⟩, h4⟩, ⟨h5, h6⟩⟩
theorem all_snoc {bs : Int} {ls : List L3} {l : L3} (h : ls.all (lineOk bs) = true) (hl : lineOk bs l = true) : (ls ++ [l]).all (lineOk bs) = true := by
  rw [List.all_append, h, List.all_cons, hl]; rfl
theorem netOk_mk {bs : Int} {ls : List L3} (h1 : 1 ≤ bs) (h2 : bs ≤ 8) (h3 : ls.length ≤ 10) (h : ls.all (lineOk bs) = true) : netOk bs ls = true := by
  simp only [netOk, inB, Bool.and_eq_true, decide_eq_true_eq]; exact ⟨⟨⟨h1, h2⟩, h3⟩, h⟩
set_option maxRecDepth 100000 in
set_option maxHeartbeats 4000000 in
theorem net_full (R : Nat) (n : Int) (lim : Int) (hlim : lim ≤ 900000) (hn : n ≤ 1000) (w : World) (hR : R < w.heap.size) (hr : Rd w R lim) :
    Calls Tryd.prog 31 #[.pointer (some ⟨R, 0, none⟩), .int .i64 n] w fun e w' => ∃ bs v ls, e = .returned (.agg #[.int .i64 bs, v]) ∧ OwnL w' (w.heap.size + 1) v ls ∧ ls.length ≤ 12 ∧ -1 ≤ bs ∧ bs ≤ 9 ∧ Rd w' R (lim + 100) ∧ w.grownBy w' (some R) ∧ (n ≤ 0 → netOk bs ls = true) := by
  obtain ⟨i0, hi, hz0, hz1, hz2⟩ := info_parts lineInfo
  have I0 := Lib.hid hi
  clear hi
  go_enter Tryd.func31, Tryd.ntmps31
  go_wp2_with fail
  refine (pick_any R 8 lim (by omega) (by omega) _ (hr.alloc _)).mono ?_
  rintro e w1 ⟨v1, rfl, hv0, hv1, _, hr1, hg1⟩
  have hs1 : w.heap.size + 1 ≤ w1.heap.size := by have := hg1.size; simpa using this
  have S1 := Lib.hid (show NetSt w (w1.alloc (.cells #[.int .i64 (1 + v1), .slice none 0 0] 25)) R w1.heap.size (lim + 1) (1 + v1) (.slice none 0 0) [] from
    ⟨IsBlk.alloc ((hg1.block _ (by simp) (by simp; omega)).trans (IsBlk.new w 25 #[.int .i64 0, .slice none 0 0])) _, by omega, IsBlk.new _ _ _, World.ownsRow_nil _ _ _ _, hr1.alloc _, grown_then (grown_then (grown_alloc w _ _) hg1) (grown_alloc _ _ _)⟩)
  go_wp2_with fail
  refine (pick_any R 3 _ (by omega) (by omega) _ S1.out.rd).mono ?_
  rintro e w2 ⟨v2, rfl, hu0, hu1, _, hr2, hg2⟩
  have S2 := Lib.hid (S1.out.pick hR hr2 hg2)
  go_upto_if 15 with fail
  generalize w1.heap.size = X at *
  have hX : w.heap.size < X := by omega
  go_cut [] (fun wx => ∃ bs, 1 ≤ bs ∧ bs ≤ 8 ∧ NetSt w wx R X (lim + 3) bs (.slice none 0 0) [])
  case first =>
    by_cases hc : 0 < v2
    · go_wp2_with fail
      refine (pick_any R 4 _ (by omega) (by omega) _ S2.out.rd).mono ?_
      rintro e w3 ⟨v3, rfl, ht0, ht1, _, hr3, hg3⟩
      have S3 := Lib.hid (S2.out.pick hR hr3 hg3)
      obtain ⟨p0, p1, p2, p3⟩ := S3.out.var.two
      go_wp2_with fail
      go_meet
      have S4 := S3.out.store hR (4 + v3)
      exact ⟨4 + v3, by omega, by omega, S4.ret, S4.far, S4.var, S4.own, S4.rd.mono (by omega), S4.grown⟩
    · go_wp2_with fail
      go_meet
      have S4 := S2.out
      exact ⟨1 + v1, by omega, by omega, S4.ret, S4.far, S4.var, S4.own, S4.rd.mono (by omega), S4.grown⟩
  case rest =>
    obtain ⟨bs, hb0, hb1, hS⟩ := hcut
    have S5 := Lib.hid hS
    clear hS S1 S2
    go_wp2_with fail
    refine (pick_any R 11 _ (by omega) (by omega) _ S5.out.rd).mono ?_
    rintro e w4 ⟨v4, rfl, hk0, hk1, _, hr4, hg4⟩
    have S6 := Lib.hid (S5.out.pick hR hr4 hg4)
    obtain ⟨m, rfl⟩ := Int.eq_ofNat_of_zero_le hk0
    clear S5 hr4 hg4
    go_upto_block 0 with fail
    go_cut [6, 7, 8] (fun s6 s7 s8 wx => ∃ v ls, NetSt w wx R X (lim + 34) bs v ls ∧ ls.length ≤ 10 ∧ ls.all (lineOk bs) = true)
    case first =>
     go_wp2_with fail
     go_loopg [6] m (fun g s6 wx => s6 = .int .i64 (g : Int) ∧ g ≤ 10 ∧ ∃ v ls, NetSt w wx R X (lim + 4 + 3 * (10 - (g : Int))) bs v ls ∧ ls.length + g ≤ 10 ∧ ls.all (lineOk bs) = true)
     case atStart =>
       have S7 := S6.out
       exact ⟨rfl, by omega, _, [], ⟨S7.ret, S7.far, S7.var, S7.own, S7.rd.mono (by omega), S7.grown⟩, by simp; omega, rfl⟩
     case round =>
       obtain ⟨rfl, hg10, v, ls, hS, hlen, hall⟩ := hrel
       have HAll := Lib.hid hall
       clear hall
       have S7 := Lib.hid hS
       obtain ⟨p0, p1, p2, p3⟩ := S7.out.var.two
       have HLen := Lib.hid hlen
       clear hS hlen
       by_cases hgo : 0 < gk ∧ 1 < bs
       · obtain ⟨h1, h2⟩ := hgo
         have h3 : (0 : Int) < (gk : Int) := by omega
         go_wp2_with fail
         refine (pick_any R bs _ (by omega) (by omega) _ S7.out.rd).mono ?_
         rintro e w5 ⟨va, rfl, ha0, ha1, _, hr5, hg5⟩
         have S8 := Lib.hid (S7.out.pick hR hr5 hg5)
         clear p0 p1 p2 p3 hr5 hg5
         go_upto_region 8 with fail
         obtain ⟨p0, p1, p2, p3⟩ := S8.out.var.two
         have hva1 : va < bs := ha1 (by omega)
         go_cut [8] (fun s wx => (∃ z : Int, s = .int .i64 z ∧ 0 ≤ z ∧ z < bs ∧ (va != z) = true) ∧ NetSt w wx R X (lim + 4 + 3 * (10 - (gk : Int)) + 2) bs v ls)
         case first =>
           have D8 := Lib.hid S8.out.drew
           have hbz : (bs == 0) = false := by simp; omega
           have E1 := Lib.hid (show lim + 4 + 3 * (10 - (gk : Int)) + 1 ≤ 1000000 by omega)
           have E2 := Lib.hid (show bs - 1 ≤ 1000000 by omega)
           have wb1 : IntKind.i64.wrap (bs - 1) = bs - 1 := IntWalk.i64_in _ (by omega)
           go_region_with (go_at_call 43; refine (pick_any R (bs - 1) _ E1.out E2.out _ D8.out.rd).mono ?_; rintro e w6 ⟨vc, rfl, hc0, hc1, _, hr6, hg6⟩; have S8' := Lib.hid (D8.out.pick hR hr6 hg6); obtain ⟨q0, q1, q2, q3⟩ := S8'.out.var.two)
           all_goals go_wp2_with fail
           all_goals go_meet
           all_goals clear wb1
           all_goals exact ⟨⟨_, rfl, other_bus (by omega) (by omega) (by omega) (by omega) (by omega) (hc1 (by omega))⟩, S8'.out.mono (by omega)⟩
         case rest =>
           obtain ⟨⟨vb, rfl, hvb0, hvb1, hvn⟩, hS⟩ := hcut
           have HVN := Lib.hid hvn
           clear hvn
           have S9 := Lib.hid hS
           clear hS p0 p1 p2 p3
           go_upto_region 9 with fail
           obtain ⟨p0, p1, p2, p3⟩ := S9.out.var.two
           have D9 := Lib.hid S9.out.drew
           have LH : ls.length ≤ 10 := by have := HLen.out; omega
           have E3 := Lib.hid (show lim + 4 + 3 * (10 - (gk : Int)) + 2 ≤ 1000000 by omega)
           go_region_law (first
             | (refine step_append_lies _ rfl (.tmp 47) (.tmp 54) 23 rfl (X + 1) 45 i0 (.agg #[.int .i64 0, .int .i64 0, .int .i64 0]) 3 24 Tryd.underlying23 I0.out hz0 hz1 hz2 rfl (by decide) v ls.length (ls.flatMap fL) rfl (World.ownsRow.alloc S10.out.own _) ⟨w7.heap.size, 0, none⟩ 1 1 (fL (va, vb, 1 + vd)) rfl rfl ?c1 ?c2 (by decide) ?c3 ?c4 ?c5 _ rfl ?_
                case c1 => exact news_new w7 (va, vb, 1 + vd) _
                case c2 => intro u hu; simp [fL] at hu; rcases hu with rfl | rfl | rfl <;> rfl
                case c3 => clear wd; simp only [maxLen]; omega
                case c4 => clear wd; omega
                case c5 => clear wd; have := S10.out.var.lt; simp; omega
                intro g cap w8 hown8 hgrow8 hat8 hlt8
                have S11 := Lib.hid (S10.out.push hR _ hown8 hgrow8)
                obtain ⟨t0, t1, t2, t3⟩ := S11.out.2.two)
             | (go_simp; go_at_call 43; refine (pick_any R 40 _ E3.out (by decide) _ D9.out.rd).mono ?_; rintro e w7 ⟨vd, rfl, hd0, hd1, _, hr7, hg7⟩; have S10 := Lib.hid (D9.out.pick hR hr7 hg7); obtain ⟨q0, q1, q2, q3⟩ := S10.out.var.two; have hX7 := S10.out.var.lt; have hX8 : ¬ w7.heap.size = X := (by omega); have hX9 : ¬ X = w7.heap.size := (by omega); have wd : IntKind.i64.wrap (1 + vd) = 1 + vd := IntWalk.i64_in _ (by omega)))
           all_goals clear wd
           all_goals go_wp2_with fail
           all_goals
             go_roundg (gk - 1)
             case measure => omega
             case rel => exact ⟨by first | rfl | go_num | (congr 1; omega), by omega, _, _, S11.out.1.mono (by omega), by have := HLen.out; simp; omega, all_snoc HAll.out (lineOk_mk (by omega) (by omega) (by omega) (by omega) HVN.out (by omega) (by have := hd1 (by omega); omega))⟩
       · have hgx : gk = 0 ∨ (0 < gk ∧ ¬ 1 < bs) := by omega
         rcases hgx with rfl | ⟨h1, h2⟩
         · go_wp2_with fail
           go_meet
           exact ⟨v, ls, S7.out.mono (by omega), by have := HLen.out; omega, HAll.out⟩
         · have h3 : (0 : Int) < (gk : Int) := by omega
           go_wp2_with fail
           go_meet
           exact ⟨v, ls, S7.out.mono (by omega), by have := HLen.out; omega, HAll.out⟩
    case rest =>
      obtain ⟨v, ls, hS, hlen, hall⟩ := hcut
      have HOk := Lib.hid (netOk_mk hb0 hb1 hlen hall)
      clear hall
      have T1 := Lib.hid hS
      have TL := Lib.hid hlen
      clear hS hlen
      go_wp2_with fail
      refine (odd_any R n _ (by omega) (by omega) _ T1.out.rd).mono ?_
      rintro e w5 ⟨vo, rfl, hvo, hr5, hg5⟩
      have HVo := Lib.hid hvo
      clear hvo
      have T2 := Lib.hid (T1.out.pick hR hr5 hg5)
      have HLs : ls.length ≤ 10 := TL.out
      clear hr5 hg5 T1
      go_upto_if 59 with fail
      go_cut [64, 72, 82, 90] (fun _ _ _ _ wx => ∃ bs v ls, NetSt w wx R X (lim + 60) bs v ls ∧ ls.length ≤ 12 ∧ -1 ≤ bs ∧ bs ≤ 9 ∧ (n ≤ 0 → netOk bs ls = true))
      case first =>
        cases vo
        · go_wp2_with fail
          go_meet
          exact ⟨bs, v, ls, T2.out.mono (by omega), by omega, by omega, by omega, fun _ => HOk.out⟩
        · have hn1 : 0 < n := by
            rcases Int.lt_or_le 0 n with h | h
            · exact h
            · exact absurd (HVo.out h) (by decide)
          have HN1 := Lib.hid (fun (bs : Int) (ls : List L3) (h : n ≤ 0) => (by omega : netOk bs ls = true))
          clear hn1
          go_wp2_with fail
          refine (pick_any R 5 _ (by omega) (by omega) _ T2.out.rd).mono ?_
          rintro e w6 ⟨t, rfl, ht0, ht1, _, hr6, hg6⟩
          have T3 := Lib.hid (T2.out.pick hR hr6 hg6)
          clear hr6 hg6 T2
          obtain ⟨p0, p1, p2, p3⟩ := T3.out.var.two
          have hX6 := T3.out.var.lt
          rcases (show t = 0 ∨ t = 1 ∨ t = 2 ∨ t = 3 ∨ t = 4 by omega) with rfl | rfl | rfl | rfl | rfl
          · go_wp2_with fail
            have T4 := Lib.hid (T3.out.keep (below_bx w6 (.cells #[.int .i64 0, .int .i64 (-1), .int .i64 9] 3)))
            refine (pick_any R 3 _ (by omega) (by omega) _ T4.out.rd).mono ?_
            rintro e w7 ⟨j, rfl, hj0, hj1, _, hr7, hg7⟩
            have T5 := Lib.hid (T4.out.pick hR hr7 hg7)
            have hRlt : R < w6.heap.size := T3.out.rd.lt
            have hB : IsBlk w7 w6.heap.size 3 #[.int .i64 0, .int .i64 (-1), .int .i64 9] := (hg7.block _ (by simp) (by simp; omega)).trans (IsBlk.new w6 3 _)
            obtain ⟨b0, b1, b2, _, _, _⟩ := hB.three
            clear p0 p1 p2 p3 hB hr7 hg7
            obtain ⟨p0, p1, p2, p3⟩ := T5.out.var.two
            rcases (show j = 0 ∨ j = 1 ∨ j = 2 by omega) with rfl | rfl | rfl
            all_goals
              go_wp2_with fail
              go_meet
              exact ⟨_, v, ls, (T5.out.store hR _).mono (by omega), by omega, by omega, by omega, HN1.out _ _⟩
          · go_wp2_with (
              at_builtin
              refine wpList_append_lies _ rfl (.tmp 75) (.tmp 79) 23 rfl (X + 1) 45 i0 (.agg #[.int .i64 0, .int .i64 0, .int .i64 0]) 3 24 Tryd.underlying23 I0.out hz0 hz1 hz2 rfl (by decide) v ls.length (ls.flatMap fL) rfl (World.ownsRow.alloc T3.out.own _) ⟨w6.heap.size, 0, none⟩ 1 1 (fL (0, bs, 5)) rfl rfl ?c1 ?c2 (by decide) ?c3 ?c4 ?c5 _ rfl ?_
              case c1 => exact news_new w6 (0, bs, 5) _
              case c2 => intro u hu; simp [fL] at hu; rcases hu with rfl | rfl | rfl <;> rfl
              case c3 => simp only [maxLen]; omega
              case c4 => omega
              case c5 => simp; omega
              intro g cap w8 hown8 hgrow8 hat8 hlt8
              have S11 := Lib.hid (T3.out.push hR _ hown8 hgrow8)
              obtain ⟨t0, t1, t2, t3⟩ := S11.out.2.two)
            go_meet
            exact ⟨_, _, _, S11.out.1.mono (by omega), by simp; omega, by omega, by omega, HN1.out _ _⟩
          · go_wp2_with (
              at_builtin
              refine wpList_append_lies _ rfl (.tmp 85) (.tmp 87) 23 rfl (X + 1) 45 i0 (.agg #[.int .i64 0, .int .i64 0, .int .i64 0]) 3 24 Tryd.underlying23 I0.out hz0 hz1 hz2 rfl (by decide) v ls.length (ls.flatMap fL) rfl (World.ownsRow.alloc T3.out.own _) ⟨w6.heap.size, 0, none⟩ 1 1 (fL (0, 0, 5)) rfl rfl ?c1 ?c2 (by decide) ?c3 ?c4 ?c5 _ rfl ?_
              case c1 => exact news_new w6 (0, 0, 5) _
              case c2 => intro u hu; simp [fL] at hu; rcases hu with rfl | rfl | rfl <;> rfl
              case c3 => simp only [maxLen]; omega
              case c4 => omega
              case c5 => simp; omega
              intro g cap w8 hown8 hgrow8 hat8 hlt8
              have S11 := Lib.hid (T3.out.push hR _ hown8 hgrow8)
              obtain ⟨t0, t1, t2, t3⟩ := S11.out.2.two)
            go_meet
            exact ⟨_, _, _, S11.out.1.mono (by omega), by simp; omega, by omega, by omega, HN1.out _ _⟩
          · go_upto_region 20 with fail
            have T4 := Lib.hid ((T3.out.keep (below_bx w6 (.cells #[.int .i64 0, .int .i64 1000] 3))).drew)
            have E4 := Lib.hid (show lim + 34 + 1 + 1 ≤ 1000000 by omega)
            have hRlt : R < w6.heap.size := T3.out.rd.lt
            have hB := Lib.hid (show IsBlk (w6.alloc (.cells #[.int .i64 0, .int .i64 1000] 3)).drew w6.heap.size 3 #[.int .i64 0, .int .i64 1000] from IsBlk.new w6 3 _)
            have T4b := Lib.hid T3.out.drew
            go_region_law (first
              | (refine step_append_lies _ rfl (.tmp 93) (.tmp 100) 23 rfl (X + 1) 45 i0 (.agg #[.int .i64 0, .int .i64 0, .int .i64 0]) 3 24 Tryd.underlying23 I0.out hz0 hz1 hz2 rfl (by decide) v ls.length (ls.flatMap fL) rfl (World.ownsRow.alloc S10.out.own _) ⟨w7.heap.size, 0, none⟩ 1 1 (fL (0, 1, z)) rfl rfl ?c1 ?c2 (by decide) ?c3 ?c4 ?c5 _ rfl ?_
                 case c1 => exact news_new w7 (0, 1, z) _
                 case c2 => intro u hu; simp [fL] at hu; rcases hu with rfl | rfl | rfl <;> rfl
                 case c3 => simp only [maxLen]; omega
                 case c4 => omega
                 case c5 => simp; omega
                 intro g cap w8 hown8 hgrow8 hat8 hlt8
                 have S11 := Lib.hid (S10.out.push hR _ hown8 hgrow8)
                 obtain ⟨t0, t1, t2, t3⟩ := S11.out.2.two)
              | (refine step_append_lies _ rfl (.tmp 93) (.tmp 100) 23 rfl (X + 1) 45 i0 (.agg #[.int .i64 0, .int .i64 0, .int .i64 0]) 3 24 Tryd.underlying23 I0.out hz0 hz1 hz2 rfl (by decide) v ls.length (ls.flatMap fL) rfl (World.ownsRow.alloc S10b.out.own _) ⟨w7b.heap.size + 1, 0, none⟩ 1 1 (fL (0, 1, zb)) rfl rfl ?c1 ?c2 (by decide) ?c3 ?c4 ?c5 _ rfl ?_
                 case c1 => exact news_at 0 w7b (0, 1, zb) _
                 case c2 => intro u hu; simp [fL] at hu; rcases hu with rfl | rfl | rfl <;> rfl
                 case c3 => simp only [maxLen]; omega
                 case c4 => omega
                 case c5 => simp; omega
                 intro g cap w8 hown8 hgrow8 hat8 hlt8
                 have S11 := Lib.hid (S10b.out.push hR _ hown8 hgrow8)
                 obtain ⟨t0, t1, t2, t3⟩ := S11.out.2.two)
              | (go_simp; go_at_call 43; (with_reducible refine (pick_any R 2 _ E4.out (by decide) _ T4.out.rd).mono ?_); rintro e w7 ⟨j, rfl, hj0, hj1', _, hr7, hg7⟩; have hj1 : j < 2 := hj1' (by decide); have S10 := Lib.hid (T4.out.pick hR hr7 hg7); obtain ⟨q0, q1, q2, q3⟩ := S10.out.var.two; have hX7 := S10.out.var.lt; have hX8 : ¬ w7.heap.size = X := (by omega); have hX9 : ¬ X = w7.heap.size := (by omega); obtain ⟨z, hz⟩ := two_at ((hg7.block _ (by simp) (by simp; omega)).trans hB.out) hj0 hj1)
              | (go_simp; go_at_call 43; (with_reducible refine (pick_any R 2 _ E4.out (by decide) _ T4b.out.rd).mono ?_); rintro e w7b ⟨j, rfl, hj0, hj1', _, hr7, hg7⟩; have hj1 : j < 2 := hj1' (by decide); have S9b := Lib.hid (T4b.out.pick hR hr7 hg7); obtain ⟨q0, q1, q2, q3⟩ := S9b.out.var.two; have S10b := Lib.hid (S9b.out.keep (below_bx w7b (.cells #[.int .i64 0, .int .i64 1000] 3))); have hX7 := S9b.out.var.lt; have hX8 : ¬ w7b.heap.size = X := (by omega); have hX9 : ¬ X = w7b.heap.size := (by omega); have hX10 : ¬ w7b.heap.size + 1 = X := (by omega); obtain ⟨zb, hzb⟩ := two_at (IsBlk.new w7b 3 #[.int .i64 0, .int .i64 1000]) hj0 hj1))
            all_goals go_wp2_with fail
            all_goals go_meet
            all_goals exact ⟨_, _, _, S11.out.1.mono (by omega), by simp; omega, by omega, by omega, HN1.out _ _⟩
          · have hmk := make11
            go_wp2_with fail
            go_meet
            have hF := T3.out.fresh hR (List.replicate 11 (0, 0, 0)) (by decide) 11 (by simp)
            rw [World.setCell_alloc_past _ _ _ _ hX6] at hF
            exact ⟨_, _, List.replicate 11 (0, 0, 0), hF.mono (by omega), by simp, by omega, by omega, HN1.out _ _⟩
      case rest =>
        obtain ⟨bs', v', ls', hS, hl', hb0', hb1', hok'⟩ := hcut
        have HOk' := Lib.hid hok'
        clear hok'
        obtain ⟨A', c', rfl, _⟩ := hS.own.row
        have T6 := Lib.hid hS
        clear hS
        obtain ⟨p0, p1, p2, p3⟩ := T6.out.var.two
        obtain ⟨q0, q1, q2, q3⟩ := T6.out.ret.two
        have hne : ¬ w.heap.size = X := by omega
        go_wp2_with fail
        refine bodyPost_ret (v := .agg #[.int .i64 bs', .slice A' ls'.length c']) (by simp [results, Tryd.results31, go_sem, q0, q1]) rfl ⟨bs', _, ls', rfl, ?_⟩
        have T7 := T6.out
        have g1 : wc.grownBy (wc.setCell ⟨w.heap.size, 0, none⟩ (.int .i64 bs')) (some w.heap.size) := grown_put _ _ _ _
        have g2 : wc.grownBy ((wc.setCell ⟨w.heap.size, 0, none⟩ (.int .i64 bs')).setCell ⟨w.heap.size, 1, none⟩ (.slice A' ls'.length c')) (some w.heap.size) := grown_then g1 (grown_put _ _ _ _)
        have o2 := T7.own.far g2 (fun q hq e => by injection e with e; have := (World.ownsRow.lt T7.own q hq).1; omega)
        refine ⟨⟨o2.1, ?_⟩, hl', hb0', hb1', (T7.rd.far hR g2).mono (by omega), ?_, HOk'.out⟩
        · rcases o2.2 with h | ⟨g, cap, cur, h1, h2, h3⟩
          · exact .inl h
          · exact .inr ⟨g, cap, cur, h1, by omega, h3⟩
        · exact ⟨g2.os.trans T7.grown.os, g2.tape.trans T7.grown.tape, g2.output.trans T7.grown.output, Nat.le_trans T7.grown.size g2.size, fun k hk hne => (g2.block k (by have := T7.grown.size; omega) (by simp; omega)).trans (T7.grown.block k hk hne)⟩
theorem net_any (R : Nat) (n : Int) (lim : Int) (hlim : lim ≤ 900000) (hn : n ≤ 1000) (w : World) (hR : R < w.heap.size) (hr : Rd w R lim) :
    Calls Tryd.prog 31 #[.pointer (some ⟨R, 0, none⟩), .int .i64 n] w fun e w' => ∃ bs v ls, e = .returned (.agg #[.int .i64 bs, v]) ∧ OwnL w' (w.heap.size + 1) v ls ∧ ls.length ≤ 12 ∧ -1 ≤ bs ∧ bs ≤ 9 ∧ Rd w' R (lim + 100) ∧ w.grownBy w' (some R) :=
  (net_full R n lim hlim hn w hR hr).mono fun _ _ ⟨bs, v, ls, h1, h2, h3, h4, h5, h6, h7, _⟩ => ⟨bs, v, ls, h1, h2, h3, h4, h5, h6, h7⟩
end Go.Proofs.YtcdliaabbhoagaaDoor
