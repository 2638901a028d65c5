/- Switching orders: OrderBack, of the program. -/
import Derived.Test.YtfedffekbemcoaaDoorOr9
import Derived.Test.YtfedffekbemcoaaDoorOr2
namespace Go.Proofs.YtfedffekbemcoaaDoor
open Go.ChangeShapes Go.WideShapes Go.ChangeAt Go.RowKit Go.Shelf
attribute [local go_sem] Oper.semAt_some

/-- The memory while an order is undone: the list's variable at F0, the iterator's variable at Y, the list above S. -/
structure BkSt (w W : World) (S F0 Y : Nat) (C : Option Addr) (q r : Nat) (v : Value) (us : List TP) : Prop where
  bel : Below w.heap.size w W
  var : IsBlk W F0 23 #[v]
  itr : IsBlk W Y 23 #[.slice C q r]
  own : OwnP W S v us
  lo : w.heap.size ≤ F0 ∧ F0 < S ∧ w.heap.size ≤ Y ∧ Y < S ∧ F0 ≠ Y
section
variable {w W W' : World} {S F0 Y q r : Nat} {C : Option Addr} {v v' : Value} {us us' : List TP}
theorem BkSt.next (h : BkSt w W S F0 Y C q r v us) (hb : Below W.heap.size W W') : BkSt w W' S F0 Y C q r v us :=
  ⟨h.bel.trans (hb.mono h.bel.size), h.var.keep hb, h.itr.keep hb, h.own.keep hb, h.lo⟩
theorem BkSt.grown {row : Option Nat} (h : BkSt w W S F0 Y C q r v us) (hg : W.grownBy W' row) (hr : ∀ k, row = some k → S ≤ k ∧ ∃ o : Obj, W.heap[k]? = some o ∧ o.isCells = false) : BkSt w W' S F0 Y C q r v us := by
  have hl := h.lo
  refine ⟨h.bel.grown hg h.bel.size (fun k e => by have := (hr k e).1; omega), h.var.farG hg (fun e => by have := (hr _ e).1; omega), h.itr.farG hg (fun e => by have := (hr _ e).1; omega), h.own.far hg (fun k hk e => ?_), h.lo⟩
  obtain ⟨_, o, ho, hf⟩ := hr k e
  rcases h.own.2 with ⟨rfl, _⟩ | ⟨g, cap, cur, rfl, _, hg2, _⟩
  · cases hk
  · have e3 : g = k := Option.some.inj hk
    subst e3
    rw [hg2] at ho; injection ho with ho; subst ho; cases hf
theorem BkSt.push (h : BkSt w W S F0 Y C q r v us) (_hS : S ≤ W.heap.size) (o : Obj) (hv : OwnP W' S v' us') (hg : (W.alloc o).grownBy W' v.ownBlock) : BkSt w (W'.setCell ⟨F0, 0, none⟩ v') S F0 Y C q r v' us' ∧ IsBlk W' F0 23 #[v] := by
  have hl := h.lo
  have hg2 := grown_low h.own hg
  have hlow := fun q hq => (h.own.lt q hq).1
  have k1 : IsBlk W' F0 23 #[v] := h.var.farG hg2 (fun e => by have := hlow _ e; omega)
  have k2 : IsBlk W' Y 23 #[.slice C q r] := h.itr.farG hg2 (fun e => by have := hlow _ e; omega)
  have b2 := h.bel.grown hg2 h.bel.size (fun k e => by have := hlow k e; omega)
  have hgp : W'.grownBy (W'.setCell ⟨F0, 0, none⟩ v') (some F0) := grown_put _ _ _ _
  exact ⟨⟨b2.setCell (show w.heap.size ≤ (⟨F0, 0, none⟩ : Addr).block from hl.1) _, k1.put 0 _, k2.farG hgp (fun e => by injection e with e; omega), hv.far hgp (fun k hk e => by injection e with e; have := (hv.lt k hk).1; omega), hl⟩, k1⟩
end
theorem blk1P {w : World} {g : Nat} {t : TypeId} {u : Value} (h : IsBlk w g t #[u]) : w.cell? ⟨g, 0, none⟩ = some u ∧ w.frozen? ⟨g, 0, none⟩ = false := ⟨h.cell 0, h.thaw 0⟩
theorem keepsB_below {S : Nat} {W W' : World} (h : Below W.heap.size W W') : KeepsFrom S W W' := ⟨h.size, fun k _ _ hk _ => (h.block k (Array.getElem?_eq_some_iff.1 hk).1).trans hk⟩
theorem keepTwo_below {p q : Nat} {W W' : World} (h : Below W.heap.size W W') (hp : p < W.heap.size) (hq : q < W.heap.size) : KeepTwo p q W W' := ⟨h.block p hp, h.block q hq⟩
theorem BkSt.keeps {w W W' : World} {S F0 Y q r : Nat} {C : Option Addr} {v : Value} {us : List TP} (h : BkSt w W S F0 Y C q r v us) (hg : W.grownBy W' v.ownBlock) (v' : Value) : KeepsFrom S W (W'.setCell ⟨F0, 0, none⟩ v') :=
  ⟨by have := hg.size; simpa [World.setCell] using this, fun k o h1 hk hf => (Below.heap_setCell _ ⟨F0, 0, none⟩ _ _ (by have := h.lo; show k ≠ F0; omega)).trans ((hg.block k (Array.getElem?_eq_some_iff.1 hk).1 (fun e => by
    rcases h.own.2 with ⟨rfl, _⟩ | ⟨g, cap, cur, rfl, _, hg2, _⟩
    · cases e
    · have e3 : g = k := (Option.some.inj e).symm
      subst e3
      rw [hg2] at hk; injection hk with hk; subst hk; cases hf)).trans hk)⟩
def BkI (w : World) (S F0 Y : Nat) (C : Option Addr) (q r : Nat) (ss : List TP) (pre : List (BackP ss)) (W : World) : Prop :=
  S ≤ W.heap.size ∧ ∃ v, BkSt w W S F0 Y C q r v (pre.map fun x => flipO x.1.2)
theorem bkI_own {w : World} {S F0 Y q r : Nat} {C : Option Addr} {ss : List TP} : OwnFrom S (BkI w S F0 Y C q r ss) :=
  fun _ _ _ _ ⟨hs, v, h⟩ hg hr => ⟨Nat.le_trans hs hg.size, v, h.grown hg hr⟩
theorem blkP_own {S g : Nat} {t : TypeId} {cs : Array Value} {X Y : World} {row : Option Nat} (k : IsBlk X g t cs) (hg : X.grownBy Y row) (hr : ∀ r, row = some r → S ≤ r ∧ ∃ o : Obj, X.heap[r]? = some o ∧ o.isCells = false) : IsBlk Y g t cs :=
  k.farG hg (fun e => by
    obtain ⟨_, o, ho, hf⟩ := hr g e
    have hk : X.heap[g]? = some (.cells cs t (0, 0)) := k
    rw [hk] at ho; injection ho with ho; subst ho; cases hf)

set_option maxRecDepth 100000 in
set_option maxHeartbeats 4000000 in
theorem orderBack_any (C : Option Addr) (q r : Nat) (ss : List TP) (w : World) (hq : q ≤ 1048576) (hrs : RowP w C q ss) :
    Calls Tryd.prog 31 #[.slice C q r] w fun e w' => ∃ v, e = .returned v ∧ OwnP w' w.heap.size v (backF ss) ∧ Below w.heap.size w w' := by
  have HP := Lib.hid hrs
  have HLP := Lib.hid hrs.len
  clear hrs
  cases ho : ordOk ss
  · have HF := Lib.hid (show backF ss = [] by rw [backF, ho]; rfl)
    go_enter Tryd.func31, Tryd.ntmps31
    go_wp2_with fail
    refine (orderValid_any C q r ss _ (by omega) HP.out).mono ?_
    rintro e w1 ⟨rfl, hb1⟩
    rw [ho]
    go_wp2
    go_ret
    exact ⟨_, rfl, by rw [HF.out]; exact OwnP.nil, hb1⟩
  · have HOk := Lib.hid ho
    have HF := Lib.hid (show backF ss = backO ss by rw [backF, ho]; rfl)
    have hq12 : q ≤ 12 := by have := ordOk_len HOk.out; have := HLP.out; omega
    clear ho
    obtain rfl : ss.length = q := HLP.out
    refine (callsIn_wide (n := 6)).1 ?_
    refine callsIn_of_wp_marks Tryd.func31 rfl trivial ?_ rfl
    simp only [Tryd.ntmps31, List.size_toArray, List.length_cons, List.length_nil, Nat.reduceAdd, Nat.reduceSub, Array.replicate_succ, Array.replicate_zero, List.push_toArray, List.append_toArray, List.nil_append, List.cons_append]
    refine wpIn_wide.2 ?_
    go_wp2_with fail
    refine (orderValid_any C ss.length r ss _ (by omega) HP.out).mono ?_
    rintro e w1 ⟨rfl, hb1⟩
    rw [HOk.out]
    have B1 := Lib.hid hb1
    have hs1 := hb1.size
    go_wp2_with fail
    refine (backwardP_any C ss.length r _).mono ?_
    rintro e w5 ⟨rfl, hw5⟩
    have kv := (IsBlk.new w1 23 #[.slice none 0 0]).alloc (.cells #[.slice C ss.length r] 23)
    have ky := IsBlk.new (w1.alloc (.cells #[.slice none 0 0] 23)) 23 #[.slice C ss.length r]
    have hb5 : Below w1.heap.size w1 w5 := by rw [hw5]; exact (below_bx _ _).alloc (by simp) _
    have hs5 : w5.heap.size = w1.heap.size + 1 + 1 := by rw [hw5]; simp
    rw [← hw5] at kv ky
    simp only [World.size_alloc] at kv ky ⊢
    have HR5 := Lib.hid (HP.out.below (hb1.trans (hb5.mono hs1)))
    have HY := Lib.hid hs5
    have ST0 := Lib.hid (show BkI w w5.heap.size w1.heap.size (w1.heap.size + 1) C ss.length r ss [] w5 from ⟨Nat.le_refl _, _, hb1.trans (hb5.mono hs1), kv, ky, OwnP.nil, by omega⟩)
    have KYX := Lib.hid ky
    clear hw5 kv ky hb5
    generalize w1.heap.size = F0 at *
    obtain ⟨G, hG1, hG2⟩ : ∃ G, (G ≠ F0 ∧ G < F0 + 2) ∧ (0 < ss.length → ∀ b off, C = some ⟨b, off, none⟩ → b = G) := by
      rcases Nat.eq_zero_or_pos ss.length with h0 | h0
      · exact ⟨F0 + 1, by omega, fun h => absurd h (by omega)⟩
      · obtain ⟨b, off, e, hlt, _⟩ := HP.out.2 h0
        exact ⟨b, by omega, fun _ b' off' e' => by rw [e] at e'; injection e' with e'; injection e' with e1; exact e1.symm⟩
    go_wp2_with fail
    refine (wpIn_wide (n := 6)).1 ?_
    apply (fun hassign hbody hdone hstop => wpIn_rangeFunc_ownH rfl (by omega) (gf := 73) (lb := #[.pointer (some ⟨F0 + 1, 0, none⟩)]) rfl trivial (enters_of Tryd.func73 (by kernel_rfl) rfl)
      (backwardP_stops Fence.wide (6 - 1) trivial rfl (by omega) (F0 + 1) G C r ss (by omega) hG2 w5 (by have := HY.out; omega) (KYX.out.cell 0) HR5.out) keepTwo_t (keepTwo_b (by have := HY.out; omega) (by have := HY.out; omega)) (Below.refl _ _) (fun _ => rfl)
      (BkI w w5.heap.size F0 (F0 + 1) C ss.length r ss) (fun _ _ _ => False) bkI_own (fun _ _ _ _ _ hs _ _ => hs)
      ST0.out (fun (x : BackP ss) a' W => ∃ g : Nat, a' = { tmps := #[.slice C ss.length r, undef, .slice none 0 0, .pointer (some ⟨F0, 0, none⟩), undef, .pointer (some ⟨g, 0, none⟩), .slice C ss.length r, .bool true, .bool false, .slice C ss.length r, .func (.func 73) #[] #[.pointer (some ⟨F0 + 1, 0, none⟩)], .int .i64 (x.1.1 : Int), encP x.1.2, undef, undef, undef, undef, undef, undef, undef, undef, undef, undef], defers := [] } ∧ IsBlk W g 27 #[.int .i64 x.1.2.1, .bool x.1.2.2])
      (fun x a' _ X Y row ⟨g, h1, h2⟩ hg hr => ⟨g, h1, blkP_own h2 hg hr⟩) hassign hbody hdone hstop)
    case hassign =>
      rintro l pre ⟨⟨ix, ⟨x, t⟩⟩, hix⟩ W K hI2 hK2
      dsimp only
      gi_wp2
      obtain ⟨hsz, v, hst⟩ := hI2
      exact hK2 _ _ (keepsB_below (below_bx W _)) (keepTwo_below (below_bx W _) (by have := hst.itr.lt; omega) (by omega)) ⟨Nat.le_trans hsz (below_bx W _).size, v, hst.next (below_bx W _)⟩ ⟨W.heap.size, rfl, IsBlk.new W _ _⟩
    case hbody =>
      rintro l pre ⟨⟨ix, ⟨x, t⟩⟩, hix⟩ a' W hl _ ⟨hsz, v, hst⟩ ⟨g, rfl, hx⟩ hlen
      have ST := Lib.hid hst
      have KG := Lib.hid hx
      obtain ⟨c3, -⟩ := blk1P hst.var
      obtain ⟨q0, q1, -⟩ := hx.two
      have hpl : (pre.map fun x : BackP ss => flipO x.1.2).length ≤ 12 := by rw [List.length_map]; omega
      have PL := Lib.hid hpl
      clear hst hx hpl
      dsimp only at q0 q1
      gi_wp2_with (
        gi_at_builtin
        refine wpListIn_append_step rfl (.tmp 13) (.tmp 20) rfl w5.heap.size W.heap.size _ (pre.map fun x : BackP ss => flipO x.1.2) (x, !t) rfl rfl (ST.out.own.alloc _) (newP W (x, !t) _) (by have := PL.out; omega) (by simp; omega) ?_
        intro v' w8 hown hgrow hat
        obtain ⟨A8, c8, rfl, -⟩ := hown.row
        obtain ⟨hS8, hk8⟩ := ST.out.push hsz _ hown hgrow
        have S8 := Lib.hid hS8
        have G8 := Lib.hid hgrow
        obtain ⟨d3, e3⟩ := blk1P hk8
        clear hS8 hk8 hgrow hown hat)
      have hs5' : w5.heap.size = F0 + 1 + 1 := HY.out
      rw [← hs5']
      have hG := grown_low ST.out.own G8.out
      refine ⟨ST.out.keeps hG _, ⟨?_, ?_⟩, ?_⟩
      · exact (Below.heap_setCell _ ⟨F0, 0, none⟩ _ _ (by simp)).trans (hG.block _ ST.out.itr.lt (fun e => by have := (ST.out.own.lt _ e.symm).1; omega))
      · exact (Below.heap_setCell _ ⟨F0, 0, none⟩ _ _ hG1.1).trans (hG.block _ (by omega) (fun e => by have := (ST.out.own.lt _ e.symm).1; omega))
      · have h1 : w5.heap.size ≤ (w8.setCell ⟨F0, 0, none⟩ (.slice A8 (pre.length + 1) c8)).heap.size := by have := hG.size; simp [World.setCell]; omega
        have h := S8.out
        rw [show (pre.map fun x : BackP ss => flipO x.1.2) ++ [(x, !t)] = (pre ++ [(⟨(ix, x, t), hix⟩ : BackP ss)]).map fun x : BackP ss => flipO x.1.2 by rw [List.map_append]; rfl] at h
        have e : ((pre ++ [(⟨(ix, x, t), hix⟩ : BackP ss)]).map fun x : BackP ss => flipO x.1.2).length = pre.length + 1 := by simp
        rw [e] at h
        exact ⟨h1, _, h⟩
    case hdone =>
      rintro D xs W hD hxs ⟨hsz, v, hst⟩ hK
      obtain ⟨c3, -⟩ := blk1P hst.var
      have ST := Lib.hid hst
      have HKD := Lib.hid hK
      have hxs2 : (xs.map fun x : BackP ss => flipO x.1.2) = backO ss := by
        rw [backO, ← List.map_reverse, ← hxs, List.map_map]; rfl
      have HX := Lib.hid hxs2
      clear hst hK
      gi_wp2
      go_wp2_with fail
      refine ⟨by simp, .inl ⟨_, _, rfl, run_takeDeferred HKD.out, ?_⟩⟩
      have HG := Lib.hid (grownBy_putObj' W D (.deferred none))
      have S9 := Lib.hid (ST.out.grown HG.out (fun k e => by injection e with e; subst e; exact ⟨hD, _, HKD.out, rfl⟩))
      refine ⟨v, ?_, v, rfl, ?_, S9.out.bel⟩
      · simp [results, Tryd.results31, go_sem]
      · rw [HF.out, ← HX.out]; exact S9.out.own.more (by omega)
    case hstop =>
      rintro D cc pre W _ _ h _
      exact h.elim
end Go.Proofs.YtfedffekbemcoaaDoor
