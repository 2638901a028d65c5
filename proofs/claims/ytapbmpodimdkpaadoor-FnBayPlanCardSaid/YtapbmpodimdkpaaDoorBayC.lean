/- Bays, of the program: deedsLeft. -/
import Derived.Test.YtapbmpodimdkpaaDoorBayB
import Derived.Deep.LoopGhost
namespace Go.Proofs.YtapbmpodimdkpaaDoor
open Go.ChangeShapes Go.WideShapes Go.ChangeAt Go.RowKit Go.Shelf Go.Maps
attribute [local go_sem] Oper.semAt_some

theorem LeftSt.start {w W0 : World} {t : B4} {B : Nat} (hb : Below w.heap.size w W0) (box : IsBlk W0 w.heap.size 24 #[.bool t.1, .bool t.2.1, .bool t.2.2.1, .bool t.2.2.2]) (hm : MapSt W0 B (fun y => if y = t then some 0 else none) 1) (hB : w.heap.size ≤ B) :
    LeftSt w ((W0.alloc (.cells #[.map (some B)] 73)).alloc (.cells #[.int .i64 0] 3)) t W0.heap.size (W0.heap.size + 1) B 0 (leftF t 0 0) 1 [] := by
  have h1 := box.lt
  rw [left_start]
  exact ⟨(hb.alloc hb.size _).alloc (by simp; have := hb.size; omega) _, (box.alloc _).alloc _, (IsBlk.new W0 _ _).alloc _, IsBlk.at_ (by simp) rfl rfl, (hm.alloc _).alloc _, hB, by omega, by omega, by omega, fun r hr => by simp at hr, List.nodup_nil⟩

/-- What holds of the memory while the bays come, whichever they are; and of what is known, as long as they come by their numbers. -/
def LeftI (w : World) (t : B4) (g3 g5 B n c : Nat) (rs : List Nat) (pre : List B4) (W : World) : Prop :=
  ∃ M c', LeftSt w W t g3 g5 B n M c' rs ∧ c' ≤ c + pre.length ∧ (pre = baysTo pre.length → M = leftF t n pre.length ∧ ((c' = c ∧ ∀ j, j < pre.length → disF (bayN j) t ≠ n + 1) ∨ (c < c' ∧ ∃ b, disF b t = n + 1)))
theorem leftI_own {w : World} {t : B4} {g3 g5 B n c S : Nat} {rs : List Nat} (hB : B < S) (hrs : ∀ r ∈ rs, r < S) (hw : w.heap.size ≤ S) : OwnFrom S (LeftI w t g3 g5 B n c rs) :=
  fun _ _ _ _ ⟨M, c', h, h2⟩ hg hr => ⟨M, c', h.grown hB hrs hw hg hr, h2⟩
theorem leftI_start {w wr : World} {t : B4} {g3 g5 B n c : Nat} {rs : List Nat} (h : LeftSt w wr t g3 g5 B n (leftF t n 0) c rs) : LeftI w t g3 g5 B n c rs [] wr :=
  ⟨_, c, h, by simp, fun _ => ⟨rfl, .inl ⟨rfl, fun j hj => by simp at hj⟩⟩⟩
theorem LeftI.next {w W W' : World} {t : B4} {g3 g5 B n c : Nat} {rs : List Nat} {pre : List B4} (h : LeftI w t g3 g5 B n c rs pre W) (hb : Below W.heap.size W W') : LeftI w t g3 g5 B n c rs pre W' := by
  obtain ⟨M, c', h1, h2⟩ := h
  exact ⟨M, c', h1.next hb, h2⟩
theorem blk_own {S g : Nat} {t : TypeId} {cs : Array Value} {p : Prop} : OwnFrom S (fun (_ : Unit) W => p ∧ IsBlk W g t cs) := fun _ X Y row ⟨hp, k⟩ hg hr =>
  ⟨hp, k.farG hg (fun e => by
    obtain ⟨_, o, ho, hf⟩ := hr g e
    have hk : X.heap[g]? = some (.cells cs t (0, 0)) := k
    rw [hk] at ho; injection ho with ho; subst ho; cases hf)⟩
theorem baysTo_snoc {pre : List B4} {x : B4} (h : pre ++ [x] = baysTo (pre ++ [x]).length) : pre = baysTo pre.length ∧ x = bayN pre.length := by
  rw [List.length_append, List.length_singleton, baysTo_next] at h
  have h1 := List.append_inj h (by simp [baysTo])
  exact ⟨h1.1, by simpa using h1.2⟩
theorem keeps_below {S : Nat} {W W' : World} (h : Below W.heap.size W W') : KeepsFrom S W W' := ⟨h.size, fun k _ _ hk _ => (h.block k (Array.getElem?_eq_some_iff.1 hk).1).trans hk⟩
theorem keeps_map {S B : Nat} {W W' : World} (h : W.grownBy W' (some B)) (hB : B < S) : KeepsFrom S W W' := ⟨h.size, fun k _ _ hk _ => (h.block k (Array.getElem?_eq_some_iff.1 hk).1 (fun e => by injection e with e; omega)).trans hk⟩
theorem left_known {t : B4} {n k v : Nat} (_hk : k < 16) (h : leftF t n k (bayN k) = some v) : disF (bayN k) t ≠ n + 1 := fun e => by
  have hn := num_bay k _hk
  rw [leftF, if_neg (by omega)] at h
  cases h
theorem LeftI.skip {w W' : World} {t x : B4} {g3 g5 B n c c' : Nat} {rs : List Nat} {pre : List B4} {M : B4 → Option Nat} (h : LeftSt w W' t g3 g5 B n M c' rs) (hc : c' ≤ c + pre.length) (hl : pre.length < 16)
    (hv : pre = baysTo pre.length → M = leftF t n pre.length ∧ ((c' = c ∧ ∀ j, j < pre.length → disF (bayN j) t ≠ n + 1) ∨ (c < c' ∧ ∃ b, disF b t = n + 1)))
    (hx : x = bayN pre.length → M = leftF t n pre.length → disF x t ≠ n + 1) : LeftI w t g3 g5 B n c rs (pre ++ [x]) W' := by
  refine ⟨M, c', h, by simp; omega, fun he => ?_⟩
  obtain ⟨h1, h2⟩ := baysTo_snoc he
  obtain ⟨h3, h4⟩ := hv h1
  have h5 := hx h2 h3
  rw [List.length_append, List.length_singleton]
  refine ⟨by rw [h3, left_skip hl (.inr (h2 ▸ h5))], h4.imp (fun ⟨e, h6⟩ => ⟨e, fun j hj => ?_⟩) id⟩
  rcases Nat.lt_or_ge j pre.length with h7 | h7
  · exact h6 j h7
  · obtain rfl : j = pre.length := by omega
    exact h2 ▸ h5
theorem LeftI.add {w W' : World} {t x : B4} {g3 g5 B n c c' : Nat} {rs : List Nat} {pre : List B4} {M : B4 → Option Nat} (h : LeftSt w W' t g3 g5 B n (fun y => if y = x then some (n + 1) else M y) (c' + 1) rs) (hc : c' ≤ c + pre.length) (hl : pre.length < 16)
    (hv : pre = baysTo pre.length → M = leftF t n pre.length ∧ ((c' = c ∧ ∀ j, j < pre.length → disF (bayN j) t ≠ n + 1) ∨ (c < c' ∧ ∃ b, disF b t = n + 1)))
    (hx : x = bayN pre.length → M = leftF t n pre.length → disF x t = n + 1) : LeftI w t g3 g5 B n c rs (pre ++ [x]) W' := by
  refine ⟨_, c' + 1, h, by simp; omega, fun he => ?_⟩
  obtain ⟨h1, h2⟩ := baysTo_snoc he
  obtain ⟨h3, h4⟩ := hv h1
  have h5 := hx h2 h3
  rw [List.length_append, List.length_singleton]
  refine ⟨by rw [left_put hl (h2 ▸ h5), ← h2, h3], .inr ⟨?_, x, h5⟩⟩
  rcases h4 with ⟨e, _⟩ | ⟨e, _⟩ <;> omega
theorem IsBlk.at19 {w : World} {g : Nat} {t : TypeId} {u : Value} (h : IsBlk w g t #[u]) : w.cell? ⟨g, 0, none⟩ = some u ∧ w.frozen? ⟨g, 0, none⟩ = false := ⟨h.cell 0, h.thaw 0⟩
theorem wpList_len9 (w : World) {ops : Array Oper} {rest : List Oper} {o : Oper} {a : Act} {Q : Exit → Act → World → Prop} (hg : o.guard = none) (m : Operand) (hop : o.op = Op.call { callee := Callee.builtin Builtin.len, args := #[m], argTypes := #[73] })
    (B c : Nat) (M : B4 → Option Nat) (hM : MapSt w B M c) (hm : a.eval m = .map (some B)) (hK : wpList Tryd.prog ops Q rest (a.put o.dst (.int .i64 (c : Int))) w) : wpList Tryd.prog ops Q (o :: rest) a w := by
  obtain ⟨D, hD, hs, hall⟩ := hM
  refine wpList_len_own w hg m _ hop 24 3 Tryd.underlying73 _ B c D hm hD ?_
  rw [hs]
  exact hK
set_option maxRecDepth 100000 in
set_option maxHeartbeats 8000000 in
theorem deedsLeft_any (p q r s : Bool) (hsafe : safeF (p, q, r, s) = true) (w : World) (hT : MustTab w) :
    Calls Tryd.prog 48 #[.agg #[.bool p, .bool q, .bool r, .bool s]] w fun x w' => ∃ B c, x = .returned (.map (some B)) ∧ MapSt w' B (fun b => some (disF b (p, q, r, s))) c ∧ Below w.heap.size w w' := by
  have HT := Lib.hid hT
  have HSF := Lib.hid hsafe
  have hmm := @run_makeMap Tryd.prog
  have b0 := below_bx w (.cells #[.bool p, .bool q, .bool r, .bool s] 24)
  have MS0 := Lib.hid (MapSt.start (w.alloc (.cells #[.bool p, .bool q, .bool r, .bool s] 24)))
  have BX0 := Lib.hid ((IsBlk.new w 24 #[.bool p, .bool q, .bool r, .bool s]).alloc (.map #[] 0))
  have BB0 := Lib.hid (b0.alloc (by simp) (.map #[] 0))
  simp only [World.size_alloc] at MS0
  clear hT hsafe b0
  refine (callsIn_wide (n := 6)).1 ?_
  refine callsIn_of_wp_marks Tryd.func48 rfl trivial ?_ rfl
  simp only [Tryd.ntmps48, List.size_toArray, List.length_cons, List.length_nil, Nat.reduceAdd, Nat.reduceSub, Array.replicate_succ, Array.replicate_zero, List.push_toArray, List.append_toArray, List.nil_append, List.cons_append]
  refine wpIn_wide.2 ?_
  go_wp2_with (
    refine wpList_ins _ rfl _ _ _ rfl _ _ _ MS0.out (by omega) (p, q, r, s) rfl 0 (by omega) rfl rfl rfl ?_
    intro W0 hm0 hg0
    have B0 := Lib.hid (BB0.out.grown hg0 BB0.out.size (fun q hq => by injection hq with hq; omega))
    have X0 := Lib.hid (BX0.out.farG hg0 (fun e => by injection e with e; omega))
    have ST0 := Lib.hid (LeftSt.start B0.out X0.out hm0 (by omega))
    have FT0 := Lib.hid (HT.out.keep B0.out))
  generalize (W0.alloc (.cells #[.map (some (w.heap.size + 1))] 73)).alloc (.cells #[.int .i64 0] 3) = W1 at *
  generalize W0.heap.size = g3 at *
  generalize hBe : w.heap.size + 1 = B at *
  clear hmm BX0 BB0 MS0 hm0 hg0 B0 X0 hBe FT0
  refine wp_loop_ghost_k (fun k a wr => ∃ (n F c g5 : Nat) (rs : List Nat) (u6 u7 u8 u12 u13 u14 u15 u16 u17 u18 u19 u20 u21 u22 u23 u24 u25 u26 u27 u28 u29 u30 u31 u32 u33 u34 u35 u36 u37 u38 u39 u40 : Value), a = { tmps := #[.agg #[.bool p, .bool q, .bool r, .bool s], .pointer (some ⟨w.heap.size, 0, none⟩), .map none, .pointer (some ⟨g3, 0, none⟩), .int .i64 (F : Int), .pointer (some ⟨g5, 0, none⟩), u6, u7, u8, .map (some B), .agg #[.bool p, .bool q, .bool r, .bool s], .map (some B), u12, u13, u14, u15, u16, u17, u18, u19, u20, u21, u22, u23, u24, u25, u26, u27, u28, u29, u30, u31, u32, u33, u34, u35, u36, u37, u38, u39, u40, undef], defers := rs.map mark } ∧ k = 8 - n ∧ n ≤ 6
      ∧ LeftSt w wr (p, q, r, s) g3 g5 B n (leftF (p, q, r, s) n 0) c rs ∧ c ≤ 1 + 16 * n ∧ ((F < c ∧ (n = 0 ∨ ∃ b, disF b (p, q, r, s) = n)) ∨ (F = c ∧ ∀ b, disF b (p, q, r, s) ≠ n))) 8 ?_ ?_
  · exact ⟨0, 0, 1, g3 + 1, [], _, _, _, _, _, _, _, _, _, _, _, _, _, _, _, _, _, _, _, _, _, _, _, _, _, _, _, _, _, _, _, _, rfl, rfl, by omega, ST0.out, by omega, .inl ⟨by omega, .inl rfl⟩⟩
  · intro gk _ wr hI J K hJ hK
    obtain ⟨n, F, c, g5, rs, u6, u7, u8, u12, u13, u14, u15, u16, u17, u18, u19, u20, u21, u22, u23, u24, u25, u26, u27, u28, u29, u30, u31, u32, u33, u34, u35, u36, u37, u38, u39, u40, rfl, hk, hn, hst, hc, hor⟩ := hI
    have ST := Lib.hid hst
    have HJ := Lib.hid hJ
    have HOR := Lib.hid hor
    obtain ⟨c3, -⟩ := hst.var.at19
    clear hst hJ hor ST0
    by_cases hF : F < c
    · have hF2 : (F : Int) < (c : Int) := by omega
      have hdF : decide ((F : Int) < (c : Int)) = true := decide_eq_true hF2
      go_wp2_with (at_len; refine wpList_len9 _ rfl _ rfl B c _ ST.out.map rfl ?_)
      have hBS : B < wr.heap.size := ST.out.map.lt
      have hrS : ∀ r ∈ rs, r < wr.heap.size := fun r hr => (Array.getElem?_eq_some_iff.1 (ST.out.marks r hr).1).1
      have hwS : w.heap.size ≤ wr.heap.size := ST.out.bel.size
      have HBS := Lib.hid hBS
      have HRS := Lib.hid hrS
      have HWS := Lib.hid hwS
      have HC := Lib.hid hc
      have HN := Lib.hid hn
      clear hBS hrS hwS
      refine (wpIn_wide (n := 6)).1 ?_
      apply (fun hassign hbody hdone hstop => wpIn_rangeFunc_ownH rfl (by omega) (gf := 55) (lb := #[]) rfl trivial (enters_of Tryd.func55 (by kernel_rfl) rfl)
        (allBays_stops (6 - 1) (by omega) wr) (fun _ _ => trivial) (fun _ _ _ _ _ _ _ _ => trivial) (Below.refl _ _) (fun _ => rfl)
        (LeftI w (p, q, r, s) g3 g5 B n c rs) (fun _ _ _ => False) (leftI_own HBS.out HRS.out HWS.out) (fun _ _ _ _ _ hs _ _ => hs)
        (leftI_start ST.out) (fun (x : B4) a' W => ∃ (g6 : Nat) (v7 v8 v12 v13 v14 v15 v16 v17 v18 v19 v21 v22 v23 v24 v25 v26 v27 v28 v29 v30 v31 v32 v33 v34 v35 v36 v37 v38 v39 v40 : Value), a' = { tmps := #[.agg #[.bool p, .bool q, .bool r, .bool s], .pointer (some ⟨w.heap.size, 0, none⟩), .map none, .pointer (some ⟨g3, 0, none⟩), .int .i64 (c : Int), .pointer (some ⟨g5, 0, none⟩), .pointer (some ⟨g6, 0, none⟩), v7, v8, .map (some B), .agg #[.bool p, .bool q, .bool r, .bool s], .map (some B), v12, v13, v14, v15, v16, v17, v18, v19, vB x, v21, v22, v23, v24, v25, v26, v27, v28, v29, v30, v31, v32, v33, v34, v35, v36, v37, v38, v39, v40, undef], defers := [] } ∧ IsBlk W g6 24 #[.bool x.1, .bool x.2.1, .bool x.2.2.1, .bool x.2.2.2])
        (fun x a' _ X Y row ⟨g6, hx⟩ hg hr => ⟨g6, by obtain ⟨v7, v8, v12, v13, v14, v15, v16, v17, v18, v19, v21, v22, v23, v24, v25, v26, v27, v28, v29, v30, v31, v32, v33, v34, v35, v36, v37, v38, v39, v40, h1, h2⟩ := hx; exact ⟨v7, v8, v12, v13, v14, v15, v16, v17, v18, v19, v21, v22, v23, v24, v25, v26, v27, v28, v29, v30, v31, v32, v33, v34, v35, v36, v37, v38, v39, v40, h1, (blk_own (p := True) () X Y row ⟨trivial, h2⟩ hg hr).2⟩⟩) hassign hbody hdone hstop)
      case hassign =>
        rintro l pre ⟨x0, x1, x2, x3⟩ W K hI2 hK2
        dsimp only [vB]
        gi_wp2
        exact hK2 _ _ (keeps_below (below_bx W _)) trivial (hI2.next (below_bx W _)) ⟨W.heap.size, _, _, _, _, _, _, _, _, _, _, _, _, _, _, _, _, _, _, _, _, _, _, _, _, _, _, _, _, _, _, rfl, IsBlk.new W _ _⟩
      case hbody =>
        rintro l pre ⟨x0, x1, x2, x3⟩ a' W _ _ ⟨M, c', hst, hc', hv⟩ ⟨g6, v7, v8, v12, v13, v14, v15, v16, v17, v18, v19, v21, v22, v23, v24, v25, v26, v27, v28, v29, v30, v31, v32, v33, v34, v35, v36, v37, v38, v39, v40, rfl, hx⟩ hlen
        have ST2 := Lib.hid hst
        have HV := Lib.hid hv
        have HX := Lib.hid hx
        have HC2 := Lib.hid hc'
        have MT := Lib.hid (HT.out.keep hst.bel)
        obtain ⟨c3, -⟩ := hst.var.at19
        obtain ⟨c5, -⟩ := hst.far.at19
        obtain ⟨q0, q1, q2, q3, -⟩ := hx.four
        dsimp only [vB]
        clear hst hv hx hc'
        cases hM : M (x0, x1, x2, x3) with
        | some v =>
          gi_wp2_with (first | (gi_at_lookup; refine wpListIn_look_some _ rfl _ _ rfl B c' M ST2.out.map (x0, x1, x2, x3) v hM rfl rfl ?_) | (refine ⟨(trivial : Fence.wide.fn 49), ?_⟩))
          exact ⟨KeepsFrom.refl _ _, trivial, LeftI.skip ST2.out HC2.out hlen HV.out (fun e hm => by rw [e]; exact left_known hlen (show leftF (p, q, r, s) n pre.length (bayN pre.length) = some v by rw [← hm, ← e]; exact hM))⟩
        | none =>
          generalize hzq : towF M (x0, x1, x2, x3) n = z
          have HZ := Lib.hid hzq
          clear hzq
          by_cases hz : 0 ≤ z
          · have HP := Lib.hid (fun (e : (x0, x1, x2, x3) = bayN pre.length) (hm : M = leftF (p, q, r, s) n pre.length) => show disF (x0, x1, x2, x3) (p, q, r, s) = n + 1 by
              have h1 := left_found HSF.out hlen (show leftF (p, q, r, s) n pre.length (bayN pre.length) = none by rw [← hm, ← e]; exact hM)
              rw [← hm, ← e] at h1
              exact h1.1 (by rw [HZ.out]; exact hz))
            gi_wp2_with (first
              | (gi_at_lookup; refine wpListIn_look_none _ rfl _ _ rfl B c' M ST2.out.map (x0, x1, x2, x3) hM rfl rfl ?_)
              | (refine ⟨trivial, ?_⟩; gi_at_call 49; refine (CallsIn.inRound l (callsIn_wide.2 (deedToward_any x0 x1 x2 x3 B c' M n W MT.out ST2.out.map))).mono ?_; rintro y W2 ⟨rfl, hb2⟩; rw [HZ.out]; have S2 := Lib.hid (ST2.out.next hb2); obtain ⟨d3, -⟩ := S2.out.var.at19; obtain ⟨d5, -⟩ := S2.out.far.at19; obtain ⟨t0, t1, t2, t3, -⟩ := (HX.out.keep hb2).four; have HB2 := Lib.hid hb2; clear hb2)
              | (gi_at_mapUpdate; refine wpListIn_put _ rfl _ _ _ rfl B c' M S2.out.map (by have := HC2.out; have := HC.out; have := HN.out; omega) (x0, x1, x2, x3) hM (n + 1) (by have := HN.out; omega) rfl rfl rfl ?_; intro W3 hm3 hg3))
            exact ⟨(keeps_below HB2.out).trans (keeps_map hg3 HBS.out), trivial, LeftI.add (S2.out.store hm3 hg3) HC2.out hlen HV.out HP.out⟩
          · have HP := Lib.hid (fun (e : (x0, x1, x2, x3) = bayN pre.length) (hm : M = leftF (p, q, r, s) n pre.length) => show disF (x0, x1, x2, x3) (p, q, r, s) ≠ n + 1 from fun h2 => by
              have h1 := left_found HSF.out hlen (show leftF (p, q, r, s) n pre.length (bayN pre.length) = none by rw [← hm, ← e]; exact hM)
              rw [← hm, ← e] at h1
              have h3 := h1.2 h2
              rw [HZ.out] at h3
              exact hz h3)
            gi_wp2_with (first
              | (gi_at_lookup; refine wpListIn_look_none _ rfl _ _ rfl B c' M ST2.out.map (x0, x1, x2, x3) hM rfl rfl ?_)
              | (refine ⟨trivial, ?_⟩; gi_at_call 49; refine (CallsIn.inRound l (callsIn_wide.2 (deedToward_any x0 x1 x2 x3 B c' M n W MT.out ST2.out.map))).mono ?_; rintro y W2 ⟨rfl, hb2⟩; rw [HZ.out]; have S2 := Lib.hid (ST2.out.next hb2); have HB2 := Lib.hid hb2; clear hb2))
            exact ⟨keeps_below HB2.out, trivial, LeftI.skip S2.out HC2.out hlen HV.out HP.out⟩
      case hdone =>
        rintro D xs W hD rfl ⟨M, c', hst, hc', hv⟩ hDD
        have hl16 : (baysTo 16).length = 16 := rfl
        obtain ⟨hM, hor2⟩ := hv rfl
        rw [hl16] at hM hor2 hc'
        subst hM
        rw [left_pass] at hst
        have hn6 : n + 1 ≤ 6 := by
          rcases HOR.out with ⟨_, h0 | ⟨b, hb⟩⟩ | ⟨h0, _⟩
          · omega
          · have := disF_le b (p, q, r, s); omega
          · omega
        have hDn : D ∉ rs := fun h => by have := HRS.out D h; omega
        have ST3 := Lib.hid (show LeftSt w W (p, q, r, s) g3 g5 B n (leftF (p, q, r, s) (n + 1) 0) c' (D :: rs) from
          ⟨hst.bel, hst.box, hst.var, hst.far, hst.map, hst.lB, hst.l3, hst.l5, hst.n35, fun r' hr' => by
            rcases List.mem_cons.1 hr' with rfl | hr'
            · exact ⟨hDD, Nat.le_trans HWS.out hD⟩
            · exact hst.marks r' hr', List.nodup_cons.2 ⟨hDn, hst.nd⟩⟩)
        have HOR2 := Lib.hid hor2
        have HC3 := Lib.hid hc'
        have ST4 := Lib.hid (ST3.out.fresh (n + 1) rfl)
        obtain ⟨c5, f5⟩ := hst.far.at19
        clear hst hor2 hc' hv hDD hDn
        gi_wp2
        go_wp2_with fail
        refine Handed.intro (8 - (n + 1)) (by omega) (HJ.out _ _ _ ⟨n + 1, c, c', W.heap.size, D :: rs, _, _, _, _, _, _, _, _, _, _, _, _, _, _, _, _, _, _, _, _, _, _, _, _, _, _, _, _, _, _, _, _, rfl, rfl, hn6, ST4.out, by have := HC.out; have := HC3.out; omega, ?_⟩)
        rcases HOR2.out with ⟨e, h⟩ | ⟨e, h⟩
        · exact .inr ⟨e.symm, fun b hb => h (numN b) (num_lt b) (by rw [bay_num]; exact hb)⟩
        · exact .inl ⟨e, .inr h⟩
      case hstop =>
        rintro D cc pre W _ _ h _
        exact h.elim
    · have HALL := Lib.hid (show ∀ b, disF b (p, q, r, s) ≠ n from by rcases HOR.out with ⟨h, _⟩ | ⟨_, h⟩; exact absurd h hF; exact h)
      have hF2 : ¬ ((F : Int) < (c : Int)) := by omega
      have hdF : decide ((F : Int) < (c : Int)) = false := decide_eq_false hF2
      go_wp2_with (at_len; refine wpList_len9 _ rfl _ rfl B c _ ST.out.map rfl ?_)
      refine LeftSt.done (fun w' hm hb => ?_) rs wr ST.out.map ST.out.bel ST.out.marks ST.out.nd
      refine ⟨.map (some B), by simp [results, Tryd.results48, go_sem], B, rfl, ⟨c, ?_⟩, hb⟩
      rw [show (fun b => some (disF b (p, q, r, s))) = leftF (p, q, r, s) n 0 from funext fun b => (left_all HSF.out HALL.out b).symm]
      exact hm
end Go.Proofs.YtapbmpodimdkpaaDoor
