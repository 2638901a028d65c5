/- Bays, of the program: BayPlan. -/
import Derived.Test.YtapbmpodimdkpaaDoorBayC
import Derived.Test.YtapbmpodimdkpaaDoorBCC
import Derived.Laws.CopyOwn
import Derived.Deep.LoopGhost
namespace Go.Proofs.YtapbmpodimdkpaaDoor
open Go.ChangeShapes Go.WideShapes Go.ChangeAt Go.RowKit Go.Maps

theorem OwnI.blk9 {w : World} {base g : Nat} {v : Value} {zs : List Int} (h : OwnI 3 w base v zs) (hg : v.ownBlock = some g) : ∃ cur, IsBlk w g 3 cur := by
  rcases h.2 with ⟨rfl, h0⟩ | ⟨g', cap, cur, rfl, h2, h3, _⟩
  · simp [Value.ownBlock] at hg
  · have e : g' = g := by simpa [Value.ownBlock] using hg
    subst e
    exact ⟨cur, h3⟩
/-- A list beside the box of a bay and a map of bays. -/
structure PlanQ (w wr : World) (f : B4) (B c : Nat) (M : B4 → Option Nat) (v : Value) (zs : List Int) : Prop where
  own : OwnI 3 wr (w.heap.size + 2) v zs
  bel : Below w.heap.size w wr
  bf : IsBlk wr w.heap.size 24 #[.bool f.1, .bool f.2.1, .bool f.2.2.1, .bool f.2.2.2]
  map : MapSt wr B M c
  sz : w.heap.size + 2 ≤ wr.heap.size
section
variable {w wr w' : World} {f : B4} {B c : Nat} {M : B4 → Option Nat} {v v' : Value} {zs zs' : List Int}
theorem PlanQ.next (h : PlanQ w wr f B c M v zs) (hb : Below wr.heap.size wr w') : PlanQ w w' f B c M v zs := ⟨OwnI.keep h.own hb, h.bel.trans (hb.mono h.bel.size), h.bf.keep hb, h.map.keep hb, Nat.le_trans h.sz hb.size⟩
theorem PlanQ.push (h : PlanQ w wr f B c M v zs) (o : Obj) (hown : OwnI 3 w' (w.heap.size + 2) v' zs') (hg : (wr.alloc o).grownBy w' v.ownBlock) : PlanQ w w' f B c M v' zs' := by
  have hlow := OwnI.lt h.own
  have hsz := h.bel.size
  refine ⟨hown, (h.bel.alloc hsz o).grown hg (by simp; omega) (fun q hq => by have := (hlow q hq).1; omega), (h.bf.alloc o).farG hg (fun e => by have := (hlow _ e).1; omega), (h.map.alloc o).kept hg (fun e => ?_), by have h1 := hg.size; have h2 := h.sz; simp only [World.size_alloc] at h1; omega⟩
  obtain ⟨cur, hc⟩ := h.own.blk9 e.symm
  exact h.map.ne hc rfl
theorem PlanQ.move (h : PlanQ w wr f B c M v zs) (y : B4) : PlanQ w ((((wr.setCell ⟨w.heap.size, 0, none⟩ (.bool y.1)).setCell ⟨w.heap.size, 1, none⟩ (.bool y.2.1)).setCell ⟨w.heap.size, 2, none⟩ (.bool y.2.2.1)).setCell ⟨w.heap.size, 3, none⟩ (.bool y.2.2.2)) y B c M v zs := by
  have hlow := OwnI.lt h.own
  have hg : wr.grownBy ((((wr.setCell ⟨w.heap.size, 0, none⟩ (.bool y.1)).setCell ⟨w.heap.size, 1, none⟩ (.bool y.2.1)).setCell ⟨w.heap.size, 2, none⟩ (.bool y.2.2.1)).setCell ⟨w.heap.size, 3, none⟩ (.bool y.2.2.2)) (some w.heap.size) :=
    grown_then (grown_then (grown_then (grown_put _ _ _ _) (grown_put _ _ _ _)) (grown_put _ _ _ _)) (grown_put _ _ _ _)
  exact ⟨OwnI.far h.own hg (fun q hq e => by injection e with e; have := (hlow q hq).1; omega), below_four h.bel (Nat.le_refl _) _ _ _ _, h.bf.put4 _ _ _ _, h.map.kept hg (fun e => by injection e with e; exact h.map.ne h.bf e), Nat.le_trans h.sz hg.size⟩
end
theorem plan_next9 {f t y : B4} {d k : Nat} (hn : nearF f t = d) (hy : doN f d = y) (zs : List Int) : zs ++ planN (k + 1) f t = (zs ++ [(d : Int)]) ++ planN k y t := by
  rw [planN, hn, hy]; simp
theorem OwnI.more9 {e : TypeId} {w : World} {base base' : Nat} {v : Value} {zs : List Int} (h : OwnI e w base v zs) (hb : base' ≤ base) : OwnI e w base' v zs := by
  refine ⟨h.1, ?_⟩
  rcases h.2 with h2 | ⟨g, cap, cur, h1, h2, h3⟩
  · exact .inl h2
  · exact .inr ⟨g, cap, cur, h1, Nat.le_trans hb h2, h3⟩
theorem OwnI.sl8 {e : TypeId} {w : World} {base : Nat} {v : Value} {zs : List Int} (h : OwnI e w base v zs) : ∃ A c, v = .slice A zs.length c := by
  rcases h.2 with ⟨rfl, h0⟩ | ⟨g, cap, cur, rfl, hb, hg, hn, hc, hsz, ht⟩
  · exact ⟨none, 0, by rw [h0]⟩
  · exact ⟨_, cap, rfl⟩

set_option maxRecDepth 100000 in
set_option maxHeartbeats 8000000 in
theorem bayPlan_any (a b c e p q r s : Bool) (w : World) (hT : MustTab w) :
    Calls Tryd.prog 26 #[.agg #[.bool a, .bool b, .bool c, .bool e], .agg #[.bool p, .bool q, .bool r, .bool s]] w fun x w' => ∃ v, x = .returned (.tuple #[v, .bool (planB (a, b, c, e) (p, q, r, s))]) ∧ OwnI 3 w' w.heap.size v (planF (a, b, c, e) (p, q, r, s)) ∧ Below w.heap.size w w' := by
  obtain ⟨i0, hi, hz0, hz1, hz2⟩ := info_parts intInfo6
  have HI := Lib.hid hi
  have HT := Lib.hid hT
  have b0 := Lib.hid (show Below w.heap.size w ((w.alloc (.cells #[.bool a, .bool b, .bool c, .bool e] 24)).alloc (.cells #[.bool p, .bool q, .bool r, .bool s] 24)) from (below_bx w _).alloc (by simp) _)
  have KF := Lib.hid ((IsBlk.new w 24 #[.bool a, .bool b, .bool c, .bool e]).alloc (.cells #[.bool p, .bool q, .bool r, .bool s] 24))
  have KT := Lib.hid (IsBlk.new (w.alloc (.cells #[.bool a, .bool b, .bool c, .bool e] 24)) 24 #[.bool p, .bool q, .bool r, .bool s])
  simp only [World.size_alloc] at KT
  clear hi hT
  go_enter Tryd.func26, Tryd.ntmps26
  go_wp2_with fail
  refine (baySafe_any a b c e _).mono ?_
  rintro x w1 ⟨rfl, hb1⟩
  have b1 := Lib.hid (b0.out.trans (hb1.mono b0.out.size))
  have KF1 := Lib.hid (KF.out.keep hb1)
  have KT1 := Lib.hid (KT.out.keep hb1)
  clear hb1 KF KT
  obtain ⟨q0, q1, q2, q3, -⟩ := KT1.out.four
  by_cases hs1 : safeF (a, b, c, e) = true
  · rw [hs1]
    go_wp2_with fail
    refine (baySafe_any p q r s _).mono ?_
    rintro x w2 ⟨rfl, hb2⟩
    have b2 := Lib.hid (b1.out.trans (hb2.mono b1.out.size))
    have KF2 := Lib.hid (KF1.out.keep hb2)
    have KT2 := Lib.hid (KT1.out.keep hb2)
    have HS1 := Lib.hid hs1
    clear q0 q1 q2 q3 hb2 KF1 KT1 hs1
    by_cases hs2 : safeF (p, q, r, s) = true
    · have HS2 := Lib.hid hs2
      have HF := Lib.hid (show planF (a, b, c, e) (p, q, r, s) = planN (disF (a, b, c, e) (p, q, r, s)) (a, b, c, e) (p, q, r, s) by rw [planF, if_pos ⟨HS1.out, HS2.out⟩])
      have HB := Lib.hid (show planB (a, b, c, e) (p, q, r, s) = true by rw [planB, HS1.out, HS2.out]; rfl)
      rw [hs2]
      clear hs2
      obtain ⟨q0, q1, q2, q3, -⟩ := KT2.out.four
      go_wp2_with fail
      refine (deedsLeft_any p q r s HS2.out _ (HT.out.keep b2.out)).mono ?_
      rintro x w3 ⟨B, cnt, rfl, hm3, hb3⟩
      have HM3 := Lib.hid hm3
      have S3 := Lib.hid (show PlanQ w w3 (a, b, c, e) B cnt (fun b => some (disF b (p, q, r, s))) (.slice none 0 0) [] from
        ⟨OwnI.nil, b2.out.trans (hb3.mono b2.out.size), KF2.out.keep hb3, hm3, by have h1 := KT2.out.lt; have h2 := hb3.size; omega⟩)
      obtain ⟨p0, p1, p2, p3, -⟩ := S3.out.bf.four
      have HN := Lib.hid (show disF (a, b, c, e) (p, q, r, s) ≤ 5 from disF_le _ _)
      clear q0 q1 q2 q3 hb3 KF2 KT2 b2 hm3
      go_wp2_with (at_lookup; refine wpList_look_at _ rfl _ _ rfl B cnt _ HM3.out (a, b, c, e) _ rfl rfl rfl ?_)
      clear p0 p1 p2 p3
      go_loopg [7, 8] (disF (a, b, c, e) (p, q, r, s)) (fun k v i wr => ∃ (z : Int) (f : B4) (zs : List Int), i = .int .i64 z ∧ z = (k : Int) - 1 ∧ PlanQ w wr f B cnt (fun b => some (disF b (p, q, r, s))) v zs ∧ zs ++ planN k f (p, q, r, s) = planF (a, b, c, e) (p, q, r, s) ∧ disF f (p, q, r, s) = k ∧ zs.length + k ≤ 5)
      case atStart => exact ⟨_, _, _, rfl, by first | rfl | exact IntWalk.wrap64_in (((disF (a, b, c, e) (p, q, r, s) : Nat) : Int) - 1) (by have := HN.out; omega), S3.out, by rw [HF.out]; rfl, rfl, by simpa using HN.out⟩
      case round =>
        obtain ⟨z, f, zs, rfl, hz, hst, hzs, hdis, hlen⟩ := hrel
        obtain ⟨f0, f1, f2, f3⟩ := f
        obtain ⟨Av, cv, hv⟩ := hst.own.sl8
        subst hv
        have SK := Lib.hid hst
        have HZS := Lib.hid hzs
        have HDIS := Lib.hid hdis
        obtain ⟨p0, p1, p2, p3, -⟩ := hst.bf.four
        clear hst hzs hdis S3 HF HN
        cases gk with
        | zero =>
          have hz0' : ¬ (0 ≤ z) := by omega
          have hlt : z < 0 := by omega
          clear hz
          go_wp2
          go_ret2
          refine ⟨.slice Av zs.length cv, by rw [HB.out]; rfl, ?_, SK.out.bel⟩
          have hz := HZS.out
          rw [planN, List.append_nil] at hz
          rw [← hz]
          exact OwnI.more9 SK.out.own (by omega)
        | succ m =>
          have hzm : z = (m : Int) := by omega
          have hdm : disF (f0, f1, f2, f3) (p, q, r, s) = m + 1 := HDIS.out
          have hne : (f0, f1, f2, f3) ≠ (p, q, r, s) := fun e => by rw [dis_iff.2 e] at hdm; cases hdm
          have hn8 := near_to HS2.out hne
          have HTW := Lib.hid (tow_near (M := fun b => some (disF b (p, q, r, s))) (fun _ => rfl) HS2.out hdm)
          have HNS := Lib.hid (near_spec hn8)
          generalize hd : nearF (f0, f1, f2, f3) (p, q, r, s) = d at hn8
          have HD := Lib.hid hd
          subst hzm
          have hm0 : (0 : Int) ≤ (m : Int) := by omega
          clear hz hdm hne hd
          go_wp2_with fail
          refine (deedToward_any f0 f1 f2 f3 B cnt _ m _ (HT.out.keep SK.out.bel) SK.out.map).mono ?_
          rintro x w4 ⟨rfl, hb4⟩
          have S4 := Lib.hid (SK.out.next hb4)
          rw [HTW.out, HD.out]
          clear p0 p1 p2 p3 SK hb4
          obtain ⟨p0, p1, p2, p3, -⟩ := S4.out.bf.four
          go_wp2_with fail
          refine (bayDo_any f0 f1 f2 f3 d _ (HT.out.keep S4.out.bel)).mono ?_
          rintro x w5 ⟨rfl, hb5⟩
          have S5 := Lib.hid (S4.out.next hb5)
          have HMD := Lib.hid (show mayN (f0, f1, f2, f3) d = true by rw [← HD.out]; exact HNS.out.1)
          rw [mayF_nat hn8, doF_nat hn8 HMD.out, HMD.out]
          generalize hy : doN (f0, f1, f2, f3) d = y
          have HY := Lib.hid hy
          have HDY := Lib.hid (show disF y (p, q, r, s) = m by have h1 := HNS.out.2.1; rw [HD.out, hy, HDIS.out] at h1; omega)
          clear p0 p1 p2 p3 S4 hb5 hy
          obtain ⟨y0, y1, y2, y3⟩ := y
          dsimp only [vB]
          obtain ⟨p0, p1, p2, p3, f0', f1', f2', f3'⟩ := S5.out.bf.four
          have S6 := Lib.hid (S5.out.move (y0, y1, y2, y3))
          have hzl : zs.length ≤ 5 := by omega
          have hm5 : (m : Int) ≤ 5 := by omega
          go_upto_region 10 with fail
          have hz8 := S6.out.sz
          have HOWN := Lib.hid S6.out.own
          generalize (((w5.setCell ⟨w.heap.size, 0, none⟩ (.bool y0)).setCell ⟨w.heap.size, 1, none⟩ (.bool y1)).setCell ⟨w.heap.size, 2, none⟩ (.bool y2)).setCell ⟨w.heap.size, 3, none⟩ (.bool y3) = w6 at *
          go_wp2_with (
            at_builtin
            refine wpList_append_own _ rfl _ _ _ rfl (w.heap.size + 2) 3 i0 (.int .i64 0) 1 8 Tryd.underlying34 HI.out hz0 hz1 hz2 rfl (by decide) _ _ _ rfl (World.ownsRow.alloc HOWN.out _) ⟨w6.heap.size, 0, none⟩ 1 1 [.int .i64 (d : Int)] rfl rfl ?c1 ?c2 ?c3 ?c4 ?c5 ?_
            case c1 => exact cell_one_new _ _ _
            case c2 => intro u hu; simp at hu; subst hu; rfl
            case c3 => simp only [maxLen]; omega
            case c4 => omega
            case c5 => simp; omega
            intro v' w7 hown' hgrow _
            have S7 := Lib.hid (S6.out.push (zs' := zs ++ [(d : Int)]) (.cells #[.int .i64 (d : Int)] 3) (by simpa [OwnI] using hown') hgrow))
          go_roundg m
          case rel => exact ⟨(m : Int) - 1, (y0, y1, y2, y3), zs ++ [(d : Int)], by go_num, rfl, S7.out, by rw [← plan_next9 HD.out HY.out]; exact HZS.out, HDY.out, by simp; omega⟩
          case measure => omega
    · rw [Bool.not_eq_true] at hs2
      have HS2 := Lib.hid hs2
      rw [hs2]
      clear hs2
      go_wp2
      go_ret2
      exact ⟨_, by rw [planB, HS1.out, HS2.out]; rfl, by rw [planF, if_neg (by rw [HS2.out]; simp)]; exact OwnI.nil, b2.out⟩
  · rw [Bool.not_eq_true] at hs1
    have HS1 := Lib.hid hs1
    rw [hs1]
    clear hs1
    go_wp2
    go_ret2
    exact ⟨_, by rw [planB, HS1.out]; rfl, by rw [planF, if_neg (by rw [HS1.out]; simp)]; exact OwnI.nil, b1.out⟩
end Go.Proofs.YtapbmpodimdkpaaDoor
