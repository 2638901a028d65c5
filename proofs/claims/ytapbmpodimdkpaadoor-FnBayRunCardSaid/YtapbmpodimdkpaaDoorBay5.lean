/- Bays, of the model: how far each bay is from one. -/
import Derived.Test.YtapbmpodimdkpaaDoorBay4
import Derived.Test.YtapbmpodimdkpaaDoorBCC
import Derived.Laws.CopyOwn
import Derived.Deep.Cut
namespace Go.Proofs.YtapbmpodimdkpaaDoor
open Go.ChangeShapes Go.WideShapes Go.ChangeAt Go.RowKit

theorem ownLit (w : World) : OwnI 3 (w.alloc (.cells #[] 3)) w.heap.size (.slice (some ⟨w.heap.size, 0, none⟩) 0 0) [] := by
  have := World.ownsRow_lit (base := w.heap.size) (size := 1) (e := 3) w #[] 0 (by omega) (by decide) rfl
  simpa [OwnI] using this
theorem OwnI.more_ {e : TypeId} {w : World} {base base' : Nat} {v : Value} {zs : List Int} (h : OwnI e w base v zs) (hb : base' ≤ base) : OwnI e w base' v zs := by
  refine ⟨h.1, ?_⟩
  rcases h.2 with h2 | ⟨g, cap, cur, h1, h2, h3⟩
  · exact .inl h2
  · exact .inr ⟨g, cap, cur, h1, Nat.le_trans hb h2, h3⟩
theorem OwnI.put9 {w : World} {base : Nat} {v : Value} {zs : List Int} (h : OwnI 3 w base v zs) (h0 : 0 < zs.length) :
    ∃ g cap, v = .slice (some ⟨g, 0, none⟩) zs.length cap ∧ base ≤ g ∧ g < w.heap.size ∧ zs.length ≤ cap := by
  rcases h.2 with ⟨h1, h2⟩ | ⟨g, cap, cur, h1, h2, h3, h4, h5, h6, h7⟩
  · omega
  · have hb : IsBlk w g 3 cur := h3
    exact ⟨g, cap, h1, h2, hb.lt, h4⟩
theorem OwnI.in9 {w : World} {base g n cap : Nat} {zs : List Int} {k : Nat} {x : Int} (h : OwnI 3 w base (.slice (some ⟨g, 0, none⟩) n cap) zs) (hx : zs[k]? = some x) :
    w.cell? ⟨g, k, none⟩ = some (.int .i64 x) ∧ w.frozen? ⟨g, k, none⟩ = false ∧ ∀ z, OwnI 3 (w.setCell ⟨g, k, none⟩ (.int .i64 z)) base (.slice (some ⟨g, 0, none⟩) n cap) (zs.set k z) := by
  have hk := (List.getElem?_eq_some_iff.1 hx).1
  rcases h.2 with ⟨h1, h2⟩ | ⟨g', cap', cur, h1, h2, h3, h4, h5, h6, h7⟩
  · omega
  · injection h1 with h1 hn hc
    injection h1 with h1
    injection h1 with h1
    subst h1 hn hc
    have hb : IsBlk w g 3 cur := h3
    rw [Nat.mul_one] at h6 h7
    refine ⟨?_, hb.thaw k, fun z => ?_⟩
    · rw [hb.cell k, ← Array.getElem?_toList]
      have h8 : (cur.toList.take zs.length)[k]? = some (.int .i64 x) := by
        rw [h7, List.getElem?_map, hx]; rfl
      rwa [List.getElem?_take_of_lt hk] at h8
    · refine OwnI.mk_ (cur := cur.setIfInBounds k (.int .i64 z)) (by simp) h2 (hb.put k _) h4 h5 (by simpa using h6) ?_
      rw [Array.toList_setIfInBounds, List.take_set, h7, List.map_set]

/-- A list beside the box of a bay. -/
structure FarSt (w wr : World) (t : B4) (v : Value) (xs : List Int) : Prop where
  own : OwnI 3 wr (w.heap.size + 1) v xs
  bel : Below w.heap.size w wr
  box : IsBlk wr w.heap.size 24 #[.bool t.1, .bool t.2.1, .bool t.2.2.1, .bool t.2.2.2]
section
variable {w wr w' : World} {t : B4} {v v' : Value} {xs xs' : List Int}
theorem FarSt.next (h : FarSt w wr t v xs) (hb : Below wr.heap.size wr w') : FarSt w w' t v xs := ⟨OwnI.keep h.own hb, h.bel.trans (hb.mono h.bel.size), h.box.keep hb⟩
theorem FarSt.drew (h : FarSt w wr t v xs) : FarSt w wr.drew t v xs := ⟨h.own, h.bel.drew, h.box⟩
theorem FarSt.drewN (h : FarSt w wr t v xs) (n : Nat) : FarSt w (wr.drewN n) t v xs := ⟨OwnI.drewN h.own n, below_drewN h.bel n, h.box⟩
theorem FarSt.push (h : FarSt w wr t v xs) (o : Obj) (hown : OwnI 3 w' (w.heap.size + 1) v' xs') (hg : (wr.alloc o).grownBy w' v.ownBlock) : FarSt w w' t v' xs' := by
  have hlow := OwnI.lt h.own
  have hsz := h.bel.size
  refine ⟨hown, (h.bel.alloc hsz o).grown hg (by simp; omega) (fun q hq => by have := (hlow q hq).1; omega), ?_⟩
  exact (h.box.alloc o).farG hg (fun e => by have := (hlow _ e).1; omega)
theorem FarSt.put {g n cap k : Nat} {x : Int} (h : FarSt w wr t (.slice (some ⟨g, 0, none⟩) n cap) xs) (hg : w.heap.size < g) (hx : xs[k]? = some x) (z : Int) : FarSt w (wr.setCell ⟨g, k, none⟩ (.int .i64 z)) t (.slice (some ⟨g, 0, none⟩) n cap) (xs.set k z) :=
  ⟨(h.own.in9 hx).2.2 z, h.bel.setCell (show w.heap.size ≤ g by omega) _, h.box.far (p := ⟨g, k, none⟩) (show w.heap.size ≠ g by omega) _⟩
end
def farF (t : B4) : List Int := (List.range 16).map fun i => (disF (bayN i) t : Int)
theorem farF_len (t : B4) : (farF t).length = 16 := by simp [farF]
theorem farF_at {t : B4} {i : Nat} (hi : i < 16) : (farF t)[i]? = some (disF (bayN i) t : Int) := by rw [farF, List.getElem?_map, List.getElem?_range hi]; rfl
theorem FarI.all {t : B4} {xs : List Int} (h : FarI t 16 0 xs) : xs = farF t := by
  apply List.ext_getElem?
  intro i
  rcases Nat.lt_or_ge i 16 with hi | hi
  · rw [h.at_ hi, farF_at hi]
  · rw [List.getElem?_eq_none (by rw [h.len]; exact hi), List.getElem?_eq_none (by rw [farF_len]; exact hi)]

set_option maxRecDepth 100000 in
set_option maxHeartbeats 8000000 in
theorem l9Far_any (a b c e : Bool) (hsafe : safeF (a, b, c, e) = true) (w : World) :
    Calls Tryd.prog 50 #[.agg #[.bool a, .bool b, .bool c, .bool e]] w fun x w' => ∃ g cap, x = .returned (.slice (some ⟨g, 0, none⟩) 16 cap) ∧ w.heap.size ≤ g ∧ OwnI 3 w' w.heap.size (.slice (some ⟨g, 0, none⟩) 16 cap) (farF (a, b, c, e)) ∧ Below w.heap.size w w' := by
  obtain ⟨i0, hi, hz0, hz1, hz2⟩ := info_parts intInfo6
  have HI := Lib.hid hi
  have HSF := Lib.hid hsafe
  have hown0 := ownLit (w.alloc (.cells #[.bool a, .bool b, .bool c, .bool e] 24))
  simp only [World.size_alloc] at hown0
  have S0 := Lib.hid (show FarSt w ((w.alloc (.cells #[.bool a, .bool b, .bool c, .bool e] 24)).alloc (.cells #[] 3)) (a, b, c, e) (.slice (some ⟨w.heap.size + 1, 0, none⟩) 0 0) (List.replicate 0 99) from
    ⟨hown0, (below_bx w _).alloc (by simp) _, (IsBlk.new w 24 _).alloc (.cells #[] 3)⟩)
  clear hi hsafe hown0
  go_enter Tryd.func50, Tryd.ntmps50
  go_upto_region 2 with fail
  generalize (w.alloc (.cells #[.bool a, .bool b, .bool c, .bool e] 24)).alloc (.cells #[] 3) = W0 at *
  go_wp2
  go_loopw [3, 4] (fun v i wr => ∃ k : Nat, k ≤ 16 ∧ i = .int .i64 k ∧ FarSt w wr (a, b, c, e) v (List.replicate k 99)) (fun _ i _ => 16 - (intOf i).toNat)
  case atStart => exact ⟨0, by omega, rfl, S0.out⟩
  case round =>
    obtain ⟨k, hk, rfl, hst⟩ := hrel
    have SK := Lib.hid hst
    clear hst S0
    by_cases hlt : k < 16
    · have hle : (List.replicate k (99 : Int)).length = k := List.length_replicate
      have hzr := SK.out.bel.size
      go_wp2_with (
        at_builtin
        refine wpList_append_own _ rfl _ _ _ rfl (w.heap.size + 1) 3 i0 (.int .i64 0) 1 8 Tryd.underlying34 HI.out hz0 hz1 hz2 rfl (by decide) _ _ _ rfl (World.ownsRow.alloc SK.out.own _) ⟨wr.heap.size, 0, none⟩ 1 1 [.int .i64 99] rfl rfl ?c1 ?c2 ?c3 ?c4 ?c5 ?_
        case c1 => exact cell_one_new _ _ _
        case c2 => intro u hu; simp at hu; subst hu; rfl
        case c3 => simp only [maxLen]; omega
        case c4 => omega
        case c5 => have := SK.out.box.lt; simp; omega
        intro v' w3 hown' hgrow _
        have S3 := Lib.hid (SK.out.push (xs' := List.replicate (k + 1) 99) (.cells #[.int .i64 99] 3) (by simpa [OwnI, List.replicate_succ'] using hown') hgrow))
      go_roundw
      case rel => exact ⟨k + 1, by omega, by go_num, S3.out⟩
      case measure => simp [intOf]; omega
    · obtain rfl : k = 16 := by omega
      have HF := Lib.hid (FarI.start (a, b, c, e) 16 rfl)
      obtain ⟨g, cap, hv, hg, hgs, hcap⟩ := SK.out.own.put9 (by simp)
      rw [List.length_replicate] at hv hcap
      subst hv
      have SK2 := Lib.hid SK.out
      clear SK hgs
      go_wp2
      go_loopw [5] (fun i wr => ∃ (s : Nat) (xs : List Int), s ≤ 16 ∧ i = .int .i64 s ∧ FarSt w wr (a, b, c, e) (.slice (some ⟨g, 0, none⟩) 16 cap) xs ∧ FarI (a, b, c, e) s 0 xs) (fun i _ => 16 - (intOf i).toNat)
      case atStart => exact ⟨0, _, by omega, rfl, SK2.out, HF.out⟩
      case round =>
        obtain ⟨s, xs, hs, rfl, hst, hfi⟩ := hrel
        have SS := Lib.hid hst
        have FI := Lib.hid hfi
        clear hst hfi SK2 HF
        by_cases hlt : s < 16
        · have hds : decide ((s : Int) < 16) = true := decide_eq_true (by omega)
          go_wp2
          go_loopw [6] (fun i wr => ∃ (k : Nat) (xs : List Int), k ≤ 16 ∧ i = .int .i64 k ∧ FarSt w wr (a, b, c, e) (.slice (some ⟨g, 0, none⟩) 16 cap) xs ∧ FarI (a, b, c, e) s k xs) (fun i _ => 16 - (intOf i).toNat)
          case atStart => exact ⟨0, _, by omega, rfl, SS.out, FI.out⟩
          case round =>
            obtain ⟨k, xs, hk, rfl, hst, hfi⟩ := hrel
            have SK := Lib.hid hst
            have FK := Lib.hid hfi
            clear hst hfi SS FI
            by_cases hlk : k < 16
            · have hdk : decide ((k : Int) < 16) = true := decide_eq_true (by omega)
              obtain ⟨p0, p1, p2, p3, -⟩ := SK.out.box.four
              go_upto_region 12 with fail
              go_cut [30] from 23 to 33 (fun v wx => v = .bool (decide (bayN k = (a, b, c, e))) ∧ Below wr.heap.size wr wx)
              case first =>
                go_region_with (go_at_call 52; refine (l9Bay_any k hlk _).mono ?_; rintro y w1 ⟨rfl, hb1⟩; (first | (have hkk := (show IsBlk wr.drew w.heap.size 24 #[.bool a, .bool b, .bool c, .bool e] from SK.out.box).keep hb1; obtain ⟨q0, q1, q2, q3, -⟩ := hkk.four) | skip); have hcmp := eqlBay (bayN k) (a, b, c, e); generalize hbk : bayN k = x at hcmp ⊢; obtain ⟨x0, x1, x2, x3⟩ := x; have HBK := Lib.hid hbk; clear hbk; dsimp only [vB] at hcmp ⊢)
                all_goals go_wp2_with fail
                all_goals go_meet
                all_goals exact ⟨by rw [HBK.out, eq4], ((Below.refl wr.heap.size wr).drew).trans hb1⟩
              case rest =>
                obtain ⟨rfl, hb1⟩ := hcut
                have SK1 := Lib.hid (SK.out.next hb1)
                clear p0 p1 p2 p3 SK hb1
                obtain ⟨x, hx⟩ : ∃ x, xs[k]? = some x := ⟨_, List.getElem?_eq_getElem (by rw [FK.out.len]; exact hlk)⟩
                obtain ⟨c0, f0, -⟩ := SK1.out.own.in9 hx
                have HX := Lib.hid hx
                clear hx
                go_upto_if 30 with fail
                go_cut [6] from 23 to 33 (fun v wx => v = .int .i64 k ∧ ∃ xs', FarSt w wx (a, b, c, e) (.slice (some ⟨g, 0, none⟩) 16 cap) xs' ∧ FarR (a, b, c, e) s k 0 0 xs')
                case first =>
                  have hk0 : (0 : Int) ≤ (k : Int) := by omega
                  have hk16 : (k : Int) < 16 := by omega
                  by_cases hq : bayN k = (a, b, c, e)
                  · have HQ := Lib.hid hq
                    rw [decide_eq_true hq]
                    clear hq
                    go_wp2_with fail
                    go_meet
                    exact ⟨rfl, _, SK1.out.put (by omega) HX.out 0, FK.out.set0 hlk HQ.out⟩
                  · have HQ := Lib.hid hq
                    rw [decide_eq_false hq]
                    clear hq
                    go_wp2_with fail
                    go_meet
                    exact ⟨rfl, _, SK1.out, FK.out.keep0 HQ.out⟩
                case rest =>
                  obtain ⟨rfl, xs', hst, hfr⟩ := hcut
                  have SJ := Lib.hid hst
                  have RJ := Lib.hid hfr
                  clear hst hfr SK1 FK c0 f0 HX
                  go_wp2
                  go_loopw [7] (fun i wr => ∃ (j : Nat) (xs : List Int), j ≤ 16 ∧ i = .int .i64 j ∧ FarSt w wr (a, b, c, e) (.slice (some ⟨g, 0, none⟩) 16 cap) xs ∧ FarR (a, b, c, e) s k j 0 xs) (fun i _ => 16 - (intOf i).toNat)
                  case atStart => exact ⟨0, _, by omega, rfl, SJ.out, RJ.out⟩
                  case round =>
                    obtain ⟨j, xs, hj, rfl, hst, hfr⟩ := hrel
                    have SL := Lib.hid hst
                    have RL := Lib.hid hfr
                    clear hst hfr SJ RJ
                    by_cases hlj : j < 16
                    · have hdj : decide ((j : Int) < 16) = true := decide_eq_true (by omega)
                      go_wp2
                      go_loopw [8] (fun i wr => ∃ (d : Nat) (xs : List Int), d ≤ 8 ∧ i = .int .i64 d ∧ FarSt w wr (a, b, c, e) (.slice (some ⟨g, 0, none⟩) 16 cap) xs ∧ FarR (a, b, c, e) s k j d xs) (fun i _ => 8 - (intOf i).toNat)
                      case atStart => exact ⟨0, _, by omega, rfl, SL.out, RL.out⟩
                      case round =>
                        obtain ⟨d, xs, hd, rfl, hst, hfr⟩ := hrel
                        have SD := Lib.hid hst
                        have RD := Lib.hid hfr
                        clear hst hfr SL RL
                        by_cases hld : d < 8
                        · have hdd : decide ((d : Int) < 8) = true := decide_eq_true (by omega)
                          go_wp2_with fail
                          refine (l9Bay_any k hlk _).mono ?_
                          rintro z w1 ⟨rfl, hb1⟩
                          have S1 := Lib.hid (SD.out.next hb1)
                          generalize hbk : bayN k = x
                          obtain ⟨x0, x1, x2, x3⟩ := x
                          have HBK := Lib.hid hbk
                          dsimp only [vB]
                          clear hbk SD hb1
                          go_wp2_with fail
                          refine (specBayDo_any x0 x1 x2 x3 d _).mono ?_
                          rintro z w2 ⟨rfl, hb2⟩
                          have S2 := Lib.hid (S1.out.next hb2)
                          rw [mayF_nat hld]
                          clear S1 hb2
                          by_cases hm : mayN (x0, x1, x2, x3) d = true
                          · have HM := Lib.hid hm
                            rw [doF_nat hld hm, hm]
                            generalize hy : doN (x0, x1, x2, x3) d = y
                            obtain ⟨y0, y1, y2, y3⟩ := y
                            have HY := Lib.hid hy
                            dsimp only [vB]
                            have S3 := Lib.hid (S2.out.next (below_bx w2 (.cells #[.bool y0, .bool y1, .bool y2, .bool y3] 24)))
                            have K3 := Lib.hid (IsBlk.new w2 24 #[.bool y0, .bool y1, .bool y2, .bool y3])
                            clear hm hy S2
                            go_upto_region 21 with fail
                            generalize w2.alloc (.cells #[.bool y0, .bool y1, .bool y2, .bool y3] 24) = w3 at *
                            obtain ⟨p0, p1, p2, p3, -⟩ := K3.out.four
                            go_cut [55] from 38 to 68 (fun v wx => v = .bool (decide ((y0, y1, y2, y3) = bayN j)) ∧ Below w3.heap.size w3 wx)
                            case first =>
                              go_region_with (go_at_call 52; refine (l9Bay_any j hlj _).mono ?_; rintro z w4 ⟨rfl, hb4⟩; (first | (have hkk := (show IsBlk w3.drew w2.heap.size 24 #[.bool y0, .bool y1, .bool y2, .bool y3] from K3.out).keep hb4; obtain ⟨q0, q1, q2, q3, -⟩ := hkk.four) | skip); have hcmp := eqlBay (y0, y1, y2, y3) (bayN j); generalize hbj : bayN j = z at hcmp ⊢; obtain ⟨z0, z1, z2, z3⟩ := z; have HBJ := Lib.hid hbj; clear hbj; dsimp only [vB] at hcmp ⊢)
                              all_goals go_wp2_with fail
                              all_goals go_meet
                              all_goals exact ⟨by rw [HBJ.out, eq4], ((Below.refl w3.heap.size w3).drew).trans hb4⟩
                            case rest =>
                              obtain ⟨rfl, hb4⟩ := hcut
                              have S4 := Lib.hid (S3.out.next hb4)
                              clear p0 p1 p2 p3 S3 K3 hb4
                              by_cases hq : (y0, y1, y2, y3) = bayN j
                              · have HJ := Lib.hid (show numN (doN (bayN k) d) = j by rw [HBK.out, HY.out, hq, num_bay j hlj])
                                have HMK := Lib.hid (show mayN (bayN k) d = true by rw [HBK.out]; exact HM.out)
                                rw [decide_eq_true hq]
                                clear hq
                                obtain ⟨x, hx⟩ : ∃ x, xs[k]? = some x := ⟨_, List.getElem?_eq_getElem (by rw [RD.out.inv.len]; exact hlk)⟩
                                obtain ⟨y, hy⟩ : ∃ y, xs[j]? = some y := ⟨_, List.getElem?_eq_getElem (by rw [RD.out.inv.len]; exact hlj)⟩
                                obtain ⟨c0, f0, -⟩ := S4.out.own.in9 hx
                                obtain ⟨c1, -, -⟩ := S4.out.own.in9 hy
                                have ly := (RD.out.inv.low j y hy).2
                                have ly0 := (RD.out.inv.low j y hy).1
                                have HX := Lib.hid hx
                                have HYJ := Lib.hid hy
                                have hk0 : (0 : Int) ≤ (k : Int) := by omega
                                have hk16 : (k : Int) < 16 := by omega
                                have hj0 : (0 : Int) ≤ (j : Int) := by omega
                                have hj16 : (j : Int) < 16 := by omega
                                have hy0 : (0 : Int) ≤ y := by omega
                                have RH := Lib.hid (RD.out.hit hlk hld HMK.out HJ.out HX.out HYJ.out)
                                clear hx hy ly0
                                go_upto_region 22 with fail
                                go_region
                                have hite : (if y + 1 < x then y + 1 else x) = min x (y + 1) := by split <;> omega
                                rw [← hite] at RH
                                have S5 := Lib.hid (S4.out.put (by omega) HX.out (if y + 1 < x then y + 1 else x))
                                clear hite
                                go_wp2
                                go_roundw
                                case rel => exact ⟨d + 1, _, by omega, by go_num, S5.out.drew, RH.out⟩
                                case measure => simp [intOf]; omega
                              · have RN := Lib.hid (RD.out.miss hld (fun h => hq (by rw [← HY.out, ← HBK.out, ← h.2, bay_num])))
                                rw [decide_eq_false hq]
                                clear hq
                                go_wp2
                                go_roundw
                                case rel => exact ⟨d + 1, _, by omega, by go_num, S4.out, RN.out⟩
                                case measure => simp [intOf]; omega
                          · rw [Bool.not_eq_true] at hm
                            have RN := Lib.hid (RD.out.miss hld (fun h => by rw [HBK.out, hm] at h; cases h.1))
                            rw [hm]
                            generalize doF (x0, x1, x2, x3) d = y
                            obtain ⟨y0, y1, y2, y3⟩ := y
                            dsimp only [vB]
                            have S3 := Lib.hid (S2.out.next (below_bx w2 (.cells #[.bool y0, .bool y1, .bool y2, .bool y3] 24)))
                            clear hm S2
                            go_upto_region 21 with fail
                            go_quiet (fail)
                            go_wp2
                            go_roundw
                            case rel => exact ⟨d + 1, _, by omega, by go_num, S3.out.drewN _, RN.out⟩
                            case measure => simp [intOf]; omega
                        · obtain rfl : d = 8 := by omega
                          have RN := Lib.hid RD.out.nextJ
                          go_wp2
                          go_roundw
                          case rel => exact ⟨j + 1, _, by omega, by go_num, SD.out, RN.out⟩
                          case measure => simp [intOf]; omega
                    · obtain rfl : j = 16 := by omega
                      have FN := Lib.hid (RL.out.done HSF.out)
                      go_wp2
                      go_roundw
                      case rel => exact ⟨k + 1, _, by omega, by go_num, SL.out, FN.out⟩
                      case measure => simp [intOf]; omega
            · obtain rfl : k = 16 := by omega
              have FN := Lib.hid FK.out.next
              go_wp2
              go_roundw
              case rel => exact ⟨s + 1, _, by omega, by go_num, SK.out, FN.out⟩
              case measure => simp [intOf]; omega
        · obtain rfl : s = 16 := by omega
          have HA := FI.out.all
          subst HA
          go_wp2
          go_ret
          exact ⟨g, cap, rfl, by omega, OwnI.more_ SS.out.own (by omega), SS.out.bel⟩
end Go.Proofs.YtapbmpodimdkpaaDoor
