/- Reading of texts, the program's half: ReadNet. -/
import Derived.Test.YtciciidndjkdiaaDoorR4
import Derived.Test.YtciciidndjkdiaaDoorR6
namespace Go.Proofs.YtciciidndjkdiaaDoor
open Go.ChangeShapes Go.WideShapes Go.ChangeAt Go.RowKit

theorem splitK_ne (sep : Bs) : ∀ (k : Nat) (s : Bs), Lib.splitK sep 0 k s ≠ []
  | 0, s => by simp [Lib.splitK]
  | k + 1, s => by rw [Lib.splitK]; split <;> simp
theorem splitK_le (sep : Bs) : ∀ (k : Nat) (s : Bs), ∀ p ∈ Lib.splitK sep 0 k s, p.length ≤ s.length
  | 0, s, p, h => by simp [Lib.splitK] at h; subst h; exact Nat.le_refl _
  | k + 1, s, p, h => by
    rw [Lib.splitK] at h
    split at h
    · simp at h; subst h; exact Nat.le_refl _
    · rcases List.mem_cons.1 h with h | h
      · subst h; rw [List.length_take]; omega
      · have := splitK_le sep k _ p h; rw [List.length_drop] at this; omega

set_option maxRecDepth 100000 in
set_option maxHeartbeats 4000000 in
theorem readNet_any (hC : CutSays) (hA : AtoiSays) (hSp : SplitSays) (hI : ItoaSays) (s : ByteArray) (w : World) (hs : s.size ≤ 1100000) (hl : LibEnv w) :
    Calls Tryd.prog 12 #[.string s] w (ReadEnd (resF (candP s.data.toList) s) w) := by
  obtain ⟨i0, hi, hz0, hz1, hz2⟩ := info_parts lineInfo
  have I0 := Lib.hid hi
  clear hi
  have HA := Lib.hid hA
  have HCs := Lib.hid hC
  have HI := Lib.hid hI
  have HE := Lib.hid hl
  have e0 : (candP s.data.toList) = (numP ((Lib.splitK [32] 0 (min 12 (s.size + 1) - 1) s.data.toList).getD 0 []), (Lib.splitK [32] 0 (min 12 (s.size + 1) - 1) s.data.toList).tail.map lineP) := by rw [candP, sized]
  have HC := Lib.hid e0
  have HL := Lib.hid (show ∀ p ∈ Lib.splitK [32] 0 (min 12 (s.size + 1) - 1) s.data.toList, p.length ≤ 2000000 from fun p hp => by have := splitK_le [32] (min 12 (s.size + 1) - 1) s.data.toList p hp; rw [sized] at this; omega)
  have hne := splitK_ne [32] (min 12 (s.size + 1) - 1) s.data.toList
  have hsp := hSp s (w.alloc (.cells #[.int .i64 0, .slice none 0 0] 25)) (by omega) (hl.keep (below_bx _ _))
  have HSp := Lib.hid hsp
  clear hA hC hI hl hsp hSp e0
  generalize candP s.data.toList = cand at *
  generalize Lib.splitK [32] 0 (min 12 (s.size + 1) - 1) s.data.toList = xs at *
  go_enter Tryd.func12, Tryd.ntmps12
  go_wp2_with fail
  refine HSp.out.mono ?_
  rintro e w1 ⟨b, c1, rfl, hnc, hc12, hr1, hb1⟩
  clear HSp
  have a1 : Below w.heap.size w w1 := (below_bx w _).trans (hb1.mono (by simp))
  have k1 := (IsBlk.new w 25 #[.int .i64 0, .slice none 0 0]).keep hb1
  have hs1 : w.heap.size + 1 ≤ w1.heap.size := by have := hb1.size; simpa using this
  have hpos : 0 < xs.length := List.length_pos_iff.2 hne
  have hposI : (0 : Int) < (xs.length : Int) := by omega
  obtain ⟨b', off', x0, e1, hbl, hx0, g0⟩ := hr1.at hpos
  injection e1 with e1; injection e1 with e1 e2
  subst e1 e2
  obtain ⟨p0, hp0, rfl⟩ : ∃ p0, xs[0]? = some p0 ∧ strV p0 = x0 := by simpa using hx0
  have HP0 := Lib.hid (HL.out p0 (List.mem_of_getElem? hp0))
  have e0 : xs.getD 0 [] = p0 := by rw [List.getD_eq_getElem?_getD, hp0]; rfl
  rw [e0] at HC
  rw [Nat.add_zero] at g0
  unfold strV at g0
  clear hne hx0 e0 hp0
  go_wp2_with fail
  refine (numberIn_any HA.out p0 HP0.out _ (HE.out.keep a1)).mono ?_
  rintro e w2 ⟨rfl, hb2⟩
  have a2 := a1.trans (hb2.mono a1.size)
  have hs2 : w.heap.size + 1 ≤ w2.heap.size := by have := hb2.size; omega
  generalize numP p0 = bs at *
  have S1 := Lib.hid (show ReadSt w (w2.alloc (.cells #[.int .i64 bs, .slice none 0 0] 25)) w2.heap.size bs (.slice none 0 0) [] b 0 xs.length (xs.map strV) from
    ⟨(k1.keep hb2).alloc _, by omega, IsBlk.new _ _ _, World.ownsRow_nil _ _ _ _, (hr1.below hb2).below (below_bx _ _), Nat.lt_of_lt_of_le hbl hb2.size, a2.alloc a2.size _⟩)
  clear hr1 k1 hb1 a1 g0
  generalize hN : xs.length = N at *
  have HN := Lib.hid hN
  clear hN
  obtain ⟨m, rfl⟩ : ∃ m, N = m + 1 := ⟨N - 1, by omega⟩
  have HM := Lib.hid (show c1 = 1 → m = 0 from fun e => by omega)
  have h1c : (1 : Int) ≤ (c1 : Int) := by omega
  have h1d : (m : Int) + 1 ≤ (c1 : Int) := by omega
  have hm12 : m ≤ 11 := by omega
  have hcases : (c1 = 1 ∧ m = 0) ∨ (¬ (c1 : Int) = 1 ∧ 0 ≤ m) := by
    by_cases h : c1 = 1
    · exact .inl ⟨h, by omega⟩
    · exact .inr ⟨by omega, by omega⟩
  clear HM
  rcases hcases with ⟨rfl, rfl⟩ | ⟨hcap, hm0⟩
  all_goals go_wp2_with fail
  all_goals generalize hX : w2.heap.size = X at *
  all_goals have HX := Lib.hid hX
  all_goals clear hX
  · go_loopw [18] (fun i wr => ∃ (k : Nat) (v : Value), k ≤ 0 ∧ i = .int .i64 (k : Int) ∧ ReadSt w wr X bs v ((xs.tail.take k).map lineP) b 0 (0 + 1) (xs.map strV)) (fun i _ => 0 - (intOf i).toNat)
    case atStart => exact ⟨0, _, by omega, rfl, by simpa using S1.out⟩
    case round =>
      obtain ⟨k, v, hk, rfl, hS⟩ := hrel
      have S2 := Lib.hid hS
      have hlk : ((xs.tail.take k).map lineP).length = k := by have := HN.out; rw [List.length_map, List.length_take, List.length_tail]; omega
      have HLK := Lib.hid hlk
      clear hS hlk
      obtain rfl : k = 0 := by omega
      skip
      have HT := Lib.hid (show (xs.tail.take 0).map lineP = xs.tail.map lineP by have := HN.out; rw [List.take_of_length_le (by rw [List.length_tail]; omega)])
      have S3 := Lib.hid (show ReadSt w wr X bs v (xs.tail.map lineP) b 0 (0 + 1) (xs.map strV) by have := S2.out; rw [HT.out] at this; exact this)
      have hl1 : (xs.tail.map lineP).length ≤ 1048576 := by have := HN.out; rw [List.length_map, List.length_tail]; omega
      clear HT S2 HLK
      generalize xs.tail.map lineP = ls at *
      obtain ⟨A', c', rfl, hrow⟩ := S3.out.own.row
      have R3 := Lib.hid hrow
      clear hrow
      obtain ⟨p0', p1, p2, p3⟩ := S3.out.var.two
      obtain ⟨q0, q1, q2, q3⟩ := S3.out.ret.two
      have hXw : ¬ w.heap.size = X := by have := S3.out.far; omega
      have hXw' : ¬ X = w.heap.size := by have := S3.out.far; omega
      by_cases hv : netOk bs ls = true
      · have HV := Lib.hid hv
        go_wp2_with fail
        refine (netValid_any bs A' ls.length c' ls _ hl1 R3.out).mono ?_
        rintro e w4 ⟨rfl, hb4⟩
        rw [HV.out]
        have S4 := Lib.hid (S3.out.keep hb4)
        have R4 := Lib.hid (R3.out.below hb4)
        clear p0' p1 p2 p3 q0 q1 q2 q3
        obtain ⟨p0', p1, p2, p3⟩ := S4.out.var.two
        clear hv
        go_wp2_with fail
        refine (netText_any HI.out bs A' ls.length c' ls _ hl1 R4.out (HE.out.keep S4.out.bel).pow).mono ?_
        rintro e w5 ⟨rfl, hb5⟩
        have S5 := Lib.hid (S4.out.keep hb5)
        clear p0' p1 p2 p3
        obtain ⟨p0', p1, p2, p3⟩ := S5.out.var.two
        obtain ⟨q0, q1, q2, q3⟩ := S5.out.ret.two
        by_cases ht : textF bs ls = s
        · have HR := Lib.hid (show resF cand s = some (bs, ls) by rw [resF, HC.out, if_pos ⟨HV.out, ht⟩])
          rw [ht]
          clear ht
          go_wp2
          refine bodyPost_ret (v := .tuple #[.agg #[.int .i64 bs, .slice A' ls.length c'], .bool true]) (by simp [results, Tryd.results12, go_sem, q0, q1]) rfl ?_
          rw [HR.out]
          exact ⟨_, rfl, S5.out.done _ _⟩
        · have HR := Lib.hid (show resF cand s = none by rw [resF, HC.out, if_neg (fun h => ht h.2)])
          generalize textF bs ls = t at *
          have h3 := str_ne ht
          clear ht
          go_wp2
          refine bodyPost_ret (v := .tuple #[.agg #[.int .i64 0, .slice none 0 0], .bool false]) (by simp [results, Tryd.results12, go_sem, q0, q1]) rfl ?_
          rw [HR.out]
          exact ⟨rfl, (S5.out.done _ _).2⟩
      · have HR := Lib.hid (show resF cand s = none by rw [resF, HC.out, if_neg (fun h => hv h.1)])
        rw [Bool.not_eq_true] at hv
        have HV := Lib.hid hv
        clear hv
        go_wp2_with fail
        refine (netValid_any bs A' ls.length c' ls _ hl1 R3.out).mono ?_
        rintro e w4 ⟨rfl, hb4⟩
        rw [HV.out]
        have S4 := Lib.hid (S3.out.keep hb4)
        clear p0' p1 p2 p3 q0 q1 q2 q3
        obtain ⟨q0, q1, q2, q3⟩ := S4.out.ret.two
        go_wp2
        refine bodyPost_ret (v := .tuple #[.agg #[.int .i64 0, .slice none 0 0], .bool false]) (by simp [results, Tryd.results12, go_sem, q0, q1]) rfl ?_
        rw [HR.out]
        exact ⟨rfl, (S4.out.done _ _).2⟩
  · go_loopw [18] (fun i wr => ∃ (k : Nat) (v : Value), k ≤ m ∧ i = .int .i64 (k : Int) ∧ ReadSt w wr X bs v ((xs.tail.take k).map lineP) b 0 (m + 1) (xs.map strV)) (fun i _ => m - (intOf i).toNat)
    case atStart => exact ⟨0, _, by omega, rfl, by simpa using S1.out⟩
    case round =>
      obtain ⟨k, v, hk, rfl, hS⟩ := hrel
      have S2 := Lib.hid hS
      have hlk : ((xs.tail.take k).map lineP).length = k := by have := HN.out; rw [List.length_map, List.length_take, List.length_tail]; omega
      have HLK := Lib.hid hlk
      clear hS hlk
      by_cases hlt : k < m
      · have hlt' : k + 1 < xs.length := by have := HN.out; omega
        have hxk : xs[k + 1]? = some (xs[k + 1]'hlt') := List.getElem?_eq_getElem hlt'
        generalize xs[k + 1]'hlt' = p at hxk
        have HP := Lib.hid (HL.out p (List.mem_of_getElem? hxk))
        obtain ⟨x, y, z, hl⟩ : ∃ x y z, lineP p = (x, y, z) := ⟨_, _, _, rfl⟩
        have HLP := Lib.hid hl
        have HT := Lib.hid (show (xs.tail.take (k + 1)).map lineP = (xs.tail.take k).map lineP ++ [(x, y, z)] by
          rw [List.take_add_one, List.getElem?_tail, hxk, List.map_append, ← hl]; rfl)
        generalize (xs.tail.take k).map lineP = ls at *
        have hlt2 : (k : Int) < (m : Int) := by omega
        have hk0 : (0 : Int) ≤ (k : Int) := by omega
        obtain ⟨b', off', x1, e1, _, hx1, g1⟩ := S2.out.row.at (k := k + 1) (by omega)
        injection e1 with e1; injection e1 with e1 e2
        subst e1 e2
        obtain rfl : x1 = strV p := by rw [List.getElem?_map, hxk] at hx1; simpa using hx1.symm
        have HXK := Lib.hid hxk
        clear hx1 hxk hl hlt'
        unfold strV at g1
        rw [show 0 + (k + 1) = 1 + k by omega] at g1
        obtain ⟨p0', p1, p2, p3⟩ := S2.out.var.two
        have D2 := Lib.hid S2.out.drew
        have E2 := Lib.hid (HE.out.keep D2.out.bel)
        go_upto_region 6 with fail
        go_region_law (first
          | (refine step_append_lies _ rfl (.tmp 23) (.tmp 26) 23 rfl (X + 1) 46 i0 (.agg #[.int .i64 0, .int .i64 0, .int .i64 0]) 3 24 Tryd.underlying23 I0.out hz0 hz1 hz2 rfl (by decide) v ls.length (ls.flatMap fL) rfl (World.ownsRow.alloc S10.out.own _) ⟨w7.heap.size, 0, none⟩ 1 1 (fL (x, y, z)) rfl rfl ?c1 ?c2 (by decide) ?c3 ?c4 ?c5 _ rfl ?_
             case c1 => exact news_new w7 (x, y, z) _
             case c2 => intro u hu; simp [fL] at hu; rcases hu with rfl | rfl | rfl <;> rfl
             case c3 => have := HLK.out; simp only [maxLen]; omega
             case c4 => have := HLK.out; omega
             case c5 => have := S10.out.var.lt; simp; omega
             intro g cap w8 hown8 hgrow8 hat8 hlt8
             have S11 := Lib.hid (S10.out.push _ hown8 hgrow8)
             obtain ⟨t0, t1, t2, t3⟩ := S11.out.2.two)
          | (go_simp; go_at_call 32; refine (lineIn_any HCs.out HA.out p HP.out x y z HLP.out _ E2.out).mono ?_; rintro e w7 ⟨rfl, hb7⟩; have S10 := Lib.hid (D2.out.keep hb7); obtain ⟨q0, q1, q2, q3⟩ := S10.out.var.two; have hX7 := S10.out.var.lt; have hX8 : ¬ w7.heap.size = X := (by omega); have hX9 : ¬ X = w7.heap.size := (by omega)))
        all_goals go_wp2
        all_goals
          go_roundw
          case rel => exact ⟨k + 1, _, by omega, by go_num, by rw [HT.out]; exact S11.out.1⟩
          case measure => simp [intOf]; omega
      · obtain rfl : k = m := by omega
        have HT := Lib.hid (show (xs.tail.take k).map lineP = xs.tail.map lineP by have := HN.out; rw [List.take_of_length_le (by rw [List.length_tail]; omega)])
        have S3 := Lib.hid (show ReadSt w wr X bs v (xs.tail.map lineP) b 0 (k + 1) (xs.map strV) by have := S2.out; rw [HT.out] at this; exact this)
        have hl1 : (xs.tail.map lineP).length ≤ 1048576 := by have := HN.out; rw [List.length_map, List.length_tail]; omega
        clear HT S2 HLK
        generalize xs.tail.map lineP = ls at *
        obtain ⟨A', c', rfl, hrow⟩ := S3.out.own.row
        have R3 := Lib.hid hrow
        clear hrow
        obtain ⟨p0', p1, p2, p3⟩ := S3.out.var.two
        obtain ⟨q0, q1, q2, q3⟩ := S3.out.ret.two
        have hXw : ¬ w.heap.size = X := by have := S3.out.far; omega
        have hXw' : ¬ X = w.heap.size := by have := S3.out.far; omega
        by_cases hv : netOk bs ls = true
        · have HV := Lib.hid hv
          go_wp2_with fail
          refine (netValid_any bs A' ls.length c' ls _ hl1 R3.out).mono ?_
          rintro e w4 ⟨rfl, hb4⟩
          rw [HV.out]
          have S4 := Lib.hid (S3.out.keep hb4)
          have R4 := Lib.hid (R3.out.below hb4)
          clear p0' p1 p2 p3 q0 q1 q2 q3
          obtain ⟨p0', p1, p2, p3⟩ := S4.out.var.two
          clear hv
          go_wp2_with fail
          refine (netText_any HI.out bs A' ls.length c' ls _ hl1 R4.out (HE.out.keep S4.out.bel).pow).mono ?_
          rintro e w5 ⟨rfl, hb5⟩
          have S5 := Lib.hid (S4.out.keep hb5)
          clear p0' p1 p2 p3
          obtain ⟨p0', p1, p2, p3⟩ := S5.out.var.two
          obtain ⟨q0, q1, q2, q3⟩ := S5.out.ret.two
          by_cases ht : textF bs ls = s
          · have HR := Lib.hid (show resF cand s = some (bs, ls) by rw [resF, HC.out, if_pos ⟨HV.out, ht⟩])
            rw [ht]
            clear ht
            go_wp2
            refine bodyPost_ret (v := .tuple #[.agg #[.int .i64 bs, .slice A' ls.length c'], .bool true]) (by simp [results, Tryd.results12, go_sem, q0, q1]) rfl ?_
            rw [HR.out]
            exact ⟨_, rfl, S5.out.done _ _⟩
          · have HR := Lib.hid (show resF cand s = none by rw [resF, HC.out, if_neg (fun h => ht h.2)])
            generalize textF bs ls = t at *
            have h3 := str_ne ht
            clear ht
            go_wp2
            refine bodyPost_ret (v := .tuple #[.agg #[.int .i64 0, .slice none 0 0], .bool false]) (by simp [results, Tryd.results12, go_sem, q0, q1]) rfl ?_
            rw [HR.out]
            exact ⟨rfl, (S5.out.done _ _).2⟩
        · have HR := Lib.hid (show resF cand s = none by rw [resF, HC.out, if_neg (fun h => hv h.1)])
          rw [Bool.not_eq_true] at hv
          have HV := Lib.hid hv
          clear hv
          go_wp2_with fail
          refine (netValid_any bs A' ls.length c' ls _ hl1 R3.out).mono ?_
          rintro e w4 ⟨rfl, hb4⟩
          rw [HV.out]
          have S4 := Lib.hid (S3.out.keep hb4)
          clear p0' p1 p2 p3 q0 q1 q2 q3
          obtain ⟨q0, q1, q2, q3⟩ := S4.out.ret.two
          go_wp2
          refine bodyPost_ret (v := .tuple #[.agg #[.int .i64 0, .slice none 0 0], .bool false]) (by simp [results, Tryd.results12, go_sem, q0, q1]) rfl ?_
          rw [HR.out]
          exact ⟨rfl, (S4.out.done _ _).2⟩
end Go.Proofs.YtciciidndjkdiaaDoor
