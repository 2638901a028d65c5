/- Permits: how all work ends, of the model. -/
import Derived.Test.YtafgfhjlkdjngaaWk8
import Derived.RegionTactic
import Derived.Deep.AppendLies
import Derived.Deep.RegionWith
import Derived.Deep.RegionLaw
import Derived.Deep.CutBlock
namespace Go.Proofs.Ytafgfhjlkdjngaa
open Go.ChangeShapes Go.WideShapes Go.ChangeAt Go.RowKit

set_option maxRecDepth 100000 in
set_option maxHeartbeats 4000000 in
theorem specWorkClose_any (A : Option Addr) (n c : Nat) (B : Option Addr) (m d : Nat) (C : Option Addr) (q r : Nat) (a e : List Bool) (ps : List TJ) (w : World) (hn : n ≤ 1048576) (hm : m ≤ 1048576) (hq : q ≤ 1048576) (hqr : q ≤ r) (hr : RowW w A n B m C q a e ps) :
    Calls Try.prog 26 #[.agg #[.slice A n c, .slice B m d, .slice C q r]] w fun e' w' => ∃ v, e' = .returned v ∧ OwnH w' w.heap.size v (closeF (a, e, ps)) ∧ Below w.heap.size w w' := by
  obtain ⟨i0, hi, hz0, hz1, hz2⟩ := info_parts workDeedInfo3
  have I0 := Lib.hid hi
  have HR := Lib.hid hr
  have HP := Lib.hid hr.pe.len
  have HA := Lib.hid hr.on.len
  have HE := Lib.hid hr.ea.len
  clear hr hi
  have S0 := Lib.hid (show ClsSt w ((w.alloc (.cells #[.slice A n c, .slice B m d, .slice C q r] 44)).alloc (.cells #[] 75)) #[.slice A n c, .slice B m d, .slice C q r] 44 (.slice (some ⟨w.heap.size + 1, 0, none⟩) 0 0) [] from
    ⟨by have := World.ownsRow_lit (base := w.heap.size + 1) (size := 3) (e := 75) (w.alloc (.cells #[.slice A n c, .slice B m d, .slice C q r] 44)) #[] 0 (by simp) (by decide) rfl; simpa [OwnH] using this, (below_bx w _).alloc (by simp) _, (IsBlk.new w _ _).alloc _⟩)
  obtain ⟨p0, p1, p2, -⟩ := S0.out.box.three
  cases hok : wkOk (a, e, ps)
  · have HF := Lib.hid (show closeF (a, e, ps) = [] by rw [closeF, if_neg (by rw [hok]; simp)])
    go_enter Try.func26, Try.ntmps26
    go_wp2_with fail
    refine (specWorkValid_any A n c B m d C q r a e ps _ hn hm hq hqr (HR.out.below S0.out.bel)).mono ?_
    rintro e1 w1 ⟨rfl, hb1⟩
    rw [hok]
    have S1 := Lib.hid (S0.out.next hb1)
    go_wp2
    go_ret
    exact ⟨_, rfl, by rw [HF.out]; exact S1.out.own.more (by omega), S1.out.bel⟩
  have hsz := wk_sizes hok
  rw [HP.out, HA.out, HE.out] at hsz
  obtain ⟨hn1, hn10, hnm, h6⟩ := hsz
  have HF := Lib.hid (show closeF (a, e, ps) = backTo ps q ++ whereTo e true 3 n ++ whereTo a false 0 n by rw [closeF, if_pos hok, closeL_eq HA.out (HE.out.trans hnm.symm) HP.out])
  subst hnm
  go_enter Try.func26, Try.ntmps26
  go_wp2_with fail
  refine (specWorkValid_any A n c B n d C q r a e ps _ hn hm hq hqr (HR.out.below S0.out.bel)).mono ?_
  rintro e1 w1 ⟨rfl, hb1⟩
  rw [hok]
  have S1 := Lib.hid (show ClsSt w w1 _ _ _ (backTo ps 0) from S0.out.next hb1)
  clear hok hb1 p0 p1 p2 S0
  go_wp2
  go_loopw [3, 4] (fun v i wr => ∃ k : Nat, k ≤ q ∧ i = .int .i64 k ∧ ClsSt w wr #[.slice A n c, .slice B n d, .slice C q r] 44 v (backTo ps k)) (fun _ i _ => q - (intOf i).toNat)
  case atStart => exact ⟨0, by omega, rfl, S1.out⟩
  case round =>
    obtain ⟨k, hk, rfl, hst⟩ := hrel
    have S := Lib.hid hst
    have HLN := Lib.hid (backTo_len ps k)
    have hbz := hst.box.lt
    clear hst
    obtain ⟨p0, p1, p2, -⟩ := S.out.box.three
    by_cases hlt : k < q
    · obtain ⟨b, off, p, rfl, hb, hkp, g0, g1⟩ := HR.out.pe.at_ hlt
      rw [← S.out.bel.cell (p := ⟨b, off + k * 2, none⟩) hb] at g0
      rw [← S.out.bel.cell (p := ⟨b, off + k * 2 + 1, none⟩) hb] at g1
      obtain ⟨x, y⟩ := p
      have HT := Lib.hid (backTo_succ hkp)
      clear hkp
      simp only at g0 g1
      have q0 : (0 : Int) ≤ (k : Int) := by omega
      have q1 : (k : Int) < (q : Int) := by omega
      generalize backTo ps k = us at *
      have D2 := Lib.hid (show OwnH wr.drew (w.heap.size + 1) _ us from S.out.own)
      have S2 := Lib.hid (S.out.next (Below.refl wr.heap.size wr).drew)
      go_upto_region 7 with fail
      go_region_law (
        refine step_append_lies _ rfl (.tmp 19) (.tmp 33) 51 rfl (w.heap.size + 1) 75 i0 (.agg #[.int .i64 0, .int .i64 0, .int .i64 0]) 3 24 Try.underlying51 I0.out hz0 hz1 hz2 rfl (by decide) _ us.length (us.flatMap fH) rfl (World.ownsRow.alloc D2.out _) ⟨wr.heap.size, 0, none⟩ 1 1 (fH (5, y, x)) rfl rfl ?c1 ?c2 (by decide) ?c3 ?c4 ?c5 _ rfl ?_
        case c1 => exact newH wr.drew (5, y, x) _
        case c2 => intro u hu; simp [fH] at hu; rcases hu with rfl | rfl | rfl <;> rfl
        case c3 => have := HLN.out; simp only [maxLen]; omega
        case c4 => have := HLN.out; omega
        case c5 => simp; omega
        intro g cap w8 hown8 hgrow8 hat8 hlt8
        have S8 := Lib.hid ((S2.out.alloc _).push (OwnH.snoc hown8) hgrow8))
      all_goals go_wp2
      all_goals
        go_roundw
        case rel => exact ⟨k + 1, by omega, by go_num, by rw [HT.out]; exact S8.out⟩
        case measure => simp [intOf]; omega
    · obtain rfl : k = q := by omega
      have Sa := Lib.hid (show ClsSt w wr _ _ _ (backTo ps k ++ whereTo e true 3 0) from by simpa [whereTo] using S.out)
      go_wp2
      clear S p0 p1 p2
      go_loopw [3, 5] (fun v i wr => ∃ l : Nat, l ≤ n ∧ i = .int .i64 l ∧ ClsSt w wr #[.slice A n c, .slice B n d, .slice C k r] 44 v (backTo ps k ++ whereTo e true 3 l)) (fun _ i _ => n - (intOf i).toNat)
      case atStart => exact ⟨0, by omega, rfl, Sa.out⟩
      case round =>
        obtain ⟨l, hl, rfl, hst⟩ := hrel
        have S := Lib.hid hst
        have HL2 := Lib.hid (whereTo_len e true 3 l)
        have hbz2 := hst.box.lt
        clear hst
        obtain ⟨p0, p1, p2, -⟩ := S.out.box.three
        by_cases hlt2 : l < n
        · obtain ⟨b, off, t, rfl, hb, hkt, g0⟩ := HR.out.ea.at_ hlt2
          rw [← S.out.bel.cell (p := ⟨b, off + l, none⟩) hb] at g0
          have HT := Lib.hid (whereTo_succ (is := true) (kind := 3) hkt)
          clear hkt
          have q0 : (0 : Int) ≤ (l : Int) := by omega
          have q1 : (l : Int) < (n : Int) := by omega
          cases t
          · have HT2 := Lib.hid (show backTo ps k ++ whereTo e true 3 (l + 1) = backTo ps k ++ whereTo e true 3 l by rw [HT.out, if_neg (by simp)])
            go_wp2
            go_roundw
            case rel => exact ⟨l + 1, by omega, by go_num, by rw [HT2.out]; exact S.out⟩
            case measure => simp [intOf]; omega
          · have HT2 := Lib.hid (show backTo ps k ++ whereTo e true 3 (l + 1) = backTo ps k ++ whereTo e true 3 l ++ [(3, (l : Int), 0)] by rw [HT.out, if_pos rfl, List.append_assoc])
            go_wp2_with (
              at_builtin
              refine wpList_append_deed rfl (.tmp 47) (.tmp 50) rfl (w.heap.size + 1) wr.heap.size _ _ (3, (l : Int), 0) rfl rfl (S.out.own.alloc _) (newH wr (3, (l : Int), 0) _) (by rw [List.length_append]; have := HLN.out; have := HL2.out; omega) (by simp; omega) ?_
              intro v' w8 hown hgrow hat
              have S8 := Lib.hid ((S.out.alloc _).push hown hgrow))
            go_roundw
            case rel => exact ⟨l + 1, by omega, by go_num, by rw [HT2.out]; exact S8.out⟩
            case measure => simp [intOf]; omega
        · obtain rfl : l = n := by omega
          have Sb := Lib.hid (show ClsSt w wr _ _ _ (backTo ps k ++ whereTo e true 3 l ++ whereTo a false 0 0) from by simpa [whereTo] using S.out)
          go_wp2
          clear S p0 p1 p2
          go_loopw [3, 6] (fun v i wr => ∃ j : Nat, j ≤ l ∧ i = .int .i64 j ∧ ClsSt w wr #[.slice A l c, .slice B l d, .slice C k r] 44 v (backTo ps k ++ whereTo e true 3 l ++ whereTo a false 0 j)) (fun _ i _ => l - (intOf i).toNat)
          case atStart => exact ⟨0, by omega, rfl, Sb.out⟩
          case round =>
            obtain ⟨j, hj, rfl, hst⟩ := hrel
            have S := Lib.hid hst
            have HL3 := Lib.hid (whereTo_len a false 0 j)
            have hbz3 := hst.box.lt
            clear hst
            obtain ⟨p0, p1, p2, -⟩ := S.out.box.three
            by_cases hlt3 : j < l
            · obtain ⟨b, off, t, rfl, hb, hkt, g0⟩ := HR.out.on.at_ hlt3
              rw [← S.out.bel.cell (p := ⟨b, off + j, none⟩) hb] at g0
              have HT := Lib.hid (whereTo_succ (is := false) (kind := 0) hkt)
              clear hkt
              have q0 : (0 : Int) ≤ (j : Int) := by omega
              have q1 : (j : Int) < (l : Int) := by omega
              cases t
              · have HT2 := Lib.hid (show backTo ps k ++ whereTo e true 3 l ++ whereTo a false 0 (j + 1) = backTo ps k ++ whereTo e true 3 l ++ whereTo a false 0 j ++ [(0, (j : Int), 0)] by rw [HT.out, if_pos rfl, ← List.append_assoc])
                go_wp2_with (
                  at_builtin
                  refine wpList_append_deed rfl (.tmp 65) (.tmp 68) rfl (w.heap.size + 1) wr.heap.size _ _ (0, (j : Int), 0) rfl rfl (S.out.own.alloc _) (newH wr (0, (j : Int), 0) _) (by rw [List.length_append, List.length_append]; have := HLN.out; have := HL2.out; have := HL3.out; omega) (by simp; omega) ?_
                  intro v' w8 hown hgrow hat
                  have S8 := Lib.hid ((S.out.alloc _).push hown hgrow))
                go_roundw
                case rel => exact ⟨j + 1, by omega, by go_num, by rw [HT2.out]; exact S8.out⟩
                case measure => simp [intOf]; omega
              · have HT2 := Lib.hid (show backTo ps k ++ whereTo e true 3 l ++ whereTo a false 0 (j + 1) = backTo ps k ++ whereTo e true 3 l ++ whereTo a false 0 j by rw [HT.out, if_neg (by simp)])
                go_wp2
                go_roundw
                case rel => exact ⟨j + 1, by omega, by go_num, by rw [HT2.out]; exact S.out⟩
                case measure => simp [intOf]; omega
            · obtain rfl : j = l := by omega
              go_wp2
              go_ret
              exact ⟨_, rfl, by rw [HF.out]; exact S.out.own.more (by omega), S.out.bel⟩
end Go.Proofs.Ytafgfhjlkdjngaa
