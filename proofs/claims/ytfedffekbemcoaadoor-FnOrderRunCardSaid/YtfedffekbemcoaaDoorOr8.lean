/- Switching orders: OrderBack, of the model. -/
import Derived.Test.YtfedffekbemcoaaDoorOr2
import Derived.Test.YtfedffekbemcoaaDoorOr3
import Derived.RegionTactic
import Derived.Deep.AppendLies
import Derived.Deep.RegionWith
import Derived.Deep.RegionLaw
import Derived.Deep.CutBlock
namespace Go.Proofs.YtfedffekbemcoaaDoor
open Go.ChangeShapes Go.WideShapes Go.ChangeAt Go.RowKit

/-- The steps from k on, undone: the last one first. -/
theorem back_drop {ss : List TP} {k : Nat} {p : TP} (h : ss[k]? = some p) : backO (ss.drop k) = backO (ss.drop (k + 1)) ++ [flipO p] := by
  obtain ⟨hlt, he⟩ := List.getElem?_eq_some_iff.1 h
  have e : ss.drop k = p :: ss.drop (k + 1) := by rw [← he, List.getElem_cons_drop]
  rw [e, backO, List.map_cons, List.reverse_cons]; rfl
set_option maxRecDepth 100000 in
set_option maxHeartbeats 4000000 in
theorem specOrderBack_any (C : Option Addr) (q r : Nat) (ss : List TP) (w : World) (hq : q ≤ 1048576) (hrs : RowP w C q ss) :
    Calls Tryd.prog 33 #[.slice C q r] w fun e w' => ∃ v, e = .returned v ∧ OwnP w' w.heap.size v (backF ss) ∧ Below w.heap.size w w' := by
  obtain ⟨i0, hi, hz0, hz1, hz2⟩ := info_parts stepInfo3
  have I0 := Lib.hid hi
  clear hi
  have HP := Lib.hid hrs
  have HLP := Lib.hid hrs.len
  have O0 := Lib.hid (ownP_lit w)
  have b0 := below_bx w (.cells #[] 27)
  have HP0 := Lib.hid (hrs.below b0)
  clear hrs
  have wq : IntKind.i64.wrap ((q : Int) - 1) = (q : Int) - 1 := IntWalk.i64_in _ (by omega)
  cases ho : ordOk ss
  · have HF := Lib.hid (show backF ss = [] by rw [backF, ho]; rfl)
    rcases Nat.eq_zero_or_pos q with rfl | hpos
    · exfalso
      have : ss = [] := List.eq_nil_of_length_eq_zero HLP.out
      subst this; cases ho
    · have hge : (0 : Int) ≤ (q : Int) - 1 := by omega
      go_enter Tryd.func33, Tryd.ntmps33
      go_wp2
      go_loopw [3, 4] (fun v i wr => v = .slice (some ⟨w.heap.size, 0, none⟩) 0 0 ∧ i = .int .i64 ((q : Int) - 1) ∧ wr = w.alloc (.cells #[] 27)) (fun _ _ _ => 0)
      case atStart => exact ⟨rfl, rfl, rfl⟩
      case round =>
        obtain ⟨rfl, rfl, rfl⟩ := hrel
        go_wp2_with fail
        refine (specOrderValid_any C q r ss _ (by omega) HP0.out).mono ?_
        rintro e w2 ⟨rfl, rfl⟩
        rw [ho]
        go_wp2
        go_ret
        exact ⟨_, rfl, by rw [HF.out]; exact O0.out, b0⟩
  · have HOk := Lib.hid ho
    have HF := Lib.hid (show backF ss = backO ss by rw [backF, ho]; rfl)
    have hq12 : q ≤ 12 := by have := ordOk_len HOk.out; have := HLP.out; omega
    clear ho
    go_enter Tryd.func33, Tryd.ntmps33
    go_wp2
    go_loopw [3, 4] (fun v i wr => ∃ k : Nat, k ≤ q ∧ i = .int .i64 ((k : Int) - 1) ∧ OwnP wr w.heap.size v (backO (ss.drop k)) ∧ Below w.heap.size w wr) (fun _ i _ => (intOf i + 1).toNat)
    case atStart => exact ⟨q, by omega, rfl, by rw [List.drop_of_length_le (by have := HLP.out; omega)]; exact O0.out, b0⟩
    case round =>
      obtain ⟨k, hk, rfl, hown, hbel⟩ := hrel
      have O := Lib.hid hown
      have BL := Lib.hid hbel
      clear hown hbel
      rcases k with _ | k
      · have hneg : ¬ (0 : Int) ≤ ((0 : Nat) : Int) - 1 := by omega
        go_wp2
        go_ret
        exact ⟨_, rfl, by rw [HF.out]; exact O.out, BL.out⟩
      · obtain ⟨b, off, p, rfl, hb, hkp, g0, g1⟩ := HP.out.at_ (k := k) (by omega)
        rw [← BL.out.cell (p := ⟨b, off + k * 2, none⟩) hb] at g0
        rw [← BL.out.cell (p := ⟨b, off + k * 2 + 1, none⟩) hb] at g1
        have HB := Lib.hid (back_drop hkp)
        obtain ⟨x, t⟩ := p
        simp only at g0 g1
        have hkl : (backO (ss.drop (k + 1))).length ≤ 12 := by rw [backO_len, List.length_drop]; have := HLP.out; omega
        have KL := Lib.hid hkl
        clear hkp hkl
        rw [show (((k + 1 : Nat) : Int) - 1) = (k : Int) by omega]
        have hk0 : (0 : Int) ≤ (k : Int) := by omega
        have hkq : (k : Int) < (q : Int) := by omega
        have wk : IntKind.i64.wrap ((k : Int) - 1) = (k : Int) - 1 := IntWalk.i64_in _ (by omega)
        go_wp2_with fail
        refine (specOrderValid_any _ q r ss _ (by omega) (HP.out.below BL.out)).mono ?_
        rintro e w2 ⟨rfl, rfl⟩
        rw [HOk.out]
        generalize backO (ss.drop (k + 1)) = us at *
        have D2 := Lib.hid (show OwnP wr.drew w.heap.size _ us from O.out)
        go_upto_region 5 with fail
        go_region_law (
          refine step_append_lies _ rfl (.tmp 17) (.tmp 30) 23 rfl w.heap.size 27 i0 (.agg #[.int .i64 0, .bool false]) 2 16 Tryd.underlying23 I0.out hz0 hz1 hz2 rfl (by decide) _ us.length (us.flatMap fP) rfl (World.ownsRow.alloc D2.out _) ⟨wr.heap.size, 0, none⟩ 1 1 (fP (x, !t)) rfl rfl ?c1 ?c2 (by decide) ?c3 ?c4 ?c5 _ rfl ?_
          case c1 => exact newP wr.drew (x, !t) _
          case c2 => intro u hu; simp [fP] at hu; rcases hu with rfl | rfl <;> rfl
          case c3 => have := KL.out; simp only [maxLen]; omega
          case c4 => have := KL.out; omega
          case c5 => have := BL.out.size; simp; omega
          intro g cap w8 hown8 hgrow8 hat8 hlt8
          have S8 := Lib.hid (OwnP.snoc hown8)
          have B8 := Lib.hid ((BL.out.drew.alloc BL.out.drew.size _).grown hgrow8 (by have := BL.out.size; simp; omega) (fun q hq => (OwnP.lt O.out q hq).1)))
        all_goals go_wp2
        all_goals
          go_roundw
          case rel => exact ⟨k, by omega, by go_num, by rw [HB.out]; exact S8.out, B8.out⟩
          case measure => simp [intOf]
end Go.Proofs.YtfedffekbemcoaaDoor
