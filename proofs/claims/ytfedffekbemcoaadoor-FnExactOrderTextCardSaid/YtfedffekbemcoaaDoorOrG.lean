/- Switching orders: ReadOrder, of the program. -/
import Derived.Test.YtfedffekbemcoaaDoorOrF
import Derived.Test.YtfedffekbemcoaaDoorOr3
namespace Go.Proofs.YtfedffekbemcoaaDoor
open Go.ChangeShapes Go.WideShapes Go.ChangeAt Go.RowKit

theorem splitO_le (sep : Bs) : ∀ (k : Nat) (s : Bs), ∀ p ∈ Lib.splitK sep 0 k s, p.length ≤ s.length
  | 0, s, p, h => by simp [Lib.splitK] at h; subst h; exact Nat.le_refl _
  | k + 1, s, p, h => by
    rw [Lib.splitK] at h
    split at h
    · simp at h; subst h; exact Nat.le_refl _
    · rcases List.mem_cons.1 h with h | h
      · subst h; rw [List.length_take]; omega
      · have := splitO_le sep k _ p h; rw [List.length_drop] at this; omega
/-- What ReadOrder gives: the steps of a text that is an order's. -/
def ReadEndO (r : Option (List TP)) (w : World) (e : Ending) (w' : World) : Prop :=
  match r with
  | some c => ∃ v, e = .returned (.tuple #[v, .bool true]) ∧ OwnP w' w.heap.size v c ∧ Below w.heap.size w w'
  | none => (∃ v, e = .returned (.tuple #[v, .bool false]) ∧ OwnP w' w.heap.size v []) ∧ Below w.heap.size w w'
theorem str_neO {t s : ByteArray} (h : ¬ t = s) : (t.toList == s.toList) = false := by
  rw [beq_eq_false_iff_ne]; intro e
  rw [Lib.toList_data, Lib.toList_data] at e
  exact h (by rw [← Lib.mk_data t, ← Lib.mk_data s, e])

set_option maxRecDepth 100000 in
set_option maxHeartbeats 4000000 in
theorem readOrder_any (hC : CutSays) (hA : AtoiSays) (hSp : SplitSaysO) (hI : ItoaSays) (hJ : JoinSays) (s : ByteArray) (w : World) (hs : s.size ≤ 1100000) (hl : LibEnv w) :
    Calls Tryd.prog 18 #[.string s] w (ReadEndO (readO s) w) := by
  have HA := Lib.hid hA
  have HCs := Lib.hid hC
  have HI := Lib.hid hI
  have HJ := Lib.hid hJ
  have HE := Lib.hid hl
  by_cases hn : s.data.toList = nothingB
  · have HF := Lib.hid (show readO s = some [] by rw [readO, if_pos hn])
    have h1 : (s.toList == [110, 111, 116, 104, 105, 110, 103]) = true := by rw [Lib.toList_data, hn]; rfl
    rw [HF.out]
    go_enter Tryd.func18, Tryd.ntmps18
    go_wp2
    go_ret2
    exact ⟨_, rfl, OwnP.nil, Below.refl _ _⟩
  have h1 : (s.toList == [110, 111, 116, 104, 105, 110, 103]) = false := by
    rw [beq_eq_false_iff_ne, Lib.toList_data]; exact hn
  have HR := Lib.hid (show readO s = if ordOk (candOP s.data.toList) = true ∧ textO (candOP s.data.toList) = s then some (candOP s.data.toList) else none by rw [readO, if_neg hn])
  have e0 : candOP s.data.toList = (Lib.splitK [59] 0 (min 13 (s.size + 1) - 1) s.data.toList).map stepP := by rw [candOP, sized]
  have HL := Lib.hid (show ∀ p ∈ Lib.splitK [59] 0 (min 13 (s.size + 1) - 1) s.data.toList, p.length ≤ 2000000 from fun p hp => by have := splitO_le [59] (min 13 (s.size + 1) - 1) s.data.toList p hp; rw [sized] at this; omega)
  have HSp := Lib.hid (hSp s w (by omega) hl)
  rw [e0] at HR
  clear hA hC hI hJ hl hSp e0 hn
  generalize readO s = res at *
  generalize Lib.splitK [59] 0 (min 13 (s.size + 1) - 1) s.data.toList = xs at *
  go_enter Tryd.func18, Tryd.ntmps18
  go_wp2_with fail
  refine HSp.out.mono ?_
  rintro e w1 ⟨b, c1, rfl, hnc, hc13, hr1, hb1⟩
  clear HSp h1
  have R1 := Lib.hid hr1
  have B1 := Lib.hid hb1
  have hbl : 0 < xs.length → b < w1.heap.size := fun hp => by obtain ⟨b', off', e, hlt, _⟩ := hr1.2 hp; injection e with e; injection e with e _; subst e; exact hlt
  clear hr1 hb1
  go_wp2
  go_loopw [4, 12] (fun v i wr => ∃ k : Nat, k ≤ xs.length ∧ i = .int .i64 (k : Int) ∧ OwnP wr w1.heap.size v ((xs.take k).map stepP) ∧ Below w1.heap.size w1 wr) (fun _ i _ => xs.length - (intOf i).toNat)
  case atStart => exact ⟨0, by omega, rfl, OwnP.nil, Below.refl _ _⟩
  case round =>
    obtain ⟨k, hk, rfl, hown, hbel⟩ := hrel
    have O := Lib.hid hown
    have BL := Lib.hid hbel
    clear hown hbel
    by_cases hlt : k < xs.length
    · obtain ⟨b', off', x1, e1, hb', hx1, g1⟩ := R1.out.at hlt
      injection e1 with e1; injection e1 with e1 e2
      subst e1 e2
      rw [← BL.out.cell (p := ⟨b, 0 + k, none⟩) hb'] at g1
      have hxk : xs[k]? = some (xs[k]'hlt) := List.getElem?_eq_getElem hlt
      generalize xs[k]'hlt = p at hxk
      obtain rfl : x1 = strV p := by rw [List.getElem?_map, hxk] at hx1; simpa using hx1.symm
      have HP := Lib.hid (HL.out p (List.mem_of_getElem? hxk))
      obtain ⟨x, t, hst⟩ : ∃ x t, stepP p = (x, t) := ⟨_, _, rfl⟩
      have HST := Lib.hid hst
      have HT := Lib.hid (show (xs.take (k + 1)).map stepP = (xs.take k).map stepP ++ [(x, t)] by rw [List.take_add_one, hxk, List.map_append, ← hst]; rfl)
      have hlk : ((xs.take k).map stepP).length ≤ 13 := by rw [List.length_map, List.length_take]; omega
      have LK := Lib.hid hlk
      rw [Nat.zero_add] at g1
      unfold strV at g1
      clear hx1 hxk hst hlk
      generalize (xs.take k).map stepP = us at *
      go_wp2_with fail
      refine (stepIn_any HCs.out HA.out p HP.out x t HST.out _ (HE.out.keep (B1.out.trans (BL.out.mono B1.out.size)))).mono ?_
      rintro e w2 ⟨rfl, hb2⟩
      have B2 := Lib.hid (BL.out.trans (hb2.mono BL.out.size))
      have O2 := Lib.hid (O.out.keep hb2)
      clear hb2 g1
      go_wp2_with (
        at_builtin
        refine wpList_append_step rfl (.tmp 16) (.tmp 19) rfl w1.heap.size w2.heap.size _ us (x, t) rfl rfl (O2.out.alloc _) (newP w2 (x, t) _) (by have := LK.out; omega) (by have := B2.out.size; simp; omega) ?_
        intro v' w8 hown hgrow hat
        have O8 := Lib.hid hown
        have B8 := Lib.hid ((B2.out.alloc B2.out.size _).grown hgrow (by have := B2.out.size; simp; omega) (fun q hq => (OwnP.lt O2.out q hq).1)))
      go_roundw
      case rel => exact ⟨k + 1, by omega, by go_num, by rw [HT.out]; exact O8.out, B8.out⟩
      case measure => simp [intOf]; omega
    · obtain rfl : k = xs.length := by omega
      rw [List.take_length] at O
      have hul : (xs.map stepP).length ≤ 13 := by rw [List.length_map]; omega
      generalize xs.map stepP = us at *
      obtain ⟨A', c', rfl, hrow⟩ := O.out.row
      have RU := Lib.hid hrow
      have BW := Lib.hid (B1.out.trans (BL.out.mono B1.out.size))
      clear hrow
      cases hv : ordOk us
      · have HX := Lib.hid (show res = none by rw [HR.out, hv]; simp)
        go_wp2_with fail
        refine (orderValid_any A' us.length c' us _ (by omega) RU.out).mono ?_
        rintro e w4 ⟨rfl, hb4⟩
        rw [hv]
        go_wp2
        go_ret2
        rw [HX.out]
        exact ⟨⟨_, rfl, OwnP.nil⟩, BW.out.trans (hb4.mono BW.out.size)⟩
      · have HV := Lib.hid hv
        clear hv
        go_wp2_with fail
        refine (orderValid_any A' us.length c' us _ (by omega) RU.out).mono ?_
        rintro e w4 ⟨rfl, hb4⟩
        rw [HV.out]
        have B4 := Lib.hid (BW.out.trans (hb4.mono BW.out.size))
        have R4 := Lib.hid (RU.out.below hb4)
        have O4 := Lib.hid (O.out.keep hb4)
        clear hb4
        go_wp2_with fail
        refine (orderText_any HI.out HJ.out A' us.length c' us _ (by omega) R4.out (HE.out.keep B4.out).pow).mono ?_
        rintro e w5 ⟨rfl, hb5⟩
        have B5 := Lib.hid (B4.out.trans (hb5.mono B4.out.size))
        have O5 := Lib.hid (O4.out.keep hb5)
        by_cases ht : textO us = s
        · have HX := Lib.hid (show res = some us by rw [HR.out, if_pos ⟨HV.out, ht⟩])
          rw [ht]
          clear ht
          go_wp2
          go_ret2
          rw [HX.out]
          exact ⟨_, rfl, O5.out.more B1.out.size, B5.out⟩
        · have HX := Lib.hid (show res = none by rw [HR.out, if_neg (fun h => ht h.2)])
          generalize textO us = t at *
          have h3 := str_neO ht
          clear ht
          go_wp2
          go_ret2
          rw [HX.out]
          exact ⟨⟨_, rfl, OwnP.nil⟩, B5.out⟩
end Go.Proofs.YtfedffekbemcoaaDoor
