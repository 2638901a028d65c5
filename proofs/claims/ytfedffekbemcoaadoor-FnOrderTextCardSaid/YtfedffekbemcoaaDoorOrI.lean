/- Switching orders: what Join and SplitN say, off the shelf; the exact laws of OrderText and ReadOrder: the walks. -/
import Derived.Test.YtfedffekbemcoaaDoorShelf
import Derived.Test.YtfedffekbemcoaaDoorOrH
import Derived.Test.YtfedffekbemcoaaDoorSP4
namespace Go.Proofs.YtfedffekbemcoaaDoor
open Go.ChangeShapes Go.WideShapes Go.ChangeAt Go.RowKit

theorem joinSays : JoinSays := fun b off c xs w h0 hn hc hlen hr => by
  obtain ⟨b', off', e, hlt, hcl⟩ := hr.2 h0
  injection e with e; injection e with e1 e2
  subst e1 e2
  have e1 : (xs.map fun p : Bs => (⟨p.toArray⟩ : ByteArray)).map (·.data.toList) = xs := by
    rw [List.map_map]
    conv => rhs; rw [← List.map_id xs]
    exact List.map_congr_left fun p _ => rfl
  have h := Tryd.strings_Join b off c (xs.map fun p : Bs => (⟨p.toArray⟩ : ByteArray)) ⟨#[59]⟩ w (fun j x hj => by
    rw [List.getElem?_map] at hj
    rcases hx : xs[j]? with _ | p
    · rw [hx] at hj; cases hj
    · rw [hx] at hj
      have hj2 : (⟨p.toArray⟩ : ByteArray) = x := by simpa using hj
      subst hj2
      exact hcl j (strV p) (by rw [List.getElem?_map, hx]; rfl)) hlt (by rw [List.length_map]; omega) (by rw [List.length_map]; exact hc) (by rw [e1]; show (Lib.join xs [59]).length ≤ _; omega)
  rw [e1, List.length_map] at h
  exact h
theorem splitSaysO : SplitSaysO := fun s w hs hl => by
  obtain ⟨m, hm⟩ := hl.maxl
  refine (Tryd.strings_SplitN s ⟨#[59]⟩ 13 m w (by omega) hm (by decide) (by omega) (by omega)).mono ?_
  rintro e w' ⟨rfl, rfl⟩
  have hd := Lib.splitB_data ⟨#[59]⟩ 0 (min 13 (s.size + 1) - 1) s
  have hle := Lib.splitB_length_le ⟨#[59]⟩ 0 (min 13 (s.size + 1) - 1) s
  generalize Lib.splitB ⟨#[59]⟩ 0 (min 13 (s.size + 1) - 1) s = xs at *
  have e1 : Lib.splitK [59] 0 (min 13 (s.size + 1) - 1) s.data.toList = xs.map (·.data.toList) := hd.symm
  rw [e1, List.length_map]
  refine ⟨_, _, rfl, by omega, by omega, ⟨by simp, fun hp => ⟨w.heap.size, 0, rfl, by simp, fun k x hk => ?_⟩⟩, below_bx _ _⟩
  have hb := IsBlk.new w 9 (Lib.cellsOf xs (min 13 (s.size + 1)))
  rw [Nat.zero_add]
  refine (hb.cell k).trans ?_
  rw [List.map_map, List.getElem?_map] at hk
  have hkl : k < xs.length := by
    rcases Nat.lt_or_ge k xs.length with h | h
    · exact h
    · rw [List.getElem?_eq_none h] at hk; cases hk
  rw [List.getElem?_eq_getElem hkl] at hk
  simp only [Lib.cellsOf, List.getElem?_toArray]
  rw [List.getElem?_append_left (by simpa using hkl), List.getElem?_map, List.getElem?_eq_getElem hkl, ← hk]
  simp [strV]

def outO (r : Option (List TP)) : List TP × Bool := match r with | some c => (c, true) | none => ([], false)
theorem ReadEndO.gen {r : Option (List TP)} {w w' : World} {e : Ending} (h : ReadEndO r w e w') :
    ∃ v, e = .returned (.tuple #[v, .bool (outO r).2]) ∧ OwnP w' w.heap.size v (outO r).1 ∧ Below w.heap.size w w' := by
  cases r with
  | none => obtain ⟨⟨v, rfl, ho⟩, hb⟩ := h; exact ⟨v, rfl, ho, hb⟩
  | some c => obtain ⟨v, rfl, ho, hb⟩ := h; exact ⟨v, rfl, ho, hb⟩
theorem outO_len (s : ByteArray) : (outO (readO s)).1.length ≤ 12 := by
  rcases h : readO s with _ | c
  · simp [outO]
  · have := ordOk_len (readO_some h).1
    simpa [outO] using this

set_option maxRecDepth 100000 in
set_option maxHeartbeats 4000000 in
theorem exactReadOrder_walk (hC : CutSays) (hA : AtoiSays) (hSp : SplitSaysO) (hI : ItoaSays) (hJ : JoinSays) (s : ByteArray) (w : World) (hl : LibEnv w) :
    Calls Tryd.prog 10 #[.string s] w fun e w' => e = .returned (.bool true) ∧ Below w.heap.size w w' := by
  by_cases hs : s.size ≤ 1048576
  · have HE := Lib.hid hl
    have HP := Lib.hid (fun (w : World) (h : LibEnv w) => (readOrder_any hC hA hSp hI hJ s w (by omega) h).mono fun e w' he => ReadEndO.gen he)
    have HS := Lib.hid (fun (w : World) => (specReadOrder_any s w hs).mono fun e w' he => ReadEndO.gen he)
    have hn := outO_len s
    clear hC hA hSp hI hJ hl
    generalize outO (readO s) = o at *
    obtain ⟨ss, ok⟩ := o
    simp only at hn HP HS
    have hls : ss.length ≤ 1048576 := by omega
    have hok : (ok != ok) = false := by simp
    have hm2 : ¬ ((1 : Int) + 2 * (ss.length : Int) < 0) := by omega
    go_enter Tryd.func10, Tryd.ntmps10
    go_wp2_with fail
    refine (HS.out _).mono ?_
    rintro e w1 ⟨v0, rfl, hO0, hb1⟩
    have b1 := hb1
    have hz1 := hb1.size
    have O0_0 := Lib.hid hO0
    have B0 := Lib.hid hO0.lt
    clear hO0 hb1
    go_wp2_with fail
    refine (HP.out _ (HE.out.keep b1)).mono ?_
    rintro e w2 ⟨v1, rfl, hO1, hb2⟩
    have b2 := b1.trans (hb2.mono b1.size)
    have O0_1 := Lib.hid (O0_0.out.keep hb2)
    have O1_0 := Lib.hid hO1
    have B1 := Lib.hid hO1.lt
    clear hO1 hb2 b1 O0_0
    go_wp2_with fail
    refine (eqStepS_own hls O1_0.out O0_1.out).mono ?_
    rintro e w3 ⟨rfl, hb3⟩
    have b3 := b2.trans (hb3.mono b2.size)
    have O0_2 := Lib.hid (O0_1.out.keep hb3)
    have O1_1 := Lib.hid (O1_0.out.keep hb3)
    clear hb3 O0_1 O1_0 b2
    go_wp2_with fail
    refine (markStepS_own _ _ _ 1 (by omega) (by omega) _ hls O1_1.out).mono ?_
    rintro e w4 ⟨rfl, hO, hg4⟩
    have b4 := b3.grown hg4 b3.size (fun q hq => by have := (B1.out q hq).1; have := B0.out; omega)
    have O0_3 := Lib.hid (O0_2.out.far hg4 (fun q hq e => by have := (B1.out q e).1; have := (B0.out q hq).2; omega))
    have O1_2 := Lib.hid hO
    clear hO hg4 O0_2 O1_1 b3
    go_wp2_with fail
    refine (heldStepS_own _ _ _ 1 (by omega) (by omega) _ hls O1_2.out).mono ?_
    rintro e w5 ⟨rfl, rfl⟩
    go_wp2_with fail
    refine (HP.out _ (HE.out.keep b4)).mono ?_
    rintro e w6 ⟨v2, rfl, hO2, hb6⟩
    have b6 := b4.trans (hb6.mono b4.size)
    have O0_4 := Lib.hid (O0_3.out.keep hb6)
    have O1_3 := Lib.hid (O1_2.out.keep hb6)
    have O2_0 := Lib.hid hO2
    clear hO2 hb6 O0_3 O1_2 b4
    go_wp2_with fail
    refine (eqStepS_own hls O2_0.out O0_4.out).mono ?_
    rintro e w7 ⟨rfl, hb7⟩
    have b7 := b6.trans (hb7.mono b6.size)
    have O1_4 := Lib.hid (O1_3.out.keep hb7)
    clear hb7 O0_4 O2_0 O1_3 b6
    go_wp2_with fail
    refine (heldStepS_own _ _ _ 1 (by omega) (by omega) _ hls O1_4.out).mono ?_
    rintro e w8 ⟨rfl, rfl⟩
    go_wp2
    go_ret
    exact ⟨rfl, b7⟩
  · have hl2 : (1048576 : Int) < (s.size : Int) := by omega
    go_enter Tryd.func10, Tryd.ntmps10
    go_wp2
    go_ret
    exact ⟨rfl, Below.refl _ _⟩
set_option maxRecDepth 100000 in
set_option maxHeartbeats 4000000 in
theorem exactOrderText_walk (hI : ItoaSays) (hJ : JoinSays) (w : World) (A : Option Addr) (n c : Nat) (us : List TP) (hn : n ≤ 9223372036854775807) (hr : RowP w A n us) (ht : PowTab w) :
    Calls Tryd.prog 9 #[.slice A n c] w fun e w' => e = .returned (.bool true) ∧ Below w.heap.size w w' := by
  have HR := Lib.hid hr
  have HL := Lib.hid hr.len
  have HP := Lib.hid ht
  clear hr ht
  by_cases H0 : (n : Int) ≤ (1048576 : Int)
  · have h0 : n ≤ 1048576 := by omega
    have hpos : ¬ ((1048576 : Int) - (n : Int) < 0) := by omega
    go_enter Tryd.func9, Tryd.ntmps9
    go_wp2_with fail
    refine (szStepS_any A n c (1048576 : Int) (by omega) (by omega) hn _).mono ?_
    rintro e w' ⟨rfl, rfl⟩
    simp only [H0, if_true]
    go_wp2_with fail
    refine (toStepS_any A n c us _ h0 HR.out).mono ?_
    rintro e w2 ⟨g1, rfl, b2, hg1, hk1⟩
    go_wp2_with fail
    refine (specOrderText_any _ n n us _ (by omega) (hk1.rowP HL.out)).mono ?_
    rintro e w3 ⟨rfl, hb3⟩
    have b3 := b2.trans (hb3.mono b2.size)
    clear hk1 hb3 b2 hg1
    go_wp2_with fail
    refine (toStepS_any A n c us _ h0 (HR.out.below b3)).mono ?_
    rintro e w4 ⟨g2, rfl, hb4, hg2, hk2⟩
    have b4 := b3.trans (hb4.mono b3.size)
    have K4 := Lib.hid hk2
    clear hb4 b3 hk2
    go_wp2_with fail
    refine (orderText_any hI hJ _ n n us _ (by omega) (K4.out.rowP HL.out) (HP.out.keep b4 (Nat.le_refl _))).mono ?_
    rintro e w5 ⟨rfl, hb5⟩
    have b5 := b4.trans (hb5.mono b4.size)
    have K5 := Lib.hid (K4.out.keep hb5)
    clear hb5 b4 K4
    go_wp2_with fail
    refine (toStepS_any A n c us _ h0 (HR.out.below b5)).mono ?_
    rintro e w6 ⟨g3, rfl, hb6, hg3, hk3⟩
    have b6 := b5.trans (hb6.mono b5.size)
    have K6 := Lib.hid (K5.out.keep hb6)
    have K3 := Lib.hid hk3
    clear hb6 b5 K5 hk3
    go_wp2_with fail
    refine (eqStepS_same _ _ n n n us _ h0 (K6.out.rowP HL.out) (K3.out.rowP HL.out)).mono ?_
    rintro e w7 ⟨rfl, hb7⟩
    go_wp2
    go_ret
    exact ⟨rfl, b6.trans (hb7.mono b6.size)⟩
  · go_enter Tryd.func9, Tryd.ntmps9
    go_wp2_with fail
    refine (szStepS_any A n c (1048576 : Int) (by omega) (by omega) hn _).mono ?_
    rintro e w' ⟨rfl, rfl⟩
    simp only []
    go_wp2
    go_ret
    exact ⟨rfl, Below.refl _ _⟩
end Go.Proofs.YtfedffekbemcoaaDoor
