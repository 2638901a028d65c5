/- FnNetText: the walk. -/
import Derived.Test.YtciciidndjkdiaaDoorR8
import Derived.Test.YtciciidndjkdiaaDoorR9
import Derived.Test.YtciciidndjkdiaaDoorN1
namespace Go.Proofs.YtciciidndjkdiaaDoor
open Go.ChangeShapes Go.WideShapes Go.ChangeAt Go.RowKit

theorem sameNet_same (bs : Int) (A A' : Option Addr) (n c c' : Nat) (ls : List L3) (w : World) (hn : n ≤ 1048576) (hr : RowL w A n ls) (hr' : RowL w A' n ls) :
    Calls Tryd.prog 13 #[.agg #[.int .i64 bs, .slice A n c], .agg #[.int .i64 bs, .slice A' n c']] w fun e w' => e = .returned (.bool true) ∧ Below w.heap.size w w' := by
  have hb0 := below_bx w (.cells #[.int .i64 bs, .slice A n c] 25)
  have HL := Lib.hid hr.1
  have HC := Lib.hid (show RowL w A n ls from hr)
  have HC' := Lib.hid hr'
  clear hr hr'
  have b0 : Below w.heap.size w ((w.alloc (.cells #[.int .i64 bs, .slice A n c] 25)).alloc (.cells #[.int .i64 bs, .slice A' n c'] 25)) := hb0.alloc (by simp) _
  have k0 : IsBlk ((w.alloc (.cells #[.int .i64 bs, .slice A n c] 25)).alloc (.cells #[.int .i64 bs, .slice A' n c'] 25)) w.heap.size 25 #[.int .i64 bs, .slice A n c] := (IsBlk.new _ _ _).alloc _
  have k1 : IsBlk ((w.alloc (.cells #[.int .i64 bs, .slice A n c] 25)).alloc (.cells #[.int .i64 bs, .slice A' n c'] 25)) (w.heap.size + 1) 25 #[.int .i64 bs, .slice A' n c'] := by
    have := IsBlk.new (w.alloc (.cells #[.int .i64 bs, .slice A n c] 25)) 25 #[.int .i64 bs, .slice A' n c']
    simpa using this
  go_enter Tryd.func13, Tryd.ntmps13
  go_wp2
  go_loopw [5] (fun i wr => ∃ k : Nat, k ≤ n ∧ i = .int .i64 k ∧ Below w.heap.size w wr ∧ IsBlk wr w.heap.size 25 #[.int .i64 bs, .slice A n c] ∧ IsBlk wr (w.heap.size + 1) 25 #[.int .i64 bs, .slice A' n c']) (fun i _ => n - (intOf i).toNat)
  case atStart => exact ⟨0, by omega, rfl, b0, k0, k1⟩
  case round =>
    obtain ⟨k, hk, rfl, hbel, hk0, hk1⟩ := hrel
    obtain ⟨p0, p1, p2, p3⟩ := hk0.two
    obtain ⟨q0, q1, q2, q3⟩ := hk1.two
    have K0 := Lib.hid hk0
    have K1 := Lib.hid hk1
    clear hk0 hk1
    by_cases hlt : k < n
    · obtain ⟨b, off, rfl, hb, HD⟩ := HC.out.2 (by omega)
      obtain ⟨b', off', rfl, hb', HD'⟩ := HC'.out.2 (by omega)
      have hkl : ls[k]? = some (ls[k]'(by have := HL.out; omega)) := List.getElem?_eq_getElem _
      generalize (ls[k]'(by have := HL.out; omega)) = l at hkl
      obtain ⟨g0, g1, g2⟩ := HD k l hkl
      obtain ⟨g0', g1', g2'⟩ := HD' k l hkl
      rw [← hbel.cell (p := ⟨b, off + k * 3, none⟩) hb] at g0
      rw [← hbel.cell (p := ⟨b, off + k * 3 + 1, none⟩) hb] at g1
      rw [← hbel.cell (p := ⟨b, off + k * 3 + 2, none⟩) hb] at g2
      rw [← hbel.cell (p := ⟨b', off' + k * 3, none⟩) hb'] at g0'
      rw [← hbel.cell (p := ⟨b', off' + k * 3 + 1, none⟩) hb'] at g1'
      rw [← hbel.cell (p := ⟨b', off' + k * 3 + 2, none⟩) hb'] at g2'
      obtain ⟨x, y, z⟩ := l
      simp only at g0 g1 g2 g0' g1' g2'
      clear hkl HD HD'
      have i0 : (0 : Int) ≤ (k : Int) := by omega
      have i1 : (k : Int) < (n : Int) := by omega
      go_wp2
      go_quiet (fail)
      go_wp2
      go_roundw
      case rel => exact ⟨k + 1, by omega, by go_num, below_drewN hbel _, K0.out, K1.out⟩
      case measure => simp [intOf]; omega
    · go_wp2
      go_ret
      exact ⟨rfl, hbel⟩
set_option maxRecDepth 100000 in
set_option maxHeartbeats 1000000 in
theorem drawNetText_any (A : Option Addr) (n c : Nat) (code : List Int) (w : World) (hr : RowB w A n code) (hnc : n ≤ c) (hc : c ≤ 9223372036854775807) :
    Calls Tryd.prog 7 #[.slice A n c] w fun e w' => ∃ bs A c ls, e = .returned (.agg #[.int .i64 bs, .slice A ls.length c]) ∧ RowL w' A ls.length ls ∧ ls.length ≤ 12 ∧ Below w.heap.size w w' := by
  have hr0 : RowB (w.alloc (.cells #[.int .i64 0, .slice none 0 0] 25)) A n code := by
    refine ⟨hr.1, fun hp => ?_, hr.2.2⟩
    obtain ⟨b, off, e, hlt, hcl⟩ := hr.2.1 hp
    exact ⟨b, off, e, by simp; omega, fun k x hk => by rw [World.cell?_alloc_lt _ _ _ hlt]; exact hcl k x hk⟩
  go_enter Tryd.func7, Tryd.ntmps7
  go_wp2_with fail
  refine (open_any A n c code _ hr0 hnc hc).mono ?_
  rintro e w1 ⟨rfl, hb1, hr1, hs1⟩
  simp only [World.size_alloc] at hb1 hr1 hs1
  have HS := Lib.hid hs1
  have k1 := (IsBlk.new w 25 #[.int .i64 0, .slice none 0 0]).below hb1 (by omega)
  have b1 : Below w.heap.size w w1 := (below_bx w _).trans (hb1.mono (by omega))
  clear hs1
  go_wp2_with fail
  refine (net_any (w.heap.size + 1) 6 0 (by omega) (by omega) _ (by rw [HS.out]; omega) hr1).mono ?_
  rintro e w2 ⟨bs, v, ls, rfl, ho, hl, hb0, hb9, hr2, hg2⟩
  obtain ⟨A', c', rfl, _⟩ := ho.row
  have b2 : Below w.heap.size w w2 := b1.grown hg2 b1.size (fun q hq => by injection hq with hq; omega)
  have k2 : IsBlk w2 w.heap.size 25 #[.int .i64 0, .slice none 0 0] := (hg2.block _ k1.lt (by simp)).trans k1
  have g2 : w2.grownBy ((w2.setCell ⟨w.heap.size, 0, none⟩ (.int .i64 bs)).setCell ⟨w.heap.size, 1, none⟩ (.slice A' ls.length c')) (some w.heap.size) := grown_then (grown_put _ _ _ _) (grown_put _ _ _ _)
  have o2 := ho.far g2 (fun q hq e => by injection e with e; have := (World.ownsRow.lt ho q hq).1; have := HS.out; omega)
  have O2 := Lib.hid o2
  have G2 := Lib.hid g2
  obtain ⟨q0, q1, q2, q3⟩ := k2.two
  clear ho o2 g2 hr2 hg2 hr1 hb1 k1 k2
  go_wp2_with fail
  refine bodyPost_ret (v := .agg #[.int .i64 bs, .slice A' ls.length c']) (by simp [results, Tryd.results7, go_sem, q0, q1]) rfl ⟨bs, A', c', ls, rfl, ?_, hl, b2.grown G2.out b2.size (fun q hq => by injection hq with hq; omega)⟩
  obtain ⟨A'', c'', e, hrr⟩ := O2.out.row
  injection e with e1
  subst e1; exact hrr

theorem textF_ne {bs : Int} {ls : List L3} (h : netOk bs ls = true) : ¬ textF bs ls = ⟨#[]⟩ := by
  intro e
  have h1 := textF_list h
  rw [e] at h1
  have h2 : (listOf bs ls).length = 0 := by rw [← h1]; rfl
  rw [listOf, List.length_append, Lib.decDigits_length] at h2
  have := Lib.nDigits_pos bs.toNat
  omega

set_option maxRecDepth 100000 in
set_option maxHeartbeats 4000000 in
theorem netText_walk (hC : CutSays) (hA : AtoiSays) (hSp : SplitSays) (hI : ItoaSays) (w : World) (A : Option Addr) (n c : Nat) (code : List Int) (hr : RowB w A n code) (hnc : n ≤ c) (hc : c ≤ 9223372036854775807) (hl : LibEnv w) :
    Calls Tryd.prog 3 #[.slice A n c] w fun e w' => e = .returned (.bool true) ∧ Below w.heap.size w w' := by
  by_cases hlen : n ≤ 1048576
  · have HE := Lib.hid hl
    have HI := Lib.hid hI
    have HRd := Lib.hid (fun (bs : Int) (ls : List L3) (hv : netOk bs ls = true) (hz : (textF bs ls).size ≤ 1100000) (w : World) (h : LibEnv w) => (readNet_any hC hA hSp hI (textF bs ls) w hz h).mono fun e w' he => (by rw [cand_eq] at he; have he : ReadEnd (readF (textF bs ls)) w e w' := he; rw [readF_text hv] at he; exact he : ∃ v, e = .returned (.tuple #[.agg #[.int .i64 bs, v], .bool true]) ∧ OwnL w' w.heap.size v ls ∧ Below w.heap.size w w'))
    clear hC hA hSp hI hl
    go_enter Tryd.func3, Tryd.ntmps3
    go_wp2_with fail
    refine (drawNetText_any A n c code _ hr hnc hc).mono ?_
    rintro e w1 ⟨bs, A1, c1, ls, rfl, hrow, hls, a1⟩
    have h1 : ls.length ≤ 1048576 := by omega
    have hb0 := below_bx w1 (.cells #[.int .i64 bs, .slice A1 ls.length c1] 25)
    have R1 := Lib.hid (hrow.below hb0)
    have k1 := Lib.hid (IsBlk.new w1 25 #[.int .i64 bs, .slice A1 ls.length c1])
    have b1 : Below w.heap.size w (w1.alloc (.cells #[.int .i64 bs, .slice A1 ls.length c1] 25)) := a1.alloc a1.size _
    clear hrow hr hb0
    go_wp2_with fail
    refine (netText_any HI.out bs A1 ls.length c1 ls _ h1 R1.out (HE.out.keep b1).pow).mono ?_
    rintro e w2 ⟨rfl, hb2⟩
    have b2 := b1.trans (hb2.mono b1.size)
    have R2 := Lib.hid (R1.out.below hb2)
    have k2 := Lib.hid (k1.out.keep hb2)
    obtain ⟨p0, p1, p2, p3⟩ := k2.out.two
    go_wp2_with fail
    refine (specNetText_any bs A1 ls.length c1 ls _ h1 R2.out).mono ?_
    rintro e w3 ⟨rfl, hb3⟩
    have b3 := b2.trans (hb3.mono b2.size)
    have R3 := Lib.hid (R2.out.below hb3)
    have k3 := Lib.hid (k2.out.keep hb3)
    clear p0 p1 p2 p3 R1 R2 k1 k2 b1 b2
    obtain ⟨p0, p1, p2, p3⟩ := k3.out.two
    by_cases hv : netOk bs ls = true
    · have HV := Lib.hid hv
      have HZ := Lib.hid (show (textF bs ls).size ≤ 1100000 by
        have h2 := textTo_size hv ls.length
        have h3 := (netOk_len hv).2.2
        rw [textF, if_pos hv]; omega)
      have hne := textF_ne hv
      have HX := Lib.hid (HRd.out bs ls hv HZ.out)
      clear hv
      generalize textF bs ls = t at *
      have e1 := str_ne hne
      have e2 : t.toList.isEmpty = false := by
        rw [Bool.eq_false_iff]; intro h
        rw [List.isEmpty_iff, Lib.toList_data] at h
        exact hne (by rw [← Lib.mk_data t, h])
      clear hne
      go_wp2_with fail
      refine (HX.out _ (HE.out.keep b3)).mono ?_
      rintro e w4 ⟨v, rfl, hO, hb4⟩
      obtain ⟨A2, c2, rfl, hrow⟩ := hO.row
      have b4 := b3.trans (hb4.mono b3.size)
      have b4' : Below w.heap.size w (w4.alloc (.cells #[.int .i64 bs, .slice A2 ls.length c2] 25)) := b4.alloc b4.size _
      have hbx := below_bx w4 (.cells #[.int .i64 bs, .slice A2 ls.length c2] 25)
      have R4 := Lib.hid ((R3.out.below hb4).below hbx)
      have Q4 := Lib.hid (hrow.below hbx)
      have k4 := Lib.hid ((k3.out.keep hb4).keep hbx)
      have j4 := Lib.hid (IsBlk.new w4 25 #[.int .i64 bs, .slice A2 ls.length c2])
      clear p0 p1 p2 p3 hO hrow hbx hb4 R3 k3
      obtain ⟨p0, p1, p2, p3⟩ := k4.out.two
      obtain ⟨q0, q1, q2, q3⟩ := j4.out.two
      go_wp2_with fail
      refine (sameNet_same bs A2 A1 ls.length c2 c1 ls _ h1 Q4.out R4.out).mono ?_
      rintro e w5 ⟨rfl, hb5⟩
      go_wp2
      go_ret
      exact ⟨rfl, b4'.trans (hb5.mono b4'.size)⟩
    · have HT := Lib.hid (show textF bs ls = ⟨#[]⟩ by rw [textF, if_neg hv])
      rw [Bool.not_eq_true] at hv
      have HV := Lib.hid hv
      clear hv
      rw [HT.out]
      go_wp2_with fail
      refine (netValid_any bs A1 ls.length c1 ls _ h1 R3.out).mono ?_
      rintro e w4 ⟨rfl, hb4⟩
      rw [HV.out]
      have b4 := b3.trans (hb4.mono b3.size)
      go_wp2_with fail
      refine (alive_any _).mono ?_
      rintro e w5 ⟨rfl, hb5⟩
      go_wp2
      go_ret
      exact ⟨rfl, b4.trans (hb5.mono b4.size)⟩
  · have hl2 : (1048576 : Int) < (n : Int) := by omega
    go_enter Tryd.func3, Tryd.ntmps3
    go_wp2
    go_ret
    exact ⟨rfl, Below.refl _ _⟩
end Go.Proofs.YtciciidndjkdiaaDoor
