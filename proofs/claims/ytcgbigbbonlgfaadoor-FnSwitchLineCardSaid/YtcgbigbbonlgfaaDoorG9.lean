/- FnSwitchLine: the walk. -/
import Derived.Test.YtcgbigbbonlgfaaDoorD3
import Derived.Test.YtcgbigbbonlgfaaDoorG4
import Derived.Test.YtcgbigbbonlgfaaDoorG3
import Derived.Test.YtcgbigbbonlgfaaDoorB5
import Derived.Test.YtcgbigbbonlgfaaDoorB6
import Derived.Test.YtcgbigbbonlgfaaDoorM2
namespace Go.Proofs.YtcgbigbbonlgfaaDoor
open Go.ChangeShapes Go.WideShapes Go.ChangeAt Go.RowKit

theorem swB_yes {bs : Int} {ls : List L3} {ts : List Bool} {line : Int} (h : swB bs ls ts line = true) : ∃ k : Nat, line = (k : Int) ∧ k < ts.length ∧ stOk bs ls ts.length = true := by
  simp only [swB, Bool.and_eq_true, decide_eq_true_eq] at h
  obtain ⟨k, rfl⟩ := Int.eq_ofNat_of_zero_le h.1.2
  exact ⟨k, rfl, by omega, h.1.1⟩
theorem swF_at {bs : Int} {ls : List L3} {ts : List Bool} {k : Nat} (hk : k < ts.length) (hs : stOk bs ls ts.length = true) (sw : Bool) : swF bs ls ts (k : Int) sw = ts.set k sw := by
  rw [swF, if_pos hs, if_pos (by omega)]; rfl
theorem set_back (ts : List Bool) (k : Nat) (sw : Bool) (hk : k < ts.length) : (ts.set k sw).set k (ts.getD k false) = ts := by
  rw [List.set_set]
  apply List.ext_getElem?
  intro j
  by_cases e : k = j
  · subst e; rw [List.getElem?_set_self hk, getD_lt hk]
  · rw [List.getElem?_set_ne e]
theorem swF_no {bs : Int} {ls : List L3} {ts : List Bool} {line : Int} {sw : Bool} (h : swB bs ls ts line = false) : swF bs ls ts line sw = [] ∨ (swF bs ls ts line sw = ts ∧ 0 < ts.length) := by
  rw [swF]
  by_cases hs : stOk bs ls ts.length = true
  · rw [if_pos hs]
    rw [if_neg (fun hin => by simp [swB, hs, hin] at h)]
    rcases Nat.eq_zero_or_pos ts.length with h0 | h0
    · exact .inl (List.eq_nil_of_length_eq_zero h0)
    · exact .inr ⟨rfl, h0⟩
  · rw [if_neg hs]; exact .inl rfl

set_option maxRecDepth 100000 in
set_option maxHeartbeats 1000000 in
theorem switchLine_walk (w : World) (A : Option Addr) (n c : Nat) (code : List Int) (hr : RowB w A n code) (hnc : n ≤ c) (hc : c ≤ 9223372036854775807) :
    Calls Tryd.prog 6 #[.slice A n c] w fun e w' => e = .returned (.bool true) ∧ Below w.heap.size w w' := by
  by_cases hlen : n ≤ 1048576
  · go_enter Tryd.func6, Tryd.ntmps6
    go_wp2_with fail
    refine (drawSwitchLine_any A n c code _ hr hnc hc).mono ?_
    rintro e w1 ⟨bs, A1, c1, ls, v, ts, line, sw, rfl, hrow, hls, hO, hts, a1⟩
    have hb0 := below_bx w1 (.cells #[.int .i64 bs, .slice A1 ls.length c1] 25)
    have HR1 := Lib.hid (hrow.below hb0)
    have k1 := Lib.hid (IsBlk.new w1 25 #[.int .i64 bs, .slice A1 ls.length c1])
    have b1 : Below w.heap.size w (w1.alloc (.cells #[.int .i64 bs, .slice A1 ls.length c1] 25)) := a1.alloc a1.size _
    have O1 := Lib.hid (hO.keep hb0)
    obtain ⟨A2, c2, rfl, _, hrt⟩ := hO.row
    have T1 := Lib.hid (hrt.below hb0)
    clear hrow hr hO hrt
    have h1 : ls.length ≤ 1048576 := by omega
    have h2 : ts.length ≤ 1048576 := by omega
    go_wp2_with fail
    refine (switchLine_any bs A1 ls.length c1 ls A2 ts.length c2 ts line sw _ h1 HR1.out h2 T1.out).mono ?_
    rintro e w2 ⟨v2, rfl, hO2, hb2⟩
    have b2 := b1.trans (hb2.mono b1.size)
    have HR2 := Lib.hid (HR1.out.below hb2)
    have k2 := Lib.hid (k1.out.keep hb2)
    have O2 := Lib.hid (O1.out.keep hb2)
    have T2 := Lib.hid (T1.out.below hb2)
    have X2 := Lib.hid hO2
    clear hO2 HR1 k1 O1 T1
    obtain ⟨p0, p1, _, _⟩ := k2.out.two
    go_wp2_with fail
    refine (specSwitchLine_any bs A1 ls.length c1 ls A2 ts.length c2 ts line sw _ h1 HR2.out h2 T2.out).mono ?_
    rintro e w3 ⟨v3, rfl, hO3, hb3⟩
    have b3 := b2.trans (hb3.mono b2.size)
    have HR3 := Lib.hid (HR2.out.below hb3)
    have k3 := Lib.hid (k2.out.keep hb3)
    have O3 := Lib.hid (O2.out.keep hb3)
    have T3 := Lib.hid (T2.out.below hb3)
    have X3 := Lib.hid (X2.out.keep hb3)
    have Y3 := Lib.hid hO3
    clear hO3 HR2 k2 O2 T2 X2 p0 p1
    go_wp2_with fail
    refine (sameBools_own (Nat.le_trans (swF_len _ _ _ _ _) (by decide)) X3.out Y3.out).mono ?_
    rintro e w4 ⟨rfl, hb4⟩
    have b4 := b3.trans (hb4.mono b3.size)
    have HR4 := Lib.hid (HR3.out.below hb4)
    have k4 := Lib.hid (k3.out.keep hb4)
    have O4 := Lib.hid (O3.out.keep hb4)
    have T4 := Lib.hid (T3.out.below hb4)
    have X4 := Lib.hid (X3.out.keep hb4)
    clear HR3 k3 O3 T3 X3 Y3
    by_cases hB : swB bs ls ts line = true
    · obtain ⟨k, rfl, hk, hs⟩ := swB_yes hB
      have HB := Lib.hid hB
      have hF := swF_at (sw := sw) hk hs
      have HB2 := Lib.hid (show swB bs ls (ts.set k sw) (k : Int) = true by simp [swB, hs]; omega)
      have HF2 := Lib.hid (show swF bs ls (ts.set k sw) (k : Int) (ts.getD k false) = ts by rw [swF_at (by simpa using hk) (by simpa using hs), set_back _ _ _ hk])
      have HN := Lib.hid (show (chF ts (ts.set k sw)).length ≤ 1 by have := chF_set ts ts k sw rfl; rw [chF_self] at this; simpa using this)
      have X := X4.out
      rw [hF] at X
      have X5 := Lib.hid X
      obtain ⟨A3, c3, hv, _, hx⟩ := X.row
      subst hv
      have hl : (ts.set k sw).length = ts.length := by simp
      rw [hl] at hx ⊢
      have XR := Lib.hid hx
      obtain ⟨bx, ox, tx, hAx, hbx, hkx, gx⟩ := hx.at_ hk
      obtain ⟨bo, oo, to_, hAo, hbo, hko, go⟩ := T4.out.at_ hk
      have htx : tx = sw := by rw [List.getElem?_set_self hk] at hkx; injection hkx with h; exact h.symm
      have hto : to_ = ts.getD k false := by rw [getD_lt hk] at hko; injection hko with h; exact h.symm
      subst htx hto hAx hAo
      rw [HB.out]
      generalize ts.getD k false = old at *
      have kk0 : (0 : Int) ≤ (k : Int) := by omega
      have kk1 : (k : Int) < (ts.length : Int) := by omega
      have h3 := Lib.hid (show (ts.set k tx).length ≤ 1048576 by rw [hl]; exact h2)
      have HLn := Lib.hid hl
      clear hF hB hs X hx hkx hko hl
      obtain ⟨p0, p1, p2, p3⟩ := k4.out.two
      go_upto_region 10 with fail
      have XD := Lib.hid (show RowT w4.drew _ ts.length (ts.set k tx) from XR.out)
      have RD := Lib.hid (show RowL w4.drew A1 ls.length ls from HR4.out)
      have KD := Lib.hid (show IsBlk w4.drew w1.heap.size 25 #[.int .i64 bs, .slice A1 ls.length c1] from k4.out)
      go_cut [61, 70, 71, 11, 12] (fun _ _ _ s11 s12 wx => s12 = .bool true ∧ OwnT wx w4.heap.size s11 ts ∧ Below w4.heap.size w4 wx)
      case first =>
        go_region_with (first
          | (go_at_call 22; refine (switchLine_any bs A1 ls.length c1 ls _ ts.length c3 (ts.set k tx) (k : Int) old _ h1 RD.out h2 XD.out).mono ?_; rintro e w5 ⟨v5, rfl, hO5, hb5⟩; rw [HB2.out]; rw [HF2.out] at hO5; have Y5 := Lib.hid hO5; clear hO5))
        all_goals (go_wp2_with fail; go_meet; exact ⟨rfl, Y5.out, ((Below.refl w4.heap.size w4).drew).trans hb5⟩)
      case rest =>
        obtain ⟨rfl, hO5, hb5⟩ := hcut
        have b5 := b4.trans (hb5.mono b4.size)
        have Y5 := Lib.hid hO5
        obtain ⟨A5, c5, rfl, _, _⟩ := hO5.row
        have O5 := Lib.hid (O4.out.keep hb5)
        have T5 := Lib.hid (T4.out.below hb5)
        have XR5 := Lib.hid (XR.out.below hb5)
        have gx5 := (hb5.cell (p := ⟨bx, ox + k, none⟩) hbx).trans gx
        clear hO5 p0 p1 p2 p3 gx go
        go_wp2_with fail
        refine (changes_any _ ts.length c2 ts _ ts.length c3 (ts.set k tx) _ h2 T5.out h2 XR5.out).mono ?_
        rintro e w6 ⟨v6, rfl, hO6, hb6⟩
        have b6 := b5.trans (hb6.mono b5.size)
        obtain ⟨A6, c6, rfl, _⟩ := hO6.form
        have hn1 := HN.out
        have hn2 : ((chF ts (ts.set k tx)).length : Int) ≤ 1 := by omega
        clear hO6
        go_wp2_with fail
        refine (sameBools_own h2 (Y5.out.keep hb6) (O5.out.keep hb6)).mono ?_
        rintro e w7 ⟨rfl, hb7⟩
        go_wp2
        go_ret
        exact ⟨rfl, b6.trans (hb7.mono b6.size)⟩
    · rw [Bool.not_eq_true] at hB
      have HB := Lib.hid hB
      obtain ⟨A3, c3, hv, _, _⟩ := X4.out.row
      subst hv
      rcases swF_no (sw := sw) hB with hE | ⟨hE, h0⟩
      · have HE := Lib.hid (show (swF bs ls ts line sw).length = 0 by rw [hE]; rfl)
        clear hE hB
        rw [HE.out, HB.out]
        go_wp2_with fail
        refine (alive_any _).mono ?_
        rintro e w5 ⟨rfl, hb5⟩
        go_wp2
        go_ret
        exact ⟨rfl, b4.trans (hb5.mono b4.size)⟩
      · have X := X4.out
        have HB' := Lib.hid hB
        rw [hE] at X ⊢
        have X5 := Lib.hid X
        have hne : ((ts.length : Int) == 0) = false := by rw [beq_eq_false_iff_ne]; omega
        clear hE hB X
        rw [HB.out]
        go_wp2_with fail
        refine (sameBools_own h2 X5.out O4.out).mono ?_
        rintro e w5 ⟨rfl, hb5⟩
        have b5 := b4.trans (hb5.mono b4.size)
        go_wp2_with fail
        refine (alive_any _).mono ?_
        rintro e w6 ⟨rfl, hb6⟩
        go_wp2
        go_ret
        exact ⟨rfl, b5.trans (hb6.mono b5.size)⟩
  · have hl2 : (1048576 : Int) < (n : Int) := by omega
    go_enter Tryd.func6, Tryd.ntmps6
    go_wp2
    go_ret
    exact ⟨rfl, Below.refl _ _⟩
end Go.Proofs.YtcgbigbbonlgfaaDoor
