/- Switching orders: FnOrderValid: the walk. -/
import Derived.Test.YtfedffekbemcoaaDoorOrL
namespace Go.Proofs.YtfedffekbemcoaaDoor
open Go.ChangeShapes Go.WideShapes Go.ChangeAt Go.RowKit

set_option maxRecDepth 100000 in
set_option maxHeartbeats 4000000 in
theorem orderValid_walk (w : World) (A : Option Addr) (n c : Nat) (code : List Int) (hr : RowB w A n code) (hnc : n ≤ c) (hc : c ≤ 9223372036854775807) :
    Calls Tryd.prog 3 #[.slice A n c] w fun e w' => e = .returned (.bool true) ∧ Below w.heap.size w w' := by
  by_cases hlen : n ≤ 1048576
  · have hlen' : ¬ (1048576 : Int) < (n : Int) := by omega
    go_enter Tryd.func3, Tryd.ntmps3
    go_wp2_with fail
    refine (drawOrderValid_any A n c code _ hr hnc hc).mono ?_
    rintro e w1 ⟨v, us, rfl, hO, hl, b1⟩
    obtain ⟨Av, cv, rfl, hR⟩ := hO.row
    have R1 := Lib.hid hR
    have O1 := Lib.hid hO
    have B1 := Lib.hid b1
    clear hr hO hR b1
    go_wp2_with fail
    refine (orderValid_any _ us.length cv us _ (by omega) R1.out).mono ?_
    rintro e w2 ⟨rfl, hb2⟩
    have B2 := Lib.hid (B1.out.trans (hb2.mono B1.out.size))
    have O2 := Lib.hid (O1.out.keep hb2)
    have R2 := Lib.hid (R1.out.below hb2)
    clear hb2
    generalize hok : ordOk us = ok
    have HOK := Lib.hid hok
    clear hok
    go_wp2_with fail
    refine (specOrderValid_any _ us.length cv us _ (by omega) R2.out).mono ?_
    rw [HOK.out]
    rintro e w3 ⟨rfl, rfl⟩
    have hneq : (ok != ok) = false := by simp
    go_upto_region 7 with fail
    have BL := Lib.hid (below_bx w2 (.cells #[] 27))
    have OL := Lib.hid (ownP_lit w2)
    go_upto_region 8 with (first
      | (at_builtin
         refine wpList_append_steps rfl (.tmp 17) (.tmp 18) rfl w2.heap.size w.heap.size _ _ [] us rfl rfl OL.out (O2.out.keep BL.out) (by simp) (by simp; omega) ?_
         intro v4 w4 hown4 hgrow4 _
         have B4 := Lib.hid (show Below w2.heap.size w2 w4 from BL.out.grown hgrow4 (by simp) (fun q hq => (OL.out.lt q hq).1))
         have O4 := Lib.hid (show OwnP w4 w2.heap.size v4 us from hown4)
         clear hgrow4 hown4)
      | (at_builtin
         refine wpList_append_step rfl (.tmp 19) (.tmp 21) rfl w2.heap.size w4.heap.size _ us (10, false) rfl rfl (O4.out.alloc _) (newP w4 (10, false) _) (by omega) (by have := B4.out.size; simp; omega) ?_
         intro v5 w5 hown5 hgrow5 _
         have B5 := Lib.hid (show Below w2.heap.size w2 w5 from (B4.out.alloc B4.out.size _).grown hgrow5 (by have := B4.out.size; simp; omega) (fun q hq => (O4.out.lt q hq).1))
         have O5 := Lib.hid hown5
         obtain ⟨A5, c5, rfl, hR5⟩ := hown5.row
         have R5 := Lib.hid hR5
         clear hgrow5 hown5 hR5)
      | fail)
    have BW := Lib.hid (B2.out.trans (B5.out.mono B2.out.size))
    have O6 := Lib.hid (O2.out.keep B5.out)
    rw [show (us ++ [((10, false) : TP)]).length = us.length + 1 by simp] at R5
    clear B1 O1 R1 R2 O2 BL OL B4 O4 B5 O5 B2
    cases ok
    · go_wp2_with fail
      refine (orderValid_any A5 (us.length + 1) c5 (us ++ [(10, false)]) _ (by omega) R5.out).mono ?_
      rw [ordOk_more]
      rintro e w7 ⟨rfl, hb7⟩
      have B7 := Lib.hid (BW.out.trans (hb7.mono BW.out.size))
      go_wp2_with fail
      refine (orderValid_any none 0 0 [] _ (by omega) RowP.none_).mono ?_
      rw [ordOk_nil]
      rintro e w8 ⟨rfl, hb8⟩
      have B8 := Lib.hid (B7.out.trans (hb8.mono B7.out.size))
      go_wp2_with fail
      refine (alive_any _).mono ?_
      rintro e w9 ⟨rfl, hb9⟩
      go_wp2
      go_ret
      exact ⟨rfl, B8.out.trans (hb9.mono B8.out.size)⟩
    · cases us with
      | nil =>
        simp only [List.length_nil, Nat.zero_add]
        go_wp2_with fail
        refine (orderValid_any A5 1 c5 ([] ++ [(10, false)]) _ (by omega) R5.out).mono ?_
        rw [ordOk_more]
        rintro e w7 ⟨rfl, hb7⟩
        have B7 := Lib.hid (BW.out.trans (hb7.mono BW.out.size))
        go_wp2_with fail
        refine (orderValid_any none 0 0 [] _ (by omega) RowP.none_).mono ?_
        rw [ordOk_nil]
        rintro e w8 ⟨rfl, hb8⟩
        have B8 := Lib.hid (B7.out.trans (hb8.mono B7.out.size))
        go_wp2_with fail
        refine (alive_any _).mono ?_
        rintro e w9 ⟨rfl, hb9⟩
        go_wp2
        go_ret
        exact ⟨rfl, B8.out.trans (hb9.mono B8.out.size)⟩
      | cons p r =>
        have hpos : ((((p :: r).length : Nat) : Int) == 0) = false := by rw [beq_eq_false_iff_ne]; simp; omega
        obtain ⟨g, rfl⟩ : ∃ g, Av = some ⟨g, 0, none⟩ := by
          rcases O6.out.2 with ⟨_, h0⟩ | ⟨g, cap, cur, h1, _⟩
          · simp at h0
          · injection h1 with h1; exact ⟨g, h1⟩
        have T6 := Lib.hid O6.out.tail
        have HT := Lib.hid (ordOk_tail HOK.out)
        have hrl : r.length ≤ 12 := by simp at hl; omega
        simp only [List.length_cons] at hpos R5 ⊢
        by_cases hcv : cv = 1
        · subst hcv
          have hr0 : r = [] := by
            rcases O6.out.2 with ⟨_, h0⟩ | ⟨g', cap, cur, h1, _, _, h2, _⟩
            · simp at h0
            · injection h1 with h1 h3 h4; simp at h2; exact List.eq_nil_of_length_eq_zero (by omega)
          subst hr0
          simp only [List.length_nil, Nat.zero_add] at hpos R5 ⊢
          go_wp2_with fail
          refine (orderValid_any _ 0 0 [] _ (by omega) RowP.none_).mono ?_
          rw [ordOk_nil]
          rintro e w6 ⟨rfl, hb6⟩
          have B6 := Lib.hid (BW.out.trans (hb6.mono BW.out.size))
          have R6 := Lib.hid (R5.out.below hb6)
          go_wp2_with fail
          refine (orderValid_any A5 (0 + 1 + 1) c5 ([p] ++ [(10, false)]) _ (by omega) R6.out).mono ?_
          rw [ordOk_more]
          rintro e w7 ⟨rfl, hb7⟩
          have B7 := Lib.hid (B6.out.trans (hb7.mono B6.out.size))
          go_wp2_with fail
          refine (orderValid_any none 0 0 [] _ (by omega) RowP.none_).mono ?_
          rw [ordOk_nil]
          rintro e w8 ⟨rfl, hb8⟩
          have B8 := Lib.hid (B7.out.trans (hb8.mono B7.out.size))
          go_wp2_with fail
          refine (alive_any _).mono ?_
          rintro e w9 ⟨rfl, hb9⟩
          go_wp2
          go_ret
          exact ⟨rfl, B8.out.trans (hb9.mono B8.out.size)⟩
        · have hcv2 : ¬ (cv : Int) = 1 := by omega
          go_wp2_with fail
          refine (orderValid_any _ r.length (cv - 1) r _ (by omega) T6.out).mono ?_
          rw [HT.out]
          rintro e w6 ⟨rfl, hb6⟩
          have B6 := Lib.hid (BW.out.trans (hb6.mono BW.out.size))
          have R6 := Lib.hid (R5.out.below hb6)
          go_wp2_with fail
          refine (orderValid_any A5 (r.length + 1 + 1) c5 ((p :: r) ++ [(10, false)]) _ (by omega) R6.out).mono ?_
          rw [ordOk_more]
          rintro e w7 ⟨rfl, hb7⟩
          have B7 := Lib.hid (B6.out.trans (hb7.mono B6.out.size))
          go_wp2_with fail
          refine (orderValid_any none 0 0 [] _ (by omega) RowP.none_).mono ?_
          rw [ordOk_nil]
          rintro e w8 ⟨rfl, hb8⟩
          have B8 := Lib.hid (B7.out.trans (hb8.mono B7.out.size))
          go_wp2_with fail
          refine (alive_any _).mono ?_
          rintro e w9 ⟨rfl, hb9⟩
          go_wp2
          go_ret
          exact ⟨rfl, B8.out.trans (hb9.mono B8.out.size)⟩
  · have hl2 : (1048576 : Int) < (n : Int) := by omega
    go_enter Tryd.func3, Tryd.ntmps3
    go_wp2
    go_ret
    exact ⟨rfl, Below.refl _ _⟩
end Go.Proofs.YtfedffekbemcoaaDoor
