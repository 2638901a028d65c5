/- Switching orders: FnOrderTo: the walk. -/
import Derived.Test.YtfedffekbemcoaaDoorOrO
namespace Go.Proofs.YtfedffekbemcoaaDoor
open Go.ChangeShapes Go.WideShapes Go.ChangeAt Go.RowKit

/-- A network of two buses in the making: its box is w's next block. -/
structure LnSt (w wr : World) (v : Value) (ls : List L3) : Prop where
  var : IsBlk wr w.heap.size 41 #[.int .i64 2, v]
  own : OwnL wr (w.heap.size + 1) v ls
  bel : Below w.heap.size w wr
theorem LnSt.push {w wr w8 : World} {v v' : Value} {ls : List L3} {l : L3} (h : LnSt w wr v ls) (o : Obj) (hown : w8.ownsRow (w.heap.size + 1) 43 3 v' (ls.length + 1) (ls.flatMap fL ++ fL l)) (hg : (wr.alloc o).grownBy w8 v.ownBlock) :
    LnSt w (w8.setCell ⟨w.heap.size, 1, none⟩ v') v' (ls ++ [l]) ∧ IsBlk w8 w.heap.size 41 #[.int .i64 2, v] := by
  have hq : ∀ q, v.ownBlock = some q → w.heap.size + 1 ≤ q := fun q e => (World.ownsRow.lt h.own q e).1
  have hx : w.heap.size < wr.heap.size := h.var.lt
  have var8 : IsBlk w8 w.heap.size 41 #[.int .i64 2, v] := (hg.block _ (by simp; omega) (fun e => by have := hq _ e.symm; omega)).trans ((Below.heap_alloc wr o _ hx).trans h.var)
  have hgp : w8.grownBy (w8.setCell ⟨w.heap.size, 1, none⟩ v') (some w.heap.size) := grown_put _ _ _ _
  have own8 : OwnL w8 (w.heap.size + 1) v' (ls ++ [l]) := by
    show World.ownsRow _ _ _ _ _ (ls ++ [l]).length _
    rw [List.length_append, List.flatMap_append, List.flatMap_singleton]; exact hown
  have b8 : Below w.heap.size w w8 := (h.bel.alloc h.bel.size o).grown hg (by have := h.bel.size; simp; omega) (fun q e => by have := hq q e; omega)
  exact ⟨⟨var8.put 1 _, own8.far hgp (fun q e e2 => by injection e2 with e2; have := (World.ownsRow.lt own8 q e).1; omega), b8.setCell (Nat.le_refl _) _⟩, var8⟩
def oneL : L3 := (0, 1, 1)
theorem one_net (k : Nat) (h : k ≤ 10) : netOk 2 (List.replicate k oneL) = true := by
  refine netOk_mk (by omega) (by omega) (by simpa using h) ?_
  rw [List.all_eq_true]
  intro l hl
  rw [List.eq_of_mem_replicate hl]; decide
theorem toO_nil {a b : List Bool} (h : a.length ≠ b.length ∨ 10 < a.length) : toO a b = [] := by
  rw [toO]; split
  · rename_i h10
    have : chF a b = [] := by rw [chF, if_neg (by omega)]
    rw [this]; rfl
  · rfl
theorem runO_to {a b : List Bool} (hl : a.length = b.length) (h : a.length ≤ 10) : runO 2 (List.replicate a.length oneL) a (toO a b) = (b, (toO a b).length) := by
  have h1 : stOk 2 (List.replicate a.length oneL) a.length = true := by
    simp only [stOk, Bool.and_eq_true, decide_eq_true_eq]
    exact ⟨one_net _ h, by simp⟩
  have h2 : (toO a b).length = (chF a b).length := by rw [toO, if_pos h, List.length_append, toO_len2]
  rw [runO_yes h1 (toO_ok h), toO_goes hl h, h2]

set_option maxRecDepth 100000 in
set_option maxHeartbeats 4000000 in
theorem orderTo_walk (w : World) (A : Option Addr) (n c : Nat) (code : List Int) (hr : RowB w A n code) (hnc : n ≤ c) (hc : c ≤ 9223372036854775807) :
    Calls Tryd.prog 6 #[.slice A n c] w fun e w' => e = .returned (.bool true) ∧ Below w.heap.size w w' := by
  by_cases hlen : n ≤ 1048576
  · have hlen' : ¬ (1048576 : Int) < (n : Int) := by omega
    go_enter Tryd.func6, Tryd.ntmps6
    go_wp2_with fail
    refine (drawOrderTo_any A n c code _ hr hnc hc).mono ?_
    rintro e w1 ⟨va, ta, vb, tb, rfl, hA, hla, hB, hlb, b1⟩
    obtain ⟨Aa, ca, rfl, _, hRa⟩ := hA.row
    obtain ⟨Ab, cb, rfl, _, hRb⟩ := hB.row
    have RA := Lib.hid hRa
    have RB := Lib.hid hRb
    have B1 := Lib.hid b1
    have hol := toO_len ta tb
    clear hr hA hB hRa hRb b1
    go_wp2_with fail
    refine (orderTo_any _ ta.length ca ta _ tb.length cb tb _ (by omega) RA.out (by omega) RB.out).mono ?_
    rintro e w2 ⟨x, rfl, hX, hb2⟩
    have B2 := Lib.hid (B1.out.trans (hb2.mono B1.out.size))
    have X2 := Lib.hid hX
    have RA2 := Lib.hid (RA.out.below hb2)
    have RB2 := Lib.hid (RB.out.below hb2)
    clear hX hb2 RA RB B1
    go_wp2_with fail
    refine (specOrderTo_any _ ta.length ca ta _ tb.length cb tb _ (by omega) RA2.out (by omega) RB2.out).mono ?_
    rintro e w3 ⟨y, rfl, hY, hb3⟩
    have B3 := Lib.hid (B2.out.trans (hb3.mono B2.out.size))
    have X3 := Lib.hid (X2.out.keep hb3)
    have Y3 := Lib.hid hY
    have RA3 := Lib.hid (RA2.out.below hb3)
    have RB3 := Lib.hid (RB2.out.below hb3)
    clear hY hb3 RA2 RB2 X2 B2
    go_wp2_with fail
    refine (sameSteps_own (by omega) X3.out Y3.out).mono ?_
    rintro e w4 ⟨rfl, hb4⟩
    have B4 := Lib.hid (B3.out.trans (hb4.mono B3.out.size))
    have X4 := Lib.hid (X3.out.keep hb4)
    have RA4 := Lib.hid (RA3.out.below hb4)
    have RB4 := Lib.hid (RB3.out.below hb4)
    clear hb4 RA3 RB3 X3 Y3 B3
    by_cases hbad : ta.length ≠ tb.length ∨ 10 < ta.length
    · have HN := Lib.hid (toO_nil hbad)
      rw [HN.out] at X4
      obtain ⟨Ax, cx, rfl, _⟩ := X4.out.row
      by_cases hne : ta.length = tb.length
      · have h10 : (10 : Int) < (ta.length : Int) := by omega
        have hq : ((ta.length : Int) != (tb.length : Int)) = false := by rw [hne]; simp
        go_wp2_with fail
        refine (alive_any _).mono ?_
        rintro e w5 ⟨rfl, hb5⟩
        go_wp2
        go_ret
        exact ⟨rfl, B4.out.trans (hb5.mono B4.out.size)⟩
      · have hq : ((ta.length : Int) != (tb.length : Int)) = true := by rw [bne_iff_ne]; omega
        go_wp2_with fail
        refine (alive_any _).mono ?_
        rintro e w5 ⟨rfl, hb5⟩
        go_wp2
        go_ret
        exact ⟨rfl, B4.out.trans (hb5.mono B4.out.size)⟩
    · have hq : ((ta.length : Int) != (tb.length : Int)) = false := by rw [bne_eq_false_iff_eq]; omega
      have h10 : ¬ (10 : Int) < (ta.length : Int) := by omega
      have hll : ta.length = tb.length := by omega
      have h10n : ta.length ≤ 10 := by omega
      have HR := Lib.hid (runO_to hll h10n)
      have HT2 := Lib.hid (show (toO ta tb).length = (chF ta tb).length by rw [toO, if_pos h10n, List.length_append, toO_len2])
      obtain ⟨Ax, cx, rfl, hRx⟩ := X4.out.row
      have RX := Lib.hid hRx
      obtain ⟨i0, hi, hz0, hz1, hz2⟩ := info_parts lineInfo
      have I0 := Lib.hid hi
      clear hi hRx hbad hll
      generalize hxs : toO ta tb = xs at *
      have HXS := Lib.hid hxs
      clear hxs
      have S0 := Lib.hid (show LnSt w4 (w4.alloc (.cells #[.int .i64 2, .slice none 0 0] 41)) (.slice none 0 0) [] from ⟨IsBlk.new _ _ _, World.ownsRow_nil _ _ _ _, below_bx _ _⟩)
      go_wp2
      go_loopw [7] (fun i wr => ∃ (k : Nat) (v : Value), k ≤ ta.length ∧ i = .int .i64 (k : Int) ∧ LnSt w4 wr v (List.replicate k oneL)) (fun i _ => ta.length - (intOf i).toNat)
      case atStart => exact ⟨0, _, by omega, rfl, S0.out⟩
      case round =>
        obtain ⟨k, v, hk, rfl, hst⟩ := hrel
        have S := Lib.hid hst
        clear hst S0
        obtain ⟨p0, p1, p2, p3⟩ := S.out.var.two
        have hlr : (List.replicate k oneL).length = k := List.length_replicate
        by_cases hlt : k < ta.length
        · have HS := Lib.hid (show List.replicate (k + 1) oneL = List.replicate k oneL ++ [oneL] from List.replicate_succ')
          have HLR := Lib.hid hlr
          clear hlr
          generalize List.replicate k oneL = ls at *
          go_wp2_with (
            at_builtin
            refine wpList_append_own _ rfl _ _ _ rfl (w4.heap.size + 1) 43 i0 (.agg #[.int .i64 0, .int .i64 0, .int .i64 0]) 3 24 Tryd.underlying39 I0.out hz0 hz1 hz2 rfl (by decide) _ _ _ rfl (World.ownsRow.alloc S.out.own _) ⟨wr.heap.size, 0, none⟩ 1 1 (fL oneL) rfl rfl ?c1 ?c2 ?c3 ?c4 ?c5 ?_
            case c1 => exact news_new wr oneL _
            case c2 => intro u hu; simp [fL] at hu; rcases hu with rfl | rfl | rfl <;> rfl
            case c3 => have := HLR.out; simp only [maxLen]; omega
            case c4 => have := HLR.out; omega
            case c5 => have := S.out.var.lt; simp; omega
            intro v' w8 hown hgrow _
            have hrow := OwnL.row (show OwnL w8 (w4.heap.size + 1) v' (ls ++ [oneL]) by show World.ownsRow _ _ _ _ _ (ls ++ [oneL]).length _; rw [List.length_append, List.flatMap_append, List.flatMap_singleton]; exact hown)
            obtain ⟨A8, c8, rfl, _⟩ := hrow
            have S8 := Lib.hid (S.out.push _ hown hgrow)
            obtain ⟨t0, t1, t2, t3⟩ := S8.out.2.two)
          go_roundw
          case rel =>
            have h := S8.out.1
            rw [show (ls ++ [oneL]).length = ls.length + 1 by simp] at h
            rw [← HS.out] at h
            exact ⟨k + 1, _, by omega, by go_num, h⟩
          case measure => simp [intOf]; omega
        · obtain rfl : k = ta.length := by omega
          obtain ⟨Al, cl, rfl, hRl⟩ := S.out.own.row
          have RL := Lib.hid hRl
          clear hRl
          rw [hlr] at RL
          have BW := Lib.hid (B4.out.trans (S.out.bel.mono B4.out.size))
          have hc := orderRun_any 2 Al ta.length cl (List.replicate ta.length oneL) Aa ta.length ca ta Ax xs.length cx xs wr (by omega) RL.out (by omega) (RA4.out.below S.out.bel) (by omega) (RX.out.below S.out.bel)
          rw [HR.out] at hc
          have HC := Lib.hid hc
          clear hc
          rw [hlr] at p1
          go_wp2_with fail
          refine HC.out.mono ?_
          rintro e w6 ⟨z, rfl, hZ, hb6⟩
          have B6 := Lib.hid (BW.out.trans (hb6.mono BW.out.size))
          have Z6 := Lib.hid hZ
          have RA6 := Lib.hid ((RA4.out.below S.out.bel).below hb6)
          have RB6 := Lib.hid ((RB4.out.below S.out.bel).below hb6)
          obtain ⟨Az, cz, rfl, _, hRz⟩ := hZ.row
          have RZ := Lib.hid hRz
          clear hZ hb6 hRz
          go_wp2_with fail
          refine (sameBools_same Az Ab tb.length cz cb tb _ (by omega) RZ.out RB6.out).mono ?_
          rintro e w7 ⟨rfl, hb7⟩
          have B7 := Lib.hid (B6.out.trans (hb7.mono B6.out.size))
          go_wp2_with fail
          refine (changes_any _ ta.length ca ta _ tb.length cb tb _ (by omega) (RA6.out.below hb7) (by omega) (RB6.out.below hb7)).mono ?_
          rintro e w8 ⟨u, rfl, hU, hb8⟩
          obtain ⟨Au, cu, rfl, _⟩ := OwnI.formR hU
          rw [← HT2.out]
          go_wp2
          go_ret
          exact ⟨rfl, B7.out.trans (hb8.mono B7.out.size)⟩
  · have hl2 : (1048576 : Int) < (n : Int) := by omega
    go_enter Tryd.func6, Tryd.ntmps6
    go_wp2
    go_ret
    exact ⟨rfl, Below.refl _ _⟩
end Go.Proofs.YtfedffekbemcoaaDoor
