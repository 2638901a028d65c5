/- Index, Contains, Reverse of the package slices at slices of numbers, as the program has them. -/
import Derived.Test.YtcfnkjblhhmbeaaDoorBCC
import Derived.Test.YtcfnkjblhhmbeaaDoorBPC
import Derived.RegionTactic
namespace Go.Proofs.YtcfnkjblhhmbeaaDoor
open Go.ChangeShapes Go.WideShapes Go.ChangeAt Go.RowKit

theorem index_any (A : Option Addr) (n c : Nat) (zs : List Int) (x : Int) (w : World) (hn : n ≤ 1048576) (hr : RowZ w A n zs) :
    Calls Tryd.prog 72 #[.slice A n c, .int .i64 x] w fun e w' => ∃ z : Int, e = .returned (.int .i64 z) ∧ decide (0 ≤ z) = decide (x ∈ zs) ∧ w = w' := by
  have HR := Lib.hid hr
  have HL := Lib.hid hr.len
  clear hr
  go_enter Tryd.func72, Tryd.ntmps72
  go_wp2
  go_loop [8] (fun i => ∃ k : Nat, k ≤ n ∧ i = .int .i64 k ∧ ∀ j, j < k → ∀ y, zs[j]? = some y → y ≠ x) (fun i => n - (intOf i).toNat)
  case atStart => exact ⟨0, by omega, rfl, by intro j hj; omega⟩
  case round =>
    obtain ⟨k, hk, rfl, hno⟩ := hrel
    have HN := Lib.hid hno
    clear hno
    by_cases hlt : k < n
    · obtain ⟨b, off, y, rfl, hb, hky, g0⟩ := HR.out.at_ hlt
      have HK := Lib.hid hky
      have q0 : (0 : Int) ≤ (k : Int) := by omega
      have q1 : (k : Int) < (n : Int) := by omega
      clear hky
      by_cases hx : x = y
      · subst hx
        go_wp2
        go_ret
        refine ⟨(k : Int), rfl, ?_, rfl⟩
        try rw [decide_eq_decide]
        exact ⟨fun _ => List.mem_of_getElem? HK.out, fun _ => by omega⟩
      · have hxb : (x == y) = false := by simpa using hx
        go_wp2
        go_round
        case rel =>
          refine ⟨k + 1, by omega, by go_num, fun j hj z hz => ?_⟩
          rcases Nat.lt_or_ge j k with h1 | h1
          · exact HN.out j h1 z hz
          · obtain rfl : j = k := by omega
            rw [HK.out] at hz; cases hz; exact fun e => hx e.symm
        case measure => simp [intOf]; omega
    · go_wp2
      go_ret
      obtain rfl : k = n := by omega
      refine ⟨-1, rfl, ?_, rfl⟩
      try rw [decide_eq_decide]
      refine ⟨fun h => absurd h (by omega), fun hm => ?_⟩
      obtain ⟨j, hj, he⟩ := List.getElem_of_mem hm
      exact absurd he (HN.out j (by have := HL.out; omega) _ (List.getElem?_eq_getElem hj))

theorem contains_any (A : Option Addr) (n c : Nat) (zs : List Int) (x : Int) (w : World) (hn : n ≤ 1048576) (hr : RowZ w A n zs) :
    Calls Tryd.prog 55 #[.slice A n c, .int .i64 x] w fun e w' => e = .returned (.bool (decide (x ∈ zs))) ∧ w = w' := by
  go_enter Tryd.func55, Tryd.ntmps55
  go_wp2_with fail
  refine (index_any A n c zs x _ hn hr).mono ?_
  rintro e w1 ⟨z, rfl, hz, rfl⟩
  go_wp2
  go_ret
  exact ⟨retB (by rw [← hz]), rfl⟩

/-- Reversed from both ends up to k. -/
def revTo (zs : List Int) (k : Nat) : List Int := (zs.reverse.take k) ++ ((zs.drop k).take (zs.length - 2 * k)) ++ (zs.reverse.drop (zs.length - k))
theorem revTo_zero (zs : List Int) : revTo zs 0 = zs := by simp [revTo]
theorem revTo_len {zs : List Int} {k : Nat} (h : 2 * k ≤ zs.length) : (revTo zs k).length = zs.length := by simp [revTo]; omega
theorem revTo_get {zs : List Int} {k j : Nat} (h : 2 * k ≤ zs.length) (hj : j < zs.length) : (revTo zs k)[j]? = if k ≤ j ∧ j < zs.length - k then zs[j]? else zs[zs.length - 1 - j]? := by
  unfold revTo
  rcases Nat.lt_or_ge j k with h1 | h1
  · rw [if_neg (by omega), List.append_assoc, List.getElem?_append_left (by simp; omega), List.getElem?_take_of_lt h1, List.getElem?_reverse hj]
  · rcases Nat.lt_or_ge j (zs.length - k) with h2 | h2
    · rw [if_pos ⟨h1, h2⟩, List.append_assoc, List.getElem?_append_right (by simp; omega), List.getElem?_append_left (by simp; omega), List.getElem?_take_of_lt (by simp; omega), List.getElem?_drop]
      congr 1; simp; omega
    · rw [if_neg (by omega), List.getElem?_append_right (by simp; omega), List.getElem?_drop, List.getElem?_reverse (by simp; omega)]
      congr 1; simp; omega
theorem revTo_all {zs : List Int} {k : Nat} (h : 2 * k ≤ zs.length) (h2 : zs.length ≤ 2 * k + 1) : revTo zs k = zs.reverse := by
  apply List.ext_getElem?
  intro j
  rcases Nat.lt_or_ge j zs.length with hj | hj
  · rw [revTo_get h hj, List.getElem?_reverse hj]
    by_cases e : k ≤ j ∧ j < zs.length - k
    · rw [if_pos e]; congr 1; omega
    · rw [if_neg e]
  · rw [List.getElem?_eq_none (by rw [revTo_len h]; exact hj), List.getElem?_eq_none (by simpa using hj)]
theorem revTo_succ {zs : List Int} {k : Nat} (h : 2 * k + 2 ≤ zs.length) {x y : Int} (hx : (revTo zs k)[k]? = some x) (hy : (revTo zs k)[zs.length - 1 - k]? = some y) : revTo zs (k + 1) = ((revTo zs k).set k y).set (zs.length - 1 - k) x := by
  have hl := revTo_len (zs := zs) (k := k) (by omega)
  rw [revTo_get (by omega) (by omega), if_pos (by omega)] at hx
  rw [revTo_get (by omega) (by omega), if_pos (by omega)] at hy
  apply List.ext_getElem?
  intro j
  rcases Nat.lt_or_ge j zs.length with hj | hj
  · rw [revTo_get (by omega) hj, List.getElem?_set, List.getElem?_set, List.length_set, hl]
    by_cases e1 : zs.length - 1 - k = j
    · rw [if_pos e1, if_pos (show zs.length - 1 - k < zs.length by omega), if_neg (by omega), ← hx]; congr 1; omega
    · rw [if_neg e1]
      by_cases e2 : k = j
      · rw [if_pos e2, if_pos (show k < zs.length by omega), if_neg (by omega), ← hy]; congr 1; omega
      · rw [if_neg e2, revTo_get (by omega) hj]
        by_cases e3 : k ≤ j ∧ j < zs.length - k
        · rw [if_pos e3, if_pos (by omega)]
        · rw [if_neg e3, if_neg (by omega)]
  · rw [List.getElem?_eq_none (by rw [revTo_len (by omega)]; exact hj), List.getElem?_eq_none (by rw [List.length_set, List.length_set, hl]; exact hj)]

/-- A slice of the call's own, written in place: which block, and what is left when two cells are exchanged. -/
theorem OwnI.at2 {w : World} {base : Nat} {v : Value} {zs : List Int} {i j : Nat} (h : OwnI 3 w base v zs) (_hi : i < zs.length) (hj : j < zs.length) : ∃ g cap, v = .slice (some ⟨g, 0, none⟩) zs.length cap ∧ base ≤ g ∧ g < w.heap.size ∧
    (∀ k, w.frozen? ⟨g, k, none⟩ = false) ∧ (∀ k x, zs[k]? = some x → w.cell? ⟨g, k, none⟩ = some (.int .i64 x)) ∧
    ∀ (x y : Int) (d : World), d = w ∨ d = w.drew → OwnI 3 ((d.setCell ⟨g, i, none⟩ (.int .i64 y)).setCell ⟨g, j, none⟩ (.int .i64 x)) base v ((zs.set i y).set j x) := by
  rcases h.2 with ⟨_, h0⟩ | ⟨g, cap, cur, h1, hb, hg, hn, hc, hsz, ht⟩
  · omega
  · have hB : IsBlk w g 3 cur := hg
    refine ⟨g, cap, h1, hb, hB.lt, fun k => hB.thaw k, fun k x hk => ?_, fun x y d hd => ?_⟩
    · have hlt : k < zs.length := (List.getElem?_eq_some_iff.1 hk).1
      rw [hB.cell, ← Array.getElem?_toList]
      have e : (cur.toList.take (zs.length * 1))[k]? = some (.int .i64 x) := by rw [ht, List.getElem?_map, hk]; rfl
      rw [List.getElem?_take_of_lt (by omega)] at e
      exact e
    · have hD : IsBlk d g 3 cur := by rcases hd with rfl | rfl <;> exact hB
      refine ⟨by simp, .inr ⟨g, cap, _, by rw [h1]; simp, hb, (hD.put i _).put j _, by simpa using hn, hc, by simpa using hsz, ?_⟩⟩
      simp only [List.length_set]
      rw [Array.toList_setIfInBounds, Array.toList_setIfInBounds, List.take_set, List.take_set, ht, List.map_set, List.map_set]

set_option maxRecDepth 100000 in
set_option maxHeartbeats 1000000 in
theorem reverse_any (base : Nat) (v : Value) (zs : List Int) (w : World) (hn : zs.length ≤ 1048576) (hr : OwnI 3 w base v zs) (hbs : base ≤ w.heap.size) :
    Calls Tryd.prog 69 #[v] w fun e w' => e = .returned (.tuple #[]) ∧ OwnI 3 w' base v zs.reverse ∧ Below base w w' := by
  rcases Nat.eq_zero_or_pos zs.length with h0 | h0
  · obtain rfl : zs = [] := List.eq_nil_of_length_eq_zero h0
    have HR := Lib.hid hr
    obtain ⟨A, c, rfl, _⟩ := (show ∃ A c, v = .slice A 0 c ∧ True by
      rcases hr.2 with ⟨h1, _⟩ | ⟨g, cap, cur, h1, _⟩
      · exact ⟨_, _, h1, trivial⟩
      · exact ⟨_, _, h1, trivial⟩)
    clear hr hn h0
    go_enter Tryd.func69, Tryd.ntmps69
    go_wp2
    go_loopw [2, 3] (fun i j wr => i = .int .i64 0 ∧ j = .int .i64 (-1) ∧ wr = w) (fun _ _ _ => 0)
    case atStart => exact ⟨rfl, rfl, rfl⟩
    case round =>
      obtain ⟨rfl, rfl, rfl⟩ := hrel
      go_wp2
      go_end0
      exact ⟨rfl, HR.out, Below.refl _ _⟩
  · obtain ⟨g, cap, rfl, hbg, hgl, _, _, _⟩ := hr.at2 h0 h0
    have HR := Lib.hid hr
    have hw1 : IntKind.i64.wrap ((zs.length : Int) - 1) = (zs.length : Int) - 1 := IntWalk.i64_in _ (by omega)
    clear hr
    generalize hm : zs.length = m at *
    have HM := Lib.hid hm
    clear hm
    go_enter Tryd.func69, Tryd.ntmps69
    go_wp2
    go_loopw [2, 3] (fun i j wr => ∃ k l : Nat, l + k + 1 = m ∧ k ≤ l + 1 ∧ i = .int .i64 k ∧ j = .int .i64 l ∧ OwnI 3 wr base (.slice (some ⟨g, 0, none⟩) m cap) (revTo zs k) ∧ Below base w wr) (fun i _ _ => m - (intOf i).toNat)
    case atStart => exact ⟨0, m - 1, by omega, by omega, rfl, by congr 1; omega, by rw [revTo_zero]; exact HR.out, Below.refl _ _⟩
    case round =>
      obtain ⟨k, l, hkl, hk, rfl, rfl, hown, hbel⟩ := hrel
      by_cases hlt : k < l
      · have hl := revTo_len (zs := zs) (k := k) (by have := HM.out; omega)
        rw [HM.out] at hl
        have hsz : g < wr.heap.size := Nat.lt_of_lt_of_le hgl hbel.size
        obtain ⟨g', cap', e, _, _, hfz, hcl, hput⟩ := hown.at2 (i := k) (j := l) (by omega) (by omega)
        injection e with e1 e2 e3
        injection e1 with e1
        injection e1 with e1
        subst e1 e3
        obtain ⟨x, hxk⟩ : ∃ x, (revTo zs k)[k]? = some x := ⟨_, List.getElem?_eq_getElem (by omega)⟩
        obtain ⟨y, hyk⟩ : ∃ y, (revTo zs k)[l]? = some y := ⟨_, List.getElem?_eq_getElem (by omega)⟩
        have hrs := revTo_succ (zs := zs) (k := k) (x := x) (y := y) (by have := HM.out; omega) hxk (by rw [show zs.length - 1 - k = l by have := HM.out; omega]; exact hyk)
        rw [show zs.length - 1 - k = l by have := HM.out; omega] at hrs
        have HS := Lib.hid hrs
        have c0 := hcl k x hxk
        have c1 := hcl l y hyk
        have f0 := hfz k
        have f1 := hfz l
        have HP := Lib.hid (hput x y)
        have i0 : (0 : Int) ≤ (k : Int) := by omega
        have i1 : (k : Int) < (m : Int) := by omega
        have i2 : (0 : Int) ≤ (l : Int) := by omega
        have i3 : (l : Int) < (m : Int) := by omega
        clear hrs hfz hcl hput hxk hyk hown hl e2
        go_wp2
        go_region
        all_goals go_wp2
        all_goals go_roundw
        case rel =>
          refine ⟨k + 1, l - 1, by omega, by omega, by go_num, by congr 1; omega, ?_, ?_⟩
          · rw [HS.out]; exact HP.out wr (.inl rfl)
          · exact ((hbel.setCell hbg _).setCell hbg _).drew
        case measure => simp [intOf]; omega
      · have hown2 := hown
        rw [revTo_all (by have := HM.out; omega) (by have := HM.out; omega)] at hown2
        have HO2 := Lib.hid hown2
        clear hown hown2
        go_wp2
        go_end0
        exact ⟨rfl, HO2.out, hbel⟩
end Go.Proofs.YtcfnkjblhhmbeaaDoor
