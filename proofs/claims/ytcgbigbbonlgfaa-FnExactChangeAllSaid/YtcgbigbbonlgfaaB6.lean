/- Slices of numbers in the exact laws: conversion, marks from any number on; Changes, of the program and of the model. -/
import Derived.Test.YtcgbigbbonlgfaaA11
import Derived.Test.YtcgbigbbonlgfaaB1
import Derived.Laws.MakeOwn
import Derived.Maps.AppendAt
import Derived.OwnWalk
import Derived.Deep.QuietTactic
import Derived.BigQuiet
import Derived.Outline
namespace Go.Proofs.Ytcgbigbbonlgfaa
open Go.ChangeShapes Go.WideShapes Go.ChangeAt Go.RowKit

theorem intInfo6 : (Try.prog.info? 3).map (fun i => (i.zero, i.size, i.bytes)) = some (some (.int .i64 0), 1, 8) := by kernel_rfl
theorem OwnI.mk_ {w : World} {base g n cap : Nat} {cur : Array Value} {zs : List Int} (hn : zs.length = n) (hb : base ≤ g) (hg : IsBlk w g 3 cur) (hc : n ≤ cap) (hm : cap ≤ maxLen) (hs : cur.size = cap) (ht : cur.toList.take n = zs.map (Value.int .i64)) : OwnI 3 w base (.slice (some ⟨g, 0, none⟩) n cap) zs := by
  subst hn
  exact ⟨by simp, .inr ⟨g, cap, cur, rfl, hb, hg, hc, hm, by omega, by rw [Nat.mul_one]; exact ht⟩⟩

theorem makeInts (n : Nat) (hn : n ≤ 1048576) (w : World) : (Instr.makeSlice 45 (.int .i64 (n : Int)) (.int .i64 (n : Int))).run Try.prog w = .ok (.slice (some ⟨w.heap.size, 0, none⟩) n n) (w.alloc (.cells (madeCells (Value.int .i64 0).cells n) 3)) := by
  obtain ⟨i0, hi, hz0, hz1, hz2⟩ := info_parts intInfo6
  have := run_make (P := Try.prog) w 45 3 i0 _ Try.underlying45 hi hz0 .i64 .i64 n n (by omega) (by omega) (by rw [hz2]; omega) (by omega)
  rw [this, Int.toNat_natCast, hz1, Nat.mul_one]
theorem toIntS_any (A : Option Addr) (n c : Nat) (zs : List Int) (w : World) (hn : n ≤ 1048576) (hr : RowZ w A n zs) :
    Calls Try.prog 31 #[.slice A n c] w fun e w' => e = .returned (.slice (some ⟨w.heap.size, 0, none⟩) n n) ∧ OwnI 3 w' w.heap.size (.slice (some ⟨w.heap.size, 0, none⟩) n n) zs ∧ Below w.heap.size w w' ∧ w.heap.size < w'.heap.size := by
  have hmk := makeInts n hn
  have HR := Lib.hid hr
  have HL := Lib.hid hr.len
  clear hr
  go_enter Try.func31, Try.ntmps31
  go_wp2
  clear hmk
  go_loopw [4] (fun i wr => ∃ k : Nat, k ≤ n ∧ i = .int .i64 k ∧ Below w.heap.size w wr ∧ ∃ cu : Array Value, IsBlk wr w.heap.size 3 cu ∧ cu.size = n ∧ cu.toList.take k = (zs.take k).map (Value.int .i64)) (fun i _ => n - (intOf i).toNat)
  case atStart => exact ⟨0, by omega, rfl, below_bx _ _, _, IsBlk.new w _ _, size_madeCells _ _, by simp⟩
  case round =>
    obtain ⟨k, hk, rfl, hbel, cu, hblk, hsz, htk⟩ := hrel
    by_cases hlt : k < n
    · obtain ⟨b, off, t, rfl, hb, hkt, g0⟩ := HR.out.at_ hlt
      rw [← hbel.cell (p := ⟨b, off + k, none⟩) hb] at g0
      have hkc : k < cu.size := by omega
      have c0 : wr.cell? ⟨w.heap.size, k, none⟩ = some cu[k] := (hblk.cell k).trans (Array.getElem?_eq_getElem hkc)
      have f0 : wr.frozen? ⟨w.heap.size, k, none⟩ = false := hblk.thaw k
      generalize cu[k] = u at c0
      have HB := Lib.hid hblk
      have HS := Lib.hid hsz
      have HK := Lib.hid htk
      have HT := Lib.hid hkt
      clear hblk hsz htk hkt
      go_wp2
      go_roundw
      case rel =>
        refine ⟨k + 1, by omega, by go_num, hbel.setCell (Nat.le_refl _) _, _, HB.out.put k _, by simp [HS.out], ?_⟩
        rw [take_set1 _ _ _ hkc, HK.out, List.take_add_one, HT.out, List.map_append]; rfl
      case measure => simp [intOf]; omega
    · go_wp2
      go_ret
      obtain rfl : k = n := by omega
      refine ⟨rfl, OwnI.mk_ HL.out (Nat.le_refl _) hblk (Nat.le_refl _) (by simp only [maxLen]; omega) hsz ?_, hbel, hblk.lt⟩
      rw [htk, ← HL.out, List.take_length]

theorem eqIntS_own {v v' : Value} {zs : List Int} {w : World} {b b' : Nat} (hn : zs.length ≤ 1048576) (h : OwnI 3 w b v zs) (h' : OwnI 3 w b' v' zs) :
    Calls Try.prog 27 #[v, v'] w fun e w' => e = .returned (.bool true) ∧ Below w.heap.size w w' := eqIntS_same v v' zs w hn h.row h'.row

theorem markIntS_gen (v : Value) (zs : List Int) (base : Nat) (k0 : Int) (hk0 : 1 ≤ k0) (hk1 : k0 ≤ 100000000) (w : World) (hn : zs.length ≤ 1048576) (hr : OwnI 3 w base v zs) :
    Calls Try.prog 28 #[v, .int .i64 k0] w fun e w' => e = .returned (.int .i64 (k0 + zs.length)) ∧ OwnI 3 w' base v (fromI k0 zs.length) ∧ w.grownBy w' v.ownBlock := by
  rcases hr.2 with ⟨rfl, hz⟩ | ⟨g, cap, cur, rfl, hb, hg, hnc, hc, hsz, ht⟩
  · have hx : zs = [] := List.eq_nil_of_length_eq_zero hz
    subst hx
    go_enter Try.func28, Try.ntmps28
    go_wp2
    go_loop [5, 1] (fun i j => i = .int .i64 0 ∧ j = .int .i64 k0) (fun _ _ => 0)
    case atStart => exact ⟨rfl, rfl⟩
    case round =>
      obtain ⟨rfl, rfl⟩ := hrel
      go_wp2
      go_ret
      exact ⟨retI (by simp), hr, World.grownBy.refl _ _⟩
  · generalize hlen : zs.length = n at *
    have HG := Lib.hid (show IsBlk w g 3 cur from hg)
    have hcur : n ≤ cur.size := by omega
    have HSZ := Lib.hid hsz
    clear hr hg ht hlen hsz
    go_enter Try.func28, Try.ntmps28
    go_wp2
    go_loopw [5, 1] (fun i j wr => ∃ k : Nat, k ≤ n ∧ i = .int .i64 k ∧ j = .int .i64 (k0 + k) ∧ w.grownBy wr (some g) ∧ ∃ cu : Array Value, IsBlk wr g 3 cu ∧ cu.size = cur.size ∧ cu.toList.take k = (fromI k0 k).map (Value.int .i64)) (fun i _ _ => n - (intOf i).toNat)
    case atStart => exact ⟨0, by omega, rfl, by simp, World.grownBy.refl _ _, cur, HG.out, rfl, by simp [fromI]⟩
    case round =>
      obtain ⟨k, hk, rfl, rfl, hgr, cu, hblk, hsz, htk⟩ := hrel
      by_cases hlt : k < n
      · have hkc : k < cu.size := by omega
        have c0 : wr.cell? ⟨g, k, none⟩ = some cu[k] := (hblk.cell k).trans (Array.getElem?_eq_getElem hkc)
        have f0 : wr.frozen? ⟨g, k, none⟩ = false := hblk.thaw k
        generalize cu[k] = u at c0
        have HB := Lib.hid hblk
        have HS := Lib.hid hsz
        have HK := Lib.hid htk
        clear hblk hsz htk
        go_wp2
        go_roundw
        case rel =>
          refine ⟨k + 1, by omega, by go_num, by go_num, grown_then hgr (grown_put _ _ _ _), _, HB.out.put k _, by simp [HS.out], ?_⟩
          rw [take_set1 _ _ _ hkc, HK.out, fromI_succ, List.map_append]; rfl
        case measure => simp [intOf]; omega
      · go_wp2
        go_ret
        obtain rfl : k = n := by omega
        exact ⟨rfl, OwnI.mk_ (fromI_len _ _) hb hblk hnc hc (by rw [hsz]; simpa using HSZ.out) htk, hgr⟩
theorem heldIntS_gen (v : Value) (m : Nat) (base : Nat) (k0 : Int) (hk0 : 1 ≤ k0) (hk1 : k0 ≤ 100000000) (w : World) (hn : m ≤ 1048576) (hr : OwnI 3 w base v (fromI k0 m)) :
    Calls Try.prog 29 #[v, .int .i64 k0] w fun e w' => e = .returned (.int .i64 (k0 + m)) ∧ w = w' := by
  obtain ⟨A, c, rfl, HA⟩ := hr.row
  rw [fromI_len] at *
  have HC := Lib.hid HA
  clear HA
  go_enter Try.func29, Try.ntmps29
  go_wp2
  go_loop [5, 1] (fun i j => ∃ k : Nat, k ≤ m ∧ i = .int .i64 k ∧ j = .int .i64 (k0 + k)) (fun i _ => m - (intOf i).toNat)
  case atStart => exact ⟨0, by omega, rfl, by simp⟩
  case round =>
    obtain ⟨k, hk, rfl, rfl⟩ := hrel
    by_cases hlt : k < m
    · obtain ⟨g, rfl, hb, HD⟩ := HC.out (by omega)
      have g0 := HD k _ (fromI_get hlt)
      simp only [Nat.zero_add] at g0
      clear HD
      go_wp2
      go_round
      case rel => exact ⟨k + 1, by omega, by go_num, by go_num⟩
      case measure => simp [intOf]; omega
    · go_wp2
      go_ret
      obtain rfl : k = m := by omega
      exact ⟨rfl, rfl⟩

theorem changes_any (A : Option Addr) (n c : Nat) (xs : List Bool) (B : Option Addr) (m d : Nat) (ys : List Bool) (w : World) (hn : n ≤ 1048576) (hr : RowT w A n xs) (hm : m ≤ 1048576) (hr' : RowT w B m ys) :
    Calls Try.prog 26 #[.slice A n c, .slice B m d] w fun e w' => ∃ v, e = .returned v ∧ OwnI 3 w' w.heap.size v (chF xs ys) ∧ Below w.heap.size w w' := by
  have HX := Lib.hid hr
  have HY := Lib.hid hr'
  have HLX := Lib.hid hr.len
  have HLY := Lib.hid hr'.len
  obtain ⟨i0, hi, hz0, hz1, hz2⟩ := info_parts intInfo6
  have HI := Lib.hid hi
  clear hr hr' hi
  by_cases hnm : n = m
  · subst hnm
    have HF := Lib.hid (show chF xs ys = chTo xs ys n by rw [chF, if_pos (by rw [HLX.out, HLY.out]), HLX.out])
    go_enter Try.func26, Try.ntmps26
    go_wp2
    go_loopw [5, 14] (fun v i wr => ∃ k : Nat, k ≤ n ∧ i = .int .i64 k ∧ OwnI 3 wr w.heap.size v (chTo xs ys k) ∧ Below w.heap.size w wr) (fun _ i _ => n - (intOf i).toNat)
    case atStart => exact ⟨0, by omega, rfl, World.ownsRow_nil _ _ _ _, Below.refl _ _⟩
    case round =>
      obtain ⟨k, hk, rfl, hown, hbel⟩ := hrel
      have HO := Lib.hid hown
      clear hown
      by_cases hlt : k < n
      · obtain ⟨b, off, x, rfl, hb, hkx, g0⟩ := HX.out.at_ hlt
        obtain ⟨b', off', y, rfl, hb', hky, g0'⟩ := HY.out.at_ hlt
        rw [← hbel.cell (p := ⟨b, off + k, none⟩) hb] at g0
        rw [← hbel.cell (p := ⟨b', off' + k, none⟩) hb'] at g0'
        have i0' : (0 : Int) ≤ (k : Int) := by omega
        have i1 : (k : Int) < (n : Int) := by omega
        have hlen : (chTo xs ys k).length ≤ k := chTo_len xs ys k
        by_cases hxy : x = y
        · subst hxy
          have HC := Lib.hid (chTo_no hkx hky rfl)
          clear hkx hky
          go_wp2
          go_quiet (fail)
          go_wp2
          go_roundw
          case rel => exact ⟨k + 1, by omega, by go_num, by rw [HC.out]; exact HO.out.drewN _, below_drewN hbel _⟩
          case measure => simp [intOf]; omega
        · have HC := Lib.hid (chTo_yes hkx hky (by simpa using hxy))
          have hyx : y = !x := by cases x <;> cases y <;> simp_all
          subst hyx
          clear hkx hky hxy
          cases x
          all_goals
            go_wp2
            go_quiet (fail)
            rename_i nq
            go_wp2_with (
              at_builtin
              refine wpList_append_own _ rfl _ _ _ rfl w.heap.size 3 i0 (.int .i64 0) 1 8 Try.underlying45 HI.out hz0 hz1 hz2 rfl (by decide) _ _ _ rfl (World.ownsRow.alloc (HO.out.drewN nq) _) ⟨wr.heap.size, 0, none⟩ 1 1 [.int .i64 (k : Int)] rfl rfl ?c1 ?c2 ?c3 ?c4 ?c5 ?_
              case c1 => exact cell_one_new _ _ _
              case c2 => intro u hu; simp at hu; subst hu; rfl
              case c3 => simp only [maxLen]; omega
              case c4 => omega
              case c5 => have := hbel.size; simp; omega
              intro v' w3 hown' hgrow _
              have hb3 : Below w.heap.size w w3 := ((below_drewN hbel nq).alloc hbel.size _).grown hgrow (by have := hbel.size; simp; omega) (fun q hq => (World.ownsRow.lt HO.out q hq).1))
            go_roundw
            case rel => exact ⟨k + 1, by omega, by go_num, by rw [HC.out]; simpa [OwnI] using hown', hb3⟩
            case measure => simp [intOf]; omega
      · go_wp2
        go_ret
        obtain rfl : k = n := by omega
        exact ⟨_, rfl, by rw [HF.out]; exact HO.out, hbel⟩
  · have HF := Lib.hid (show chF xs ys = [] by rw [chF, if_neg (by rw [HLX.out, HLY.out]; exact hnm)])
    have hne : ((n : Int) == (m : Int)) = false := by simp; omega
    have hne' : ((n : Int) != (m : Int)) = true := by simp; omega
    clear hnm
    go_enter Try.func26, Try.ntmps26
    go_wp2
    go_ret
    exact ⟨_, rfl, by rw [HF.out]; exact OwnI.nil, Below.refl _ _⟩
end Go.Proofs.Ytcgbigbbonlgfaa
