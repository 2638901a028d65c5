/- Slices of numbers in the exact laws: conversion, marks from any number on; Changes, of the program and of the model. -/
import Derived.Test.YtcgbigbbonlgfaaDoorB1
import Derived.Laws.MakeOwn
import Derived.Maps.AppendAt
import Derived.OwnWalk
import Derived.Deep.QuietTactic
import Derived.BigQuiet
import Derived.Outline
namespace Go.Proofs.YtcgbigbbonlgfaaDoor
open Go.ChangeShapes Go.WideShapes Go.ChangeAt Go.RowKit

theorem intInfo6 : (Tryd.prog.info? 3).map (fun i => (i.zero, i.size, i.bytes)) = some (some (.int .i64 0), 1, 8) := by kernel_rfl
theorem OwnI.mk_ {w : World} {base g n cap : Nat} {cur : Array Value} {zs : List Int} (hn : zs.length = n) (hb : base ≤ g) (hg : IsBlk w g 3 cur) (hc : n ≤ cap) (hm : cap ≤ maxLen) (hs : cur.size = cap) (ht : cur.toList.take n = zs.map (Value.int .i64)) : OwnI 3 w base (.slice (some ⟨g, 0, none⟩) n cap) zs := by
  subst hn
  exact ⟨by simp, .inr ⟨g, cap, cur, rfl, hb, hg, hc, hm, by omega, by rw [Nat.mul_one]; exact ht⟩⟩


theorem changes_any (A : Option Addr) (n c : Nat) (xs : List Bool) (B : Option Addr) (m d : Nat) (ys : List Bool) (w : World) (hn : n ≤ 1048576) (hr : RowT w A n xs) (hm : m ≤ 1048576) (hr' : RowT w B m ys) :
    Calls Tryd.prog 24 #[.slice A n c, .slice B m d] w fun e w' => ∃ v, e = .returned v ∧ OwnI 3 w' w.heap.size v (chF xs ys) ∧ Below w.heap.size w w' := by
  have HX := Lib.hid hr
  have HY := Lib.hid hr'
  have HLX := Lib.hid hr.len
  have HLY := Lib.hid hr'.len
  obtain ⟨i0, hi, hz0, hz1, hz2⟩ := info_parts intInfo6
  have HI := Lib.hid hi
  clear hr hr' hi
  by_cases hnm : n = m
  · subst hnm
    have HF := Lib.hid (show chF xs ys = chTo xs ys n by rw [chF, if_pos (by rw [HLX.out, HLY.out]), HLX.out])
    go_enter Tryd.func24, Tryd.ntmps24
    go_wp2
    go_loopw [5, 14] (fun v i wr => ∃ k : Nat, k ≤ n ∧ i = .int .i64 k ∧ OwnI 3 wr w.heap.size v (chTo xs ys k) ∧ Below w.heap.size w wr) (fun _ i _ => n - (intOf i).toNat)
    case atStart => exact ⟨0, by omega, rfl, World.ownsRow_nil _ _ _ _, Below.refl _ _⟩
    case round =>
      obtain ⟨k, hk, rfl, hown, hbel⟩ := hrel
      have HO := Lib.hid hown
      clear hown
      by_cases hlt : k < n
      · obtain ⟨b, off, x, rfl, hb, hkx, g0⟩ := HX.out.at_ hlt
        obtain ⟨b', off', y, rfl, hb', hky, g0'⟩ := HY.out.at_ hlt
        rw [← hbel.cell (p := ⟨b, off + k, none⟩) hb] at g0
        rw [← hbel.cell (p := ⟨b', off' + k, none⟩) hb'] at g0'
        have i0' : (0 : Int) ≤ (k : Int) := by omega
        have i1 : (k : Int) < (n : Int) := by omega
        have hlen : (chTo xs ys k).length ≤ k := chTo_len xs ys k
        by_cases hxy : x = y
        · subst hxy
          have HC := Lib.hid (chTo_no hkx hky rfl)
          clear hkx hky
          go_wp2
          go_quiet (fail)
          go_wp2
          go_roundw
          case rel => exact ⟨k + 1, by omega, by go_num, by rw [HC.out]; exact HO.out.drewN _, below_drewN hbel _⟩
          case measure => simp [intOf]; omega
        · have HC := Lib.hid (chTo_yes hkx hky (by simpa using hxy))
          have hyx : y = !x := by cases x <;> cases y <;> simp_all
          subst hyx
          clear hkx hky hxy
          cases x
          all_goals
            go_wp2
            go_quiet (fail)
            rename_i nq
            go_wp2_with (
              at_builtin
              refine wpList_append_own _ rfl _ _ _ rfl w.heap.size 3 i0 (.int .i64 0) 1 8 Tryd.underlying43 HI.out hz0 hz1 hz2 rfl (by decide) _ _ _ rfl (World.ownsRow.alloc (HO.out.drewN nq) _) ⟨wr.heap.size, 0, none⟩ 1 1 [.int .i64 (k : Int)] rfl rfl ?c1 ?c2 ?c3 ?c4 ?c5 ?_
              case c1 => exact cell_one_new _ _ _
              case c2 => intro u hu; simp at hu; subst hu; rfl
              case c3 => simp only [maxLen]; omega
              case c4 => omega
              case c5 => have := hbel.size; simp; omega
              intro v' w3 hown' hgrow _
              have hb3 : Below w.heap.size w w3 := ((below_drewN hbel nq).alloc hbel.size _).grown hgrow (by have := hbel.size; simp; omega) (fun q hq => (World.ownsRow.lt HO.out q hq).1))
            go_roundw
            case rel => exact ⟨k + 1, by omega, by go_num, by rw [HC.out]; simpa [OwnI] using hown', hb3⟩
            case measure => simp [intOf]; omega
      · go_wp2
        go_ret
        obtain rfl : k = n := by omega
        exact ⟨_, rfl, by rw [HF.out]; exact HO.out, hbel⟩
  · have HF := Lib.hid (show chF xs ys = [] by rw [chF, if_neg (by rw [HLX.out, HLY.out]; exact hnm)])
    have hne : ((n : Int) == (m : Int)) = false := by simp; omega
    have hne' : ((n : Int) != (m : Int)) = true := by simp; omega
    clear hnm
    go_enter Tryd.func24, Tryd.ntmps24
    go_wp2
    go_ret
    exact ⟨_, rfl, by rw [HF.out]; exact OwnI.nil, Below.refl _ _⟩
end Go.Proofs.YtcgbigbbonlgfaaDoor
