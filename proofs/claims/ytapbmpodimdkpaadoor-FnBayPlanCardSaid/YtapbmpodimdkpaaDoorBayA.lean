/- Bays, of the program: allBays, the iterator over the sixteen bays. -/
import Derived.Test.YtapbmpodimdkpaaDoorBay9
import Derived.Test.YtapbmpodimdkpaaDoorBXB
import Derived.Laws.BitsLemmas
import Derived.Laws.Shifts
namespace Go.Proofs.YtapbmpodimdkpaaDoor
open Go.ChangeShapes Go.WideShapes Go.ChangeAt Go.RowKit Go.Shelf
attribute [local go_sem] Oper.semAt_some

theorem and1_9 (x : Int) (h0 : 0 ≤ x) (h1 : x < 9223372036854775808) : bits .and .i64 x 1 = x % 2 :=
  bits_mask .i64 63 (by decide) (fun n h0 h1 => by rw [IntKind.wrap_i64]; omega) 1 (by decide) x h0 (by omega)
theorem div_cast9 (m k : Nat) : (m : Int) / 2 ^ k = ((m / 2 ^ k : Nat) : Int) := by
  rw [Int.natCast_ediv, Int.natCast_pow]; rfl
theorem bit_at9 (m k : Nat) : ((((m / 2 ^ k : Nat) : Int) % 2) == 1) = decide (m / 2 ^ k % 2 = 1) := by
  generalize m / 2 ^ k = q
  rw [Bool.eq_iff_iff]; simp; omega
theorem bit_part : ∀ k, k < 16 → ∀ j, j < 4 → decide (k / 2 ^ j % 2 = 1) = partF (bayN k) j := by decide
/-- The bays ahead of a number. -/
def baysTo (k : Nat) : List B4 := (List.range k).map bayN
theorem baysTo_next (k : Nat) : baysTo (k + 1) = baysTo k ++ [bayN k] := by rw [baysTo, List.range_succ, List.map_append]; rfl
theorem part_ext {x y : B4} (h : ∀ i, i < 4 → partF x i = partF y i) : x = y := by
  obtain ⟨a, b, c, e⟩ := x
  obtain ⟨a', b', c', e'⟩ := y
  have h0 : a = a' := h 0 (by omega)
  have h1 : b = b' := h 1 (by omega)
  have h2 : c = c' := h 2 (by omega)
  have h3 : e = e' := h 3 (by omega)
  rw [h0, h1, h2, h3]
theorem part_set (x : B4) (j : Nat) (t : Bool) (hj : j < 4) (i : Nat) (hi : i < 4) : partF (setF x j t) i = if i = j then t else partF x i := by
  have h1 : j = 0 ∨ j = 1 ∨ j = 2 ∨ j = 3 := by omega
  have h2 : i = 0 ∨ i = 1 ∨ i = 2 ∨ i = 3 := by omega
  rcases h1 with rfl | rfl | rfl | rfl <;> rcases h2 with rfl | rfl | rfl | rfl <;> rfl
theorem grown_of_below {w w' : World} (h : Below w.heap.size w w') : w.grownBy w' none := ⟨h.os, h.tape, h.output, h.size, fun k hk _ => h.block k hk⟩

set_option maxRecDepth 100000 in
set_option maxHeartbeats 4000000 in
theorem allBays_in (n : Nat) (hn : 1 ≤ n) (l : Nat) (B : Nat) (J Jx : List B4 → World → Prop) (hJ : AbidesFrom B J)
    (hY : ∀ pre x W, J pre W → pre.length < 16 → YieldAt Fence.wide (n - 1) Tryd.prog l #[vB x] W fun e W' =>
      (e = .returned (.bool true) ∧ J (pre ++ [x]) W') ∨ (e = .returned (.bool false) ∧ Jx (pre ++ [x]) W'))
    (W : World) (h0 : J [] W) :
    CallsIn Fence.wide n Tryd.prog 55 #[.func (.yield l) #[] #[]] W fun e W' => (∃ v, e = .returned v) ∧ (J (baysTo 16) W' ∨ ∃ pre, Jx pre W') := by
  refine callsIn_of_wp Tryd.func55 rfl trivial ?_ rfl
  simp only [Tryd.ntmps55, List.size_toArray, List.length_cons, List.length_nil, Nat.reduceAdd, Nat.reduceSub, Array.replicate_succ, Array.replicate_zero, List.push_toArray, List.append_toArray, List.nil_append, List.cons_append]
  gi_wp2
  gi_loopw [5] (fun i wr => ∃ k : Nat, i = .int .i64 k ∧ k ≤ 16 ∧ J (baysTo k) wr) (fun i _ => 16 - (intOf i).toNat)
  case atStart => exact ⟨0, rfl, by omega, h0⟩
  case round =>
    obtain ⟨k, rfl, hk, hJk⟩ := hrel
    rename World => W0
    by_cases hlt : k < 16
    · have HJK := Lib.hid hJk
      have hdk : decide ((k : Int) < 16) = true := decide_eq_true (by omega)
      clear hJk
      gi_wp2
      gi_loopw [8] (fun i wr => ∃ (j : Nat) (x : B4), i = .int .i64 j ∧ j ≤ 4 ∧ Below W0.heap.size W0 wr ∧ IsBlk wr W0.heap.size 65 #[.bool x.1, .bool x.2.1, .bool x.2.2.1, .bool x.2.2.2] ∧ ∀ i, i < j → partF x i = partF (bayN k) i) (fun i _ => 4 - (intOf i).toNat)
      case atStart => exact ⟨0, (false, false, false, false), rfl, by omega, below_bx W0 _, IsBlk.new W0 _ _, fun i h => by omega⟩
      case round =>
        obtain ⟨j, x, rfl, hj, hbel, hblk, hpart⟩ := hrel
        by_cases hlj : j < 4
        · have hc := part_cell (a := x.1) (b := x.2.1) (c := x.2.2.1) (e := x.2.2.2) hblk hlj
          have hf := hblk.thaw j
          have HB := Lib.hid hblk
          have HP := Lib.hid hpart
          have HBEL := Lib.hid hbel
          have HBIT := Lib.hid (bit_part k hlt j hlj)
          have hmk : min j 64 = j := by omega
          have hq : k / 2 ^ j ≤ k := Nat.div_le_self _ _
          have hd := div_cast9 k j
          have hb := bit_at9 k j
          generalize k / 2 ^ j = q at *
          have ha := and1_9 (q : Int) (by omega) (by omega)
          generalize decide (q % 2 = 1) = bt at *
          clear hblk hpart hbel
          gi_wp2
          go_roundw
          case rel =>
            refine ⟨j + 1, setF x j bt, by go_num, by omega, HBEL.out.setCell (Nat.le_refl _) _, put_cell bt HB.out hlj, fun i hi => ?_⟩
            rw [part_set x j bt hlj i (by omega)]
            by_cases hij : i = j
            · rw [if_pos hij, hij]; exact HBIT.out
            · rw [if_neg hij]; exact HP.out i (by omega)
          case measure => simp [intOf]; omega
        · obtain rfl : j = 4 := by omega
          have hx : x = bayN k := part_ext hpart
          have hl16 : (baysTo k).length < 16 := by simp [baysTo]; omega
          obtain ⟨q0, q1, q2, q3, -⟩ := hblk.four
          rw [hx] at q0 q1 q2 q3
          have HBEL := Lib.hid hbel
          clear hx hblk hpart hbel
          gi_wp2_with (
            refine ⟨trivial, ?_⟩
            gi_at_call 45
            refine (callsIn_wide.2 (bayOf_any _ _ _ _ _)).mono ?_
            rintro z w5 ⟨rfl, hb5⟩
            have hJ5 := hJ _ _ _ none HJK.out (grown_of_below (HBEL.out.trans (hb5.mono HBEL.out.size))) (fun r e => by cases e)
            obtain ⟨fn, tmps, assign, body, hy, hR3⟩ := hY (baysTo k) (bayN k) w5 hJ5 hl16
            dsimp only [vB] at hy
            clear q0 q1 q2 q3)
          refine hR3.mono ?_
          rintro e W3 (⟨rfl, hJ3⟩ | ⟨rfl, hJx3⟩)
          · gi_wp2
            go_roundw
            case rel => exact ⟨k + 1, by go_num, by omega, by rw [baysTo_next]; exact hJ3⟩
            case measure => simp [intOf]; omega
          · gi_wp2
            refine bodyPost_ret (results_none rfl _ _ _) rfl ?_
            exact ⟨⟨_, rfl⟩, .inr ⟨_, hJx3⟩⟩
    · obtain rfl : k = 16 := by omega
      gi_wp2
      go_end0
      exact ⟨⟨_, rfl⟩, .inl hJk⟩
end Go.Proofs.YtapbmpodimdkpaaDoor
