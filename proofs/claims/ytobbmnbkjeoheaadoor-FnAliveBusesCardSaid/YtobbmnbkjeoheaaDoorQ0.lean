/- The numbers of the buses apart, of the program. -/
import Derived.Test.YtobbmnbkjeoheaaDoorI2
import Derived.Test.YtobbmnbkjeoheaaDoorB6
import Derived.Test.YtobbmnbkjeoheaaDoorB5
import Derived.ScopeJumps
import Derived.Deep.DeepCutAuto
import Derived.Laws.Small
import Derived.WalkMore
import Derived.StillTailTactics
import Derived.Deep.RegionHeld3
namespace Go.Proofs.YtobbmnbkjeoheaaDoor
open Go.ChangeShapes Go.WideShapes Go.ChangeAt Go.RowKit

theorem makeIntsN (n : Nat) (hn : n ≤ 1048576) (w : World) : (Instr.makeSlice 42 (.int .i64 (n : Int)) (.int .i64 (n : Int))).run Tryd.prog w = .ok (.slice (some ⟨w.heap.size, 0, none⟩) n n) (w.alloc (.cells (madeCells (Value.int .i64 0).cells n) 3)) := by
  obtain ⟨i0, hi, hz0, hz1, hz2⟩ := info_parts intInfo6
  have := run_make (P := Tryd.prog) w 42 3 i0 _ Tryd.underlying42 hi hz0 .i64 .i64 n n (by omega) (by omega) (by rw [hz2]; omega) (by omega)
  rw [this, Int.toNat_natCast, hz1, Nat.mul_one]

def intsB (zs : List Nat) : Array Value := ((ofN zs).map (Value.int .i64)).toArray
theorem intsB_set (zs : List Nat) (a z : Nat) : (intsB zs).setIfInBounds a (.int .i64 (z : Int)) = intsB (zs.set a z) := by
  apply Array.ext'
  simp [intsB, ofN, List.map_set]

set_option maxRecDepth 100000 in
theorem apart_any (nb : Nat) (hnb : nb ≤ 1048576) (w : World) : Calls Tryd.prog 57 #[.int .i64 (nb : Int)] w fun e w' => e = .returned (.slice (some ⟨w.heap.size, 0, none⟩) nb nb) ∧ IsBlk w' w.heap.size 3 (intsB (List.range nb)) ∧ Below w.heap.size w w' := by
  have hmk := makeIntsN nb hnb
  go_enter Tryd.func57, Tryd.ntmps57
  go_wp2
  clear hmk
  go_loopw [9] (fun i wr => ∃ k : Nat, k ≤ nb ∧ i = .int .i64 k ∧ Below w.heap.size w wr ∧ ∃ cu : Array Value, IsBlk wr w.heap.size 3 cu ∧ cu.size = nb ∧ cu.toList.take k = (ofN (List.range k)).map (Value.int .i64)) (fun i _ => nb - (intOf i).toNat)
  case atStart => exact ⟨0, by omega, rfl, below_bx _ _, _, IsBlk.new w _ _, size_madeCells _ _, by simp [ofN]⟩
  case round =>
    obtain ⟨k, hk, rfl, hbel, cu, hblk, hsz, htk⟩ := hrel
    by_cases hlt : k < nb
    · have hkc : k < cu.size := by omega
      have c0 : wr.cell? ⟨w.heap.size, k, none⟩ = some cu[k] := (hblk.cell k).trans (Array.getElem?_eq_getElem hkc)
      have f0 : wr.frozen? ⟨w.heap.size, k, none⟩ = false := hblk.thaw k
      generalize cu[k] = u at c0
      have HB := Lib.hid hblk
      have HS2 := Lib.hid hsz
      have HK := Lib.hid htk
      clear hblk hsz htk
      go_wp2
      go_roundw
      case rel =>
        refine ⟨k + 1, by omega, by go_num, hbel.setCell (Nat.le_refl _) _, _, HB.out.put k _, by simp [HS2.out], ?_⟩
        rw [take_set1 _ _ _ hkc, HK.out, List.range_succ]; simp [ofN]
      case measure => simp [intOf]; omega
    · obtain rfl : k = nb := by omega
      have hcu : cu = intsB (List.range k) := by
        apply Array.ext'
        rw [List.take_of_length_le (by simp; omega)] at htk
        rw [htk]; simp [intsB]
      subst hcu
      have HB := Lib.hid hblk
      have HL := Lib.hid hbel
      clear hblk hsz htk hbel
      go_wp2
      go_ret
      exact ⟨rfl, HB.out, HL.out⟩
end Go.Proofs.YtobbmnbkjeoheaaDoor
