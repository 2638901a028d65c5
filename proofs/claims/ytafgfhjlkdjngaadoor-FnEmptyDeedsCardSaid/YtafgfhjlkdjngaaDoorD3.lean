/- The laws' own helpers: the fixed answer, lists that are compared, and the drawing of a network alone. -/
import Derived.Test.YtafgfhjlkdjngaaDoorBCB
import Derived.Test.YtafgfhjlkdjngaaDoorBD1
namespace Go.Proofs.YtafgfhjlkdjngaaDoor
open Go.ChangeShapes Go.WideShapes Go.ChangeAt Go.RowKit

theorem netText_bad (bs : Int) (A : Option Addr) (n c : Nat) (ls : List L3) (w : World) (hn : n ≤ 1048576) (hr : RowL w A n ls) (hv : netOk bs ls = false) :
    Calls Tryd.prog 67 #[.agg #[.int .i64 bs, .slice A n c]] w fun e w' => e = .returned (.string ByteArray.empty) ∧ Below w.heap.size w w' := by
  have HV := Lib.hid hv
  have HR := Lib.hid hr
  clear hv hr
  go_enter Tryd.func67, Tryd.ntmps67
  go_wp2_with fail
  have hb0 := below_bx w (.cells #[.int .i64 bs, .slice A n c] 96)
  refine (netValid_any bs _ n c ls _ hn (HR.out.below hb0)).mono ?_
  rintro e w1 ⟨rfl, hb1⟩
  rw [HV.out]
  go_wp2
  go_ret
  exact ⟨rfl, hb0.trans (hb1.mono (by simp))⟩

theorem alive_any (w : World) :
    Calls Tryd.prog 18 #[] w fun e w' => e = .returned (.bool true) ∧ Below w.heap.size w w' := by
  have h1 : otherF 2 [(0, 1, 1)] 0 0 = 1 := by decide
  have h2 : netOk 0 [] = false := by decide
  have H1 := Lib.hid h1
  have H2 := Lib.hid h2
  clear h1 h2
  go_enter Tryd.func18, Tryd.ntmps18
  go_wp2_with fail
  have hk : IsBlk (w.alloc (.cells #[.int .i64 0, .int .i64 1, .int .i64 1] 93)) w.heap.size 93 (rowArr fL [(0, 1, 1)]) := IsBlk.new w _ _
  have HK := Lib.hid hk
  clear hk
  refine (otherEnd_any 2 _ 1 1 [(0, 1, 1)] 0 0 _ (by omega) (HK.out.row rfl)).mono ?_
  rintro e w1 ⟨rfl, hb1⟩
  rw [H1.out]
  go_wp2_with fail
  refine (netText_bad 0 none 0 0 [] _ (by omega) ⟨rfl, fun h => absurd h (by omega)⟩ H2.out).mono ?_
  rintro e w2 ⟨rfl, hb2⟩
  go_wp2
  go_ret
  exact ⟨rfl, ((below_bx w _).trans (hb1.mono (by simp))).trans (hb2.mono (by have := hb1.size; simp at this; omega))⟩
end Go.Proofs.YtafgfhjlkdjngaaDoor
