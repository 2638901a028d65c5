/- Conversions of the exact laws: a network of the law's types becomes one of the program's, in new memory. -/
import Derived.Test.YtfedffekbemcoaaDoorBCA
import Derived.Laws.MakeOwn
import Derived.OwnWalk
namespace Go.Proofs.YtfedffekbemcoaaDoor
open Go.ChangeShapes Go.WideShapes Go.ChangeAt Go.RowKit

theorem lineInfo : (Tryd.prog.info? 43).map (fun i => (i.zero, i.size, i.bytes)) = some (some (.agg #[.int .i64 0, .int .i64 0, .int .i64 0]), 3, 24) := by kernel_rfl
theorem makeLines (n : Nat) (hn : n ≤ 1048576) (w : World) : (Instr.makeSlice 39 (.int .i64 (n : Int)) (.int .i64 (n : Int))).run Tryd.prog w = .ok (.slice (some ⟨w.heap.size, 0, none⟩) n n) (w.alloc (.cells (rowArr fL (List.replicate n (0, 0, 0))) 43)) := by
  obtain ⟨i0, hi, hz0, hz1, hz2⟩ := info_parts lineInfo
  have := run_make (P := Tryd.prog) w 39 43 i0 _ Tryd.underlying39 hi hz0 .i64 .i64 n n (by omega) (by omega) (by rw [hz2]; omega) (by omega)
  rw [this, Int.toNat_natCast, hz1, madeCells_row (f := fL) fL_len (Value.agg #[.int .i64 0, .int .i64 0, .int .i64 0]).cells (0, 0, 0) rfl (by omega)]

end Go.Proofs.YtfedffekbemcoaaDoor
