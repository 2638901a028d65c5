/- The laws' own helpers of chapter 3: a line off and on, how many islands. -/
import Derived.Test.YtcdliaabbhoagaaDoorBCC
import Derived.Test.YtcdliaabbhoagaaDoorJ1
namespace Go.Proofs.YtcdliaabbhoagaaDoor
open Go.ChangeShapes Go.WideShapes Go.ChangeAt Go.RowKit

theorem islands_any (bs : Int) (A : Option Addr) (n c : Nat) (ls : List L3) (B : Option Addr) (m d : Nat) (ts : List Bool) (w : World) (hn : n ≤ 1048576) (hr : RowL w A n ls) (hm : m ≤ 1048576) (hrt : RowT w B m ts) :
    Calls Tryd.prog 11 #[.agg #[.int .i64 bs, .slice A n c], .slice B m d] w fun e w' => e = .returned (.int .i64 (iofF bs ls ts).length) ∧ Below w.heap.size w w' := by
  have HR := Lib.hid hr
  have HT := Lib.hid hrt
  clear hr hrt
  go_enter Tryd.func11, Tryd.ntmps11
  go_wp2_with fail
  refine (iof_any bs _ n c ls _ m d ts _ hn (HR.out.below (below_bx w _)) hm (HT.out.below (below_bx w _))).mono ?_
  rintro e w1 ⟨v, rfl, hO, hb1⟩
  have a1 : Below w.heap.size w w1 := (below_bx w _).trans (hb1.mono (by simp))
  obtain ⟨A1, c1, rfl⟩ := hO.form
  clear hO
  go_wp2
  go_ret
  exact ⟨rfl, a1⟩

end Go.Proofs.YtcdliaabbhoagaaDoor
