/- The laws' own helpers of chapter 3: a line off and on, how many islands. -/
import Derived.Test.YtbhlkcnkijihcaaDoorBCC
import Derived.Test.YtbhlkcnkijihcaaDoorJ1
namespace Go.Proofs.YtbhlkcnkijihcaaDoor
open Go.ChangeShapes Go.WideShapes Go.ChangeAt Go.RowKit

theorem offOn_any (bs : Int) (A : Option Addr) (n c : Nat) (ls : List L3) (B : Option Addr) (m d : Nat) (ts : List Bool) (line : Int) (w : World) (hn : n ≤ 1048576) (hr : RowL w A n ls) (hm : m ≤ 1048576) (hrt : RowT w B m ts) :
    Calls Tryd.prog 31 #[.agg #[.int .i64 bs, .slice A n c], .slice B m d, .int .i64 line] w fun e w' => ∃ v u, e = .returned (.tuple #[v, u]) ∧ OwnT w' w.heap.size v (swF bs ls ts line false) ∧ OwnT w' w.heap.size u (swF bs ls ts line true) ∧ Below w.heap.size w w' := by
  have HR := Lib.hid hr
  have HT := Lib.hid hrt
  clear hr hrt
  go_enter Tryd.func31, Tryd.ntmps31
  go_wp2_with fail
  have hb0 := below_bx w (.cells #[.int .i64 bs, .slice A n c] 25)
  have HR1 := Lib.hid (HR.out.below hb0)
  have HT1 := Lib.hid (HT.out.below hb0)
  have k1 := Lib.hid (IsBlk.new w 25 #[.int .i64 bs, .slice A n c])
  refine (switchLine_any bs _ n c ls _ m d ts line false _ hn HR1.out hm HT1.out).mono ?_
  rintro e w1 ⟨v, rfl, hO, hb1⟩
  have a1 : Below w.heap.size w w1 := hb0.trans (hb1.mono hb0.size)
  have HR2 := Lib.hid (HR1.out.below hb1)
  have HT2 := Lib.hid (HT1.out.below hb1)
  have k2 := Lib.hid (k1.out.keep hb1)
  have O1 := Lib.hid (hO.more hb0.size)
  obtain ⟨p0, p1, p2, p3⟩ := k2.out.two
  obtain ⟨A1, c1, rfl, _, _⟩ := hO.row
  clear hO
  go_wp2_with fail
  refine (switchLine_any bs _ n c ls _ m d ts line true _ hn HR2.out hm HT2.out).mono ?_
  rintro e w2 ⟨u, rfl, hO2, hb2⟩
  have a2 : Below w.heap.size w w2 := a1.trans (hb2.mono a1.size)
  have O2 := Lib.hid (hO2.more a1.size)
  have O1' := Lib.hid (O1.out.keep hb2)
  obtain ⟨A2, c2, rfl, _, _⟩ := hO2.row
  clear hO2
  go_wp2
  go_ret2
  exact ⟨_, _, rfl, O1'.out, O2.out, a2⟩
end Go.Proofs.YtbhlkcnkijihcaaDoor
