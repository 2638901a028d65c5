/- Busbars: the drawings of bars, of bars and a deed, a bay and a bar, a bar. -/
import Derived.Test.YtpcefbebknjkiaaDoorBrF
namespace Go.Proofs.YtpcefbebknjkiaaDoor
open Go.ChangeShapes Go.WideShapes Go.ChangeAt Go.RowKit

/-- Bars that were drawn: a value of the call's own, one to seven sides. -/
def DrawnR (w w' : World) (A : Option Addr) (n c : Nat) (ss : List Int) : Prop := ss.length = n ∧ 1 ≤ n ∧ n ≤ 7 ∧ OwnI 3 w' w.heap.size (.slice A n c) ss ∧ Below w.heap.size w w'

set_option maxHeartbeats 4000000 in
theorem drawBarsValid_any (A : Option Addr) (n c : Nat) (code : List Int) (w : World) (hr : RowB w A n code) (hnc : n ≤ c) (hc : c ≤ 9223372036854775807) :
    Calls Tryd.prog 8 #[.slice A n c] w fun x w' => ∃ A n c ss t, x = .returned (.agg #[.slice A n c, .bool t]) ∧ DrawnR w w' A n c ss := by
  have K0 := Lib.hid (IsBlk.new w 25 #[.slice none 0 0, .bool false])
  have a0 := below_bx w (.cells #[.slice none 0 0, .bool false] 25)
  go_enter Tryd.func8, Tryd.ntmps8
  go_wp2_with fail
  refine (open_any A n c code _ (hr.allocR _) hnc hc).mono ?_
  rintro x w1 ⟨rfl, hb1, hr1, hs1⟩
  have K1 := Lib.hid (K0.out.keep hb1)
  have a1 := Lib.hid (a0.trans (hb1.mono a0.size))
  simp only [World.size_alloc] at hr1 hs1
  clear hr hb1 a0 K0
  go_wp2_with fail
  refine (l20Bars_any (w.heap.size + 1) 2 0 (by decide) (by decide) _ hr1).mono ?_
  rintro x w2 ⟨A1, n1, c1, ss, t, rfl, hl, hn1, hn7, hO, hr2, hg2⟩
  have K2 := Lib.hid (K1.out.farG hg2 (fun e => by injection e with e; omega))
  have a2 := Lib.hid (a1.out.grown hg2 a1.out.size (fun k e => by injection e with e; omega))
  have hsz : w.heap.size + 1 ≤ w1.heap.size := by omega
  have O2 := Lib.hid (OwnI.moreR (base' := w.heap.size + 1) hO hsz)
  clear hr1 hr2 hg2 K1 a1 hO
  obtain ⟨p0, p1, f0, f1⟩ := K2.out.two
  go_wp2
  refine bodyPost_ret (v := .agg #[.slice A1 n1 c1, .bool t]) (by simp [results, Tryd.results8, go_sem, p0, p1]) rfl ⟨A1, n1, c1, ss, t, rfl, hl, hn1, hn7, ?_, below_two a2.out (Nat.le_refl _) _ _⟩
  exact OwnI.ret2 (OwnI.moreR O2.out (by omega)) (fun q hq => by have := (OwnI.lt O2.out q hq).1; omega) _ _
end Go.Proofs.YtpcefbebknjkiaaDoor
