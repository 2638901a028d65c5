/- The exact law of StateOf: the walk (written by program). -/
import Derived.Test.YtcgbigbbonlgfaaB1
import Derived.Test.YtcgbigbbonlgfaaB4
import Derived.Deep.DeepCutAuto
namespace Go.Proofs.Ytcgbigbbonlgfaa
open Go.ChangeShapes Go.WideShapes Go.ChangeAt Go.RowKit

set_option maxHeartbeats 4000000 in
theorem exactStateOf_walk (w : World) (x0 : Int) (x1 : Int) :
    Calls Try.prog 5 #[.int .i64 x0, .int .i64 x1] w fun e w' => e = .returned (.bool true) ∧ Below w.heap.size w w' := by
  go_enter Try.func5, Try.ntmps5
  go_wp2_with fail
  refine (specStateOf_any x0 x1 _).mono ?_
  rintro e w1 ⟨vW, rfl, hO, hb1⟩
  try simp only [World.size_alloc] at hO
  have a1 : Below w.heap.size w w1 := hb1
  have Z1 := Lib.hid (show w.heap.size ≤ w1.heap.size by have := hb1.size; (try simp at this); omega)
  have BW := Lib.hid hO.lt
  have W_0 := Lib.hid hO
  clear hO
  go_wp2_with fail
  refine (stateOf_any x0 x1 _).mono ?_
  rintro e w2 ⟨vG, rfl, hO, hb2⟩
  try simp only [World.size_alloc] at hO
  have a2 : Below w.heap.size w w2 := a1.trans (hb2.mono a1.size)
  have Z2 := Lib.hid (show w1.heap.size ≤ w2.heap.size by have := hb2.size; (try simp at this); omega)
  have W_1 := Lib.hid (W_0.out.keep hb2)
  clear W_0
  have BG := Lib.hid hO.lt
  have G_0 := Lib.hid hO
  clear hO
  go_wp2_with fail
  refine (eqBoolS_own (Nat.le_trans (stOfF_len _ _) (by decide)) G_0.out W_1.out).mono ?_
  rintro e w3 ⟨rfl, hb3⟩
  have a3 : Below w.heap.size w w3 := a2.trans (hb3.mono a2.size)
  have Z3 := Lib.hid (show w2.heap.size ≤ w3.heap.size by have := hb3.size; (try simp at this); omega)
  have W_2 := Lib.hid (W_1.out.keep hb3)
  clear W_1
  have G_1 := Lib.hid (G_0.out.keep hb3)
  clear G_0
  go_wp2_with fail
  refine (markBoolS_any _ _ _ 1 (by omega) (by omega) _ (Nat.le_trans (stOfF_len _ _) (by decide)) G_1.out).mono ?_
  rintro e w4 ⟨rfl, hO, hg4⟩
  have a4 : Below w.heap.size w w4 := a3.grown hg4 a3.size (fun q hq => by have := Z1.out; have := Z2.out; have := Z3.out; have := BG.out _ hq; omega)
  have Z4 := Lib.hid (show w3.heap.size ≤ w4.heap.size by have := hg4.size; (try simp at this); omega)
  have W_3 := Lib.hid (W_2.out.far hg4 (fun q hq e => by have := Z1.out; have := Z2.out; have := Z3.out; have := Z4.out; have := BG.out _ e; have := BW.out q hq; omega))
  clear W_2
  clear G_1
  have G_2 := Lib.hid hO
  clear hO
  have hlr : (stOfF x0 x1).length ≤ 1048576 := (Nat.le_trans (stOfF_len _ _) (by decide))
  have hm2 : ¬ ((1 : Int) + ((stOfF x0 x1).length : Int) < 0) := by omega
  go_wp2_with fail
  refine (heldBoolS_any _ _ _ 1 (by omega) (by omega) _ hlr G_2.out).mono ?_
  rintro e w' ⟨rfl, rfl⟩
  go_wp2_with fail
  refine (stateOf_any x0 x1 _).mono ?_
  rintro e w6 ⟨vH, rfl, hO, hb6⟩
  try simp only [World.size_alloc] at hO
  have a6 : Below w.heap.size w w6 := a4.trans (hb6.mono a4.size)
  have Z6 := Lib.hid (show w4.heap.size ≤ w6.heap.size by have := hb6.size; (try simp at this); omega)
  have W_4 := Lib.hid (W_3.out.keep hb6)
  clear W_3
  have G_3 := Lib.hid (G_2.out.keep hb6)
  clear G_2
  have BH := Lib.hid hO.lt
  have H_0 := Lib.hid hO
  clear hO
  go_wp2_with fail
  refine (eqBoolS_own (Nat.le_trans (stOfF_len _ _) (by decide)) H_0.out W_4.out).mono ?_
  rintro e w7 ⟨rfl, hb7⟩
  have a7 : Below w.heap.size w w7 := a6.trans (hb7.mono a6.size)
  have Z7 := Lib.hid (show w6.heap.size ≤ w7.heap.size by have := hb7.size; (try simp at this); omega)
  have W_5 := Lib.hid (W_4.out.keep hb7)
  clear W_4
  have G_4 := Lib.hid (G_3.out.keep hb7)
  clear G_3
  have H_1 := Lib.hid (H_0.out.keep hb7)
  clear H_0
  go_wp2_with fail
  refine (heldBoolS_any _ _ _ 1 (by omega) (by omega) _ hlr G_4.out).mono ?_
  rintro e w' ⟨rfl, rfl⟩
  go_wp2
  go_ret
  exact ⟨rfl, a7⟩
end Go.Proofs.Ytcgbigbbonlgfaa
