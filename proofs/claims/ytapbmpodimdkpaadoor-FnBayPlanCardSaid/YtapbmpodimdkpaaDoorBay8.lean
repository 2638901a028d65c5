/- Bays, of the program: the laws of a map keyed by bays at the operations; deedToward. -/
import Derived.Test.YtapbmpodimdkpaaDoorBay7
namespace Go.Proofs.YtapbmpodimdkpaaDoor
open Go.ChangeShapes Go.WideShapes Go.ChangeAt Go.RowKit Go.Maps

theorem look_num {D : DataW Unit} {b : B4} {v : Nat} {c : Int} (h1 : D.atKey (kB b) (.lit (.int .i64 0)) = .lit (.int .i64 (v : Int))) (h2 : D.atKey (kB b) (.lit (.int .i64 0)) = .lit (.int .i64 c)) : c = v := by
  rw [h1] at h2; injection h2 with h2; injection h2 with _ h2; exact h2.symm
section
variable (w : World) {ops : Array Oper} {rest : List Oper} {o : Oper} {a : Act} {Q : Exit → Act → World → Prop}
theorem wpList_look_some (hg : o.guard = none) (m x : Operand) (hop : o.op = Op.lookup 73 m x true) (B c : Nat) (M : B4 → Option Nat) (hM : MapSt w B M c) (b : B4) (v : Nat) (hb : M b = some v)
    (hm : a.eval m = .map (some B)) (hx : a.eval x = vB b) (hK : wpList Tryd.prog ops Q rest (a.put o.dst (.tuple #[.int .i64 (v : Int), .bool true])) w) : wpList Tryd.prog ops Q (o :: rest) a w := by
  obtain ⟨D, hD, hs, hall⟩ := hM
  refine wpList_lookup_own_ok_int w hg m x _ hop 24 3 .i64 lawBay Tryd.underlying73 Tryd.underlying3 (zeroInt _) B c D hm hD (vB b) (kB b) hx (key_bay b) fun c' hat _ => ?_
  rw [look_num ((hall b).2 v hb) hat, (hall b).1, hb]
  exact hK
theorem wpList_look_none (hg : o.guard = none) (m x : Operand) (hop : o.op = Op.lookup 73 m x true) (B c : Nat) (M : B4 → Option Nat) (hM : MapSt w B M c) (b : B4) (hb : M b = none)
    (hm : a.eval m = .map (some B)) (hx : a.eval x = vB b) (hK : wpList Tryd.prog ops Q rest (a.put o.dst (.tuple #[.int .i64 0, .bool false])) w) : wpList Tryd.prog ops Q (o :: rest) a w := by
  obtain ⟨D, hD, hs, hall⟩ := hM
  refine wpList_lookup_own_ok_int w hg m x _ hop 24 3 .i64 lawBay Tryd.underlying73 Tryd.underlying3 (zeroInt _) B c D hm hD (vB b) (kB b) hx (key_bay b) fun c' hat _ => ?_
  have h0 := atKey_of_not_has (D := D) (k := kB b) (by rw [(hall b).1, hb]; rfl) (.lit (.int .i64 0))
  rw [look_num (v := 0) h0 hat, (hall b).1, hb]
  exact hK
theorem wpList_look_at (hg : o.guard = none) (m x : Operand) (hop : o.op = Op.lookup 73 m x false) (B c : Nat) (M : B4 → Option Nat) (hM : MapSt w B M c) (b : B4) (v : Nat) (hb : M b = some v)
    (hm : a.eval m = .map (some B)) (hx : a.eval x = vB b) (hK : wpList Tryd.prog ops Q rest (a.put o.dst (.int .i64 (v : Int))) w) : wpList Tryd.prog ops Q (o :: rest) a w := by
  obtain ⟨D, hD, hs, hall⟩ := hM
  refine wpList_lookup_own_int w hg m x _ hop 24 3 .i64 lawBay Tryd.underlying73 Tryd.underlying3 (zeroInt _) B c D hm hD (vB b) (kB b) hx (key_bay b) fun c' hat _ => ?_
  rw [look_num ((hall b).2 v hb) hat]
  exact hK
end
section
variable {F : Fence} {nF : Nat} (w : World) {ops : Array Oper} {rest : List Oper} {o : Oper} {a : Act} {Q : Exit → Act → World → Prop}
theorem wpListIn_look_some (hg : o.guard = none) (m x : Operand) (hop : o.op = Op.lookup 73 m x true) (B c : Nat) (M : B4 → Option Nat) (hM : MapSt w B M c) (b : B4) (v : Nat) (hb : M b = some v)
    (hm : a.eval m = .map (some B)) (hx : a.eval x = vB b) (hK : wpListIn F nF Tryd.prog ops Q rest (a.put o.dst (.tuple #[.int .i64 (v : Int), .bool true])) w) : wpListIn F nF Tryd.prog ops Q (o :: rest) a w := by
  obtain ⟨D, hD, hs, hall⟩ := hM
  refine wpListIn_lookup_own_ok_int w hg m x _ hop 24 3 .i64 lawBay Tryd.underlying73 Tryd.underlying3 (zeroInt _) B c D hm hD (vB b) (kB b) hx (key_bay b) fun c' hat _ => ?_
  rw [look_num ((hall b).2 v hb) hat, (hall b).1, hb]
  exact hK
theorem wpListIn_look_none (hg : o.guard = none) (m x : Operand) (hop : o.op = Op.lookup 73 m x true) (B c : Nat) (M : B4 → Option Nat) (hM : MapSt w B M c) (b : B4) (hb : M b = none)
    (hm : a.eval m = .map (some B)) (hx : a.eval x = vB b) (hK : wpListIn F nF Tryd.prog ops Q rest (a.put o.dst (.tuple #[.int .i64 0, .bool false])) w) : wpListIn F nF Tryd.prog ops Q (o :: rest) a w := by
  obtain ⟨D, hD, hs, hall⟩ := hM
  refine wpListIn_lookup_own_ok_int w hg m x _ hop 24 3 .i64 lawBay Tryd.underlying73 Tryd.underlying3 (zeroInt _) B c D hm hD (vB b) (kB b) hx (key_bay b) fun c' hat _ => ?_
  have h0 := atKey_of_not_has (D := D) (k := kB b) (by rw [(hall b).1, hb]; rfl) (.lit (.int .i64 0))
  rw [look_num (v := 0) h0 hat, (hall b).1, hb]
  exact hK
theorem wpListIn_put (hg : o.guard = none) (m x v : Operand) (hop : o.op = Op.mapUpdate 73 m x v) (B c : Nat) (M : B4 → Option Nat) (hM : MapSt w B M c) (hc : c ≤ 1000) (b : B4) (hb : M b = none) (z : Nat) (hz : z ≤ 1000)
    (hm : a.eval m = .map (some B)) (hx : a.eval x = vB b) (hv : a.eval v = .int .i64 (z : Int))
    (hK : ∀ w', MapSt w' B (fun y => if y = b then some z else M y) (c + 1) → w.grownBy w' (some B) → wpListIn F nF Tryd.prog ops Q rest (a.put o.dst undef) w') : wpListIn F nF Tryd.prog ops Q (o :: rest) a w := by
  obtain ⟨D, hD, hs, hall⟩ := hM
  exact wpListIn_mapUpdate_own w hg m x v _ hop 24 3 lawBay Tryd.underlying73 _ B c D hm hD (by unfold maxLen; omega) (vB b) _ (kB b) hx hv (key_bay b) _ [] (plainElem_int Tryd.underlying3 (i64_wf hz))
    fun w' h1 h2 => hK w' (put_map hb hD.isMap (hD.tidy lawBay) hs hall h1) h2
end
theorem wpList_ins (w : World) {ops : Array Oper} {rest : List Oper} {o : Oper} {a : Act} {Q : Exit → Act → World → Prop} (hg : o.guard = none) (m x v : Operand) (hop : o.op = Op.insert 73 m x v) (B c : Nat) (M : B4 → Option Nat) (hM : MapSt w B M c) (hc : c ≤ 1000) (b : B4) (hb : M b = none) (z : Nat) (hz : z ≤ 1000)
    (hm : a.eval m = .map (some B)) (hx : a.eval x = vB b) (hv : a.eval v = .int .i64 (z : Int))
    (hK : ∀ w', MapSt w' B (fun y => if y = b then some z else M y) (c + 1) → w.grownBy w' (some B) → wpList Tryd.prog ops Q rest (a.put o.dst undef) w') : wpList Tryd.prog ops Q (o :: rest) a w := by
  obtain ⟨D, hD, hs, hall⟩ := hM
  refine wpList_plain hg fun K' hK' => ?_
  obtain ⟨w', hrun, r1, r2⟩ := hD.update lawBay Tryd.underlying73 (show c < maxLen by unfold maxLen; omega) (key_bay b) (plainElem_int Tryd.underlying3 (i64_wf hz))
  unfold Oper.wp
  simp [execOp, hop, hm, hx, hv, hrun, Result.andThen]
  exact hK' _ _ (hK w' (put_map hb hD.isMap (hD.tidy lawBay) hs hall r1) r2)
theorem len_map {w : World} {B c : Nat} {M : B4 → Option Nat} (hM : MapSt w B M c) (ty : TypeId) : (Builtin.len_ #[73] ty #[.map (some B)]).run Tryd.prog w = .ok (.int .i64 (c : Int)) w := by
  obtain ⟨D, hD, hs, hall⟩ := hM
  have := hD.len Tryd.underlying73 ty
  rw [hs] at this
  exact this
end Go.Proofs.YtapbmpodimdkpaaDoor
