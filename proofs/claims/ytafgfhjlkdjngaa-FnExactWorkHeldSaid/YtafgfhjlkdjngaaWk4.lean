/- Permits: where a permit stands; valid work, of the program. -/
import Derived.Test.YtafgfhjlkdjngaaWk1
import Derived.Test.YtafgfhjlkdjngaaWk3
import Derived.Test.YtafgfhjlkdjngaaBCA
import Derived.Laws.StructEq
import Derived.BigQuiet
import Derived.RegionTactic
import Derived.Deep.RegionWith
namespace Go.Proofs.Ytafgfhjlkdjngaa
open Go.ChangeShapes Go.WideShapes Go.ChangeAt Go.RowKit

/-! Two permits, two deeds are held against each other -/
theorem eqTwo (t : TypeId) (hp : Try.prog.stoodInHeld t = false) (ht : Try.prog.underlying t = some (.struct (Try.prog.fieldsOf t))) (hf : (Try.prog.fieldsOf t).toList.map (fun f => (f.name == "_", f.type, f.offset)) = [(false, 3, 0), (false, 3, 1)]) (x y x' y' : Int) (w : World) :
    (Op.equalIn 10000 t (.agg #[.int .i64 x, .int .i64 y]) (.agg #[.int .i64 x', .int .i64 y'])).run Try.prog w = .ok (decide ((x, y) = (x', y'))) w := by
  rw [run_equalIn_agg w 9999 t _ _ ht hp]
  obtain ⟨f0, f1, hfs⟩ : ∃ f0 f1, (Try.prog.fieldsOf t).toList = [f0, f1] := by
    match h : (Try.prog.fieldsOf t).toList with
    | [] => rw [h] at hf; simp at hf
    | [a] => rw [h] at hf; simp at hf
    | [a, b] => exact ⟨a, b, rfl⟩
    | a :: b :: c :: r => rw [h] at hf; simp at hf
  rw [hfs] at hf ⊢
  simp at hf
  obtain ⟨⟨h1, h2, h3⟩, h4, h5, h6⟩ := hf
  simp [Op.eqFields, h1, h2, h3, h4, h5, h6, go_sem]
  by_cases e1 : x = x' <;> by_cases e2 : y = y' <;> simp [e1, e2]
theorem eqThree (t : TypeId) (hp : Try.prog.stoodInHeld t = false) (ht : Try.prog.underlying t = some (.struct (Try.prog.fieldsOf t))) (hf : (Try.prog.fieldsOf t).toList.map (fun f => (f.name == "_", f.type, f.offset)) = [(false, 3, 0), (false, 3, 1), (false, 3, 2)]) (x y z x' y' z' : Int) (w : World) :
    (Op.equalIn 10000 t (.agg #[.int .i64 x, .int .i64 y, .int .i64 z]) (.agg #[.int .i64 x', .int .i64 y', .int .i64 z'])).run Try.prog w = .ok (decide ((x, y, z) = (x', y', z'))) w := by
  rw [run_equalIn_agg w 9999 t _ _ ht hp]
  obtain ⟨f0, f1, f2, hfs⟩ : ∃ f0 f1 f2, (Try.prog.fieldsOf t).toList = [f0, f1, f2] := by
    match h : (Try.prog.fieldsOf t).toList with
    | [] => rw [h] at hf; simp at hf
    | [a] => rw [h] at hf; simp at hf
    | [a, b] => rw [h] at hf; simp at hf
    | [a, b, c] => exact ⟨a, b, c, rfl⟩
    | a :: b :: c :: d :: r => rw [h] at hf; simp at hf
  rw [hfs] at hf ⊢
  simp at hf
  obtain ⟨⟨h1, h2, h3⟩, ⟨h4, h5, h6⟩, h7, h8, h9⟩ := hf
  simp [Op.eqFields, h1, h2, h3, h4, h5, h6, h7, h8, h9, go_sem]
  by_cases e1 : x = x' <;> by_cases e2 : y = y' <;> by_cases e3 : z = z' <;> simp [e1, e2, e3]
theorem eqlJ (x y x' y' : Int) (w : World) : (binOp .eql 66 (.agg #[.int .i64 x, .int .i64 y]) (.agg #[.int .i64 x', .int .i64 y'])).run Try.prog w = .ok (.bool (decide ((x, y) = (x', y')))) w := by
  rw [run_eql_struct, eqTwo 66 (by kernel_rfl) (by kernel_rfl) (by kernel_rfl)]; rfl
theorem neqJ (x y x' y' : Int) (w : World) : (binOp .neq 66 (.agg #[.int .i64 x, .int .i64 y]) (.agg #[.int .i64 x', .int .i64 y'])).run Try.prog w = .ok (.bool (!decide ((x, y) = (x', y')))) w := by
  rw [run_neq_struct, eqTwo 66 (by kernel_rfl) (by kernel_rfl) (by kernel_rfl)]; rfl
theorem neqH (x y z x' y' z' : Int) (w : World) : (binOp .neq 75 (.agg #[.int .i64 x, .int .i64 y, .int .i64 z]) (.agg #[.int .i64 x', .int .i64 y', .int .i64 z'])).run Try.prog w = .ok (.bool (!decide ((x, y, z) = (x', y', z')))) w := by
  rw [run_neq_struct, eqThree 75 (by kernel_rfl) (by kernel_rfl) (by kernel_rfl)]; rfl

theorem indexJ_any (A : Option Addr) (n c : Nat) (ps : List TJ) (x y : Int) (w : World) (hn : n ≤ 1048576) (hr : RowJ w A n ps) :
    Calls Try.prog 58 #[.slice A n c, .agg #[.int .i64 x, .int .i64 y]] w fun e w' => e = .returned (.int .i64 (findW ps (x, y))) ∧ Below w.heap.size w w' := by
  have HR := Lib.hid hr
  have HL := Lib.hid hr.len
  have K0 := Lib.hid (IsBlk.new w 66 #[.int .i64 x, .int .i64 y])
  clear hr
  go_enter Try.func58, Try.ntmps58
  go_wp2
  go_loopw [8] (fun i wr => ∃ k : Nat, k ≤ n ∧ i = .int .i64 k ∧ (∀ j, j < k → ∀ p, ps[j]? = some p → p ≠ (x, y)) ∧ Below (w.heap.size + 1) (w.alloc (.cells #[.int .i64 x, .int .i64 y] 66)) wr) (fun i _ => n - (intOf i).toNat)
  case atStart => exact ⟨0, by omega, rfl, by intro j hj; omega, Below.refl _ _⟩
  case round =>
    obtain ⟨k, hk, rfl, hno, hbel⟩ := hrel
    have HN := Lib.hid hno
    have hb0 : Below w.heap.size w wr := (below_bx w _).trans (hbel.mono (by omega))
    obtain ⟨p0, p1, -⟩ := (K0.out.below hbel (by omega)).two
    clear hno
    by_cases hlt : k < n
    · obtain ⟨b, off, p, rfl, hb, hkp, g0, g1⟩ := HR.out.at_ hlt
      rw [← hb0.cell (p := ⟨b, off + k * 2, none⟩) hb] at g0
      rw [← hb0.cell (p := ⟨b, off + k * 2 + 1, none⟩) hb] at g1
      have HK := Lib.hid hkp
      clear hkp
      obtain ⟨x', y'⟩ := p
      simp only at g0 g1
      have q0 : (0 : Int) ≤ (k : Int) := by omega
      have q1 : (k : Int) < (n : Int) := by omega
      have he := eqlJ x y x' y'
      by_cases hxy : (x, y) = (x', y')
      · rw [decide_eq_true hxy] at he
        go_wp2
        go_quiet (fail)
        go_wp2
        go_ret
        exact ⟨retI (findW_at (p := (x, y)) (by rw [HK.out, hxy]) HN.out).symm, below_drewN hb0 _⟩
      · rw [decide_eq_false hxy] at he
        have HXY := Lib.hid hxy
        clear hxy
        go_wp2
        go_quiet (fail)
        go_wp2
        go_roundw
        case rel =>
          refine ⟨k + 1, by omega, by go_num, fun j hj p hp => ?_, below_drewN hbel _⟩
          rcases Nat.lt_or_ge j k with h1 | h1
          · exact HN.out j h1 p hp
          · obtain rfl : j = k := by omega
            rw [HK.out] at hp; cases hp; exact fun e => HXY.out e.symm
        case measure => simp [intOf]; omega
    · go_wp2
      go_ret
      obtain rfl : k = n := by omega
      exact ⟨retI (findW_none (by rw [HL.out]; exact HN.out)).symm, hb0⟩
end Go.Proofs.Ytafgfhjlkdjngaa
