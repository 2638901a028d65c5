/- The drawing of a network alone; appends onto an empty literal. -/
import Derived.Test.YtciciidndjkdiaaDoorD3
import Derived.Test.YtciciidndjkdiaaDoorBase2
import Derived.Deep.AppendSrc
import Derived.Deep.RegionHeld3
import Derived.Deep.DeepCutAuto
namespace Go.Proofs.YtciciidndjkdiaaDoor
open Go.ChangeShapes Go.WideShapes Go.ChangeAt Go.RowKit

/-- append onto a slice without room, as one step of a region that draws: a new row. -/
theorem step_append_zero {P : Program} {ops : Array Oper} {o : Oper} {a : Act} {w : World} {K : Act → World → Prop} {Q : Exit → Act → World → Prop} {E : Prop} (hgd : o.guard = none) (s x : Operand) (t : TypeId)
    (ho : o.op = .call { callee := .builtin .append, args := #[s, x], argTypes := #[t, t] })
    (e : TypeId) (i : TypeInfo) (z : Value) (size bytes : Nat) (ht : P.underlying t = some (.slice e)) (hi : P.info? e = some i) (hz : i.zero = some z) (hsize : i.size = size) (hby : i.bytes = bytes) (hzs : z.cells.size = size)
    (S : Option Addr) (hs : a.eval s = .slice S 0 0) (ad : Addr) (m c : Nat) (news : List Value) (hx : a.eval x = .slice (some ad) m c) (hl : news.length = m * size)
    (hnews : ∀ j u, news[j]? = some u → w.cell? (ad.add j) = some u) (h1 : ∀ u ∈ news, u.oneCell' = true) (hm0 : 0 < m) (hm : m ≤ 1000) (hb : bytes ≤ 1000000)
    (h : ∀ cap arr, m ≤ cap → cap ≤ maxLen → arr.size = cap * size → arr.toList.take (m * size) = news → K (a.put o.dst (.slice (some ⟨w.heap.size, 0, none⟩) m cap)) (w.drew.alloc (.cells arr e))) :
    if Region.wanted o (yielded ops a.tmps) = true then Oper.wp P o a w K Q else E := by
  have hw : Region.wanted o (yielded ops a.tmps) = true := by simp [Region.wanted, hgd]
  rw [if_pos hw]
  subst hsize hby
  have hge := grownCap_ge w (0 + m) 0 e
  have hcm : grownCap w (0 + m) 0 e ≤ maxLen := grownCap_le_maxLen w (0 + m) 0 e (by simp only [maxLen]; omega)
  have hrun := run_append_grow_src (P := P) w t t o.type e i z ht hi hz S 0 0 [] (by
      rcases S with _ | a0
      · exact run_firstCells_none w.drew i.size 0 0 0
      · exact run_firstCells_some w.drew i.size 0 a0 0 0 [] (by simp) (by simp)) (.slice (some ad) m c) m news (Src.ofSlice w ht ad m c news hl hnews h1) (by omega) (by omega)
    (by
      have h2 : Builtin.nextslicecap (0 + m) 0 = 0 + m := by unfold Builtin.nextslicecap; rw [if_pos (by omega)]
      rw [h2]
      have : (0 + m) * i.bytes ≤ 1000 * 1000000 := Nat.mul_le_mul (by omega) hb
      omega)
  have hK := h (grownCap w (0 + m) 0 e) (([] ++ news).toArray ++ Builtin.zeroCells z.cells (grownCap w (0 + m) 0 e - (0 + m))) (by omega) hcm
    (by
      rw [Array.size_append, size_zeroCells, hzs, List.size_toArray, List.nil_append, hl, ← Nat.add_mul]
      congr 1; omega)
    (by
      rw [Array.toList_append, ← hl]
      simp)
  unfold Oper.wp execOp
  simp only [ho, resolve, invoke, builtin, Sem.run_bind, Sem.run_pure, Result.andThen_ok, List.map_toArray, List.map_cons, List.map_nil, hs, hx, hrun]
  simp only [Nat.zero_add] at hK ⊢
  exact hK

/-- append of nothing onto an empty slice, as one step of a region that draws. -/
theorem step_append_nothing {P : Program} {ops : Array Oper} {o : Oper} {a : Act} {w : World} {K : Act → World → Prop} {Q : Exit → Act → World → Prop} {E : Prop} (hgd : o.guard = none) (s x : Operand) (t : TypeId)
    (ho : o.op = .call { callee := .builtin .append, args := #[s, x], argTypes := #[t, t] })
    (e : TypeId) (i : TypeInfo) (ht : P.underlying t = some (.slice e)) (hi : P.info? e = some i)
    (b off : Nat) (hs : a.eval s = .slice (some ⟨b, off, none⟩) 0 0) (A : Option Addr) (c : Nat) (hx : a.eval x = .slice A 0 c)
    (h : K (a.put o.dst (.slice (some ⟨b, off, none⟩) 0 0)) w) :
    if Region.wanted o (yielded ops a.tmps) = true then Oper.wp P o a w K Q else E := by
  have hw : Region.wanted o (yielded ops a.tmps) = true := by simp [Region.wanted, hgd]
  rw [if_pos hw]
  have hsrc : Src P i.size t (.slice A 0 c) 0 [] w := by
    rcases A with _ | ad
    · exact Src.ofNil w ht c
    · exact Src.ofSlice w ht ad 0 c [] (by simp) (by simp) (by simp)
  have hrun := run_append_room_src (P := P) w t t o.type e i ht hi b off 0 0 (.slice A 0 c) 0 [] hsrc (by omega) (by simp) (by simp)
  have hset : w.setCells b (off + 0 * i.size) [] = w := rfl
  rw [hset] at hrun
  unfold Oper.wp execOp
  simp only [ho, resolve, invoke, builtin, Sem.run_bind, Sem.run_pure, Result.andThen_ok, List.map_toArray, List.map_cons, List.map_nil, hs, hx, hrun]
  exact h
end Go.Proofs.YtciciidndjkdiaaDoor
