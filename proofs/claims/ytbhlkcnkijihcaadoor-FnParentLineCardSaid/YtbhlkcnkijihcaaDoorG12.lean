/- FnStateValid: the walk. -/
import Derived.Test.YtbhlkcnkijihcaaDoorD3
import Derived.Test.YtbhlkcnkijihcaaDoorG4
import Derived.Deep.AppendSrc
import Derived.Deep.AppendLies
import Derived.Deep.RegionHeld3
import Derived.Outline
import Derived.Deep.DeepFit
namespace Go.Proofs.YtbhlkcnkijihcaaDoor
open Go.ChangeShapes Go.WideShapes Go.ChangeAt Go.RowKit

/-- append onto a slice without room: a new row. -/
theorem wp_append_zero {P : Program} {o : Oper} {a : Act} {w : World} {K : Act → World → Prop} {Q : Exit → Act → World → Prop} (s x : Operand) (t : TypeId)
    (ho : o.op = .call { callee := .builtin .append, args := #[s, x], argTypes := #[t, t] })
    (e : TypeId) (i : TypeInfo) (z : Value) (size bytes : Nat) (ht : P.underlying t = some (.slice e)) (hi : P.info? e = some i) (hz : i.zero = some z) (hsize : i.size = size) (hby : i.bytes = bytes) (hzs : z.cells.size = size)
    (S : Option Addr) (hs : a.eval s = .slice S 0 0) (ad : Addr) (m c : Nat) (news : List Value) (hx : a.eval x = .slice (some ad) m c) (hl : news.length = m * size)
    (hnews : ∀ j u, news[j]? = some u → w.cell? (ad.add j) = some u) (h1 : ∀ u ∈ news, u.oneCell' = true) (hm0 : 0 < m) (hm : m ≤ 1000) (hb : bytes ≤ 1000000)
    (h : ∀ cap arr, m ≤ cap → cap ≤ maxLen → arr.size = cap * size → arr.toList.take (m * size) = news → K (a.put o.dst (.slice (some ⟨w.heap.size, 0, none⟩) m cap)) (w.drew.alloc (.cells arr e))) : Oper.wp P o a w K Q := by
  subst hsize hby
  have hge := grownCap_ge w (0 + m) 0 e
  have hcm : grownCap w (0 + m) 0 e ≤ maxLen := grownCap_le_maxLen w (0 + m) 0 e (by simp only [maxLen]; omega)
  have hrun := run_append_grow_src (P := P) w t t o.type e i z ht hi hz S 0 0 [] (by
      rcases S with _ | a0
      · exact run_firstCells_none w.drew i.size 0 0 0
      · exact run_firstCells_some w.drew i.size 0 a0 0 0 [] (by simp) (by simp)) (.slice (some ad) m c) m news (Src.ofSlice w ht ad m c news hl hnews h1) (by omega) (by omega)
    (by
      have h2 : Builtin.nextslicecap (0 + m) 0 = 0 + m := by unfold Builtin.nextslicecap; rw [if_pos (by omega)]
      rw [h2]
      have : (0 + m) * i.bytes ≤ 1000 * 1000000 := Nat.mul_le_mul (by omega) hb
      omega)
  have hK := h (grownCap w (0 + m) 0 e) (([] ++ news).toArray ++ Builtin.zeroCells z.cells (grownCap w (0 + m) 0 e - (0 + m))) (by omega) hcm
    (by
      rw [Array.size_append, size_zeroCells, hzs, List.size_toArray, List.nil_append, hl, ← Nat.add_mul]
      congr 1; omega)
    (by
      rw [Array.toList_append, ← hl]
      simp)
  unfold Oper.wp execOp
  simp only [ho, resolve, invoke, builtin, Sem.run_bind, Sem.run_pure, Result.andThen_ok, List.map_toArray, List.map_cons, List.map_nil, hs, hx, hrun]
  simp only [Nat.zero_add] at hK ⊢
  exact hK
/-- append of nothing onto an empty slice. -/
theorem wp_append_nothing {P : Program} {o : Oper} {a : Act} {w : World} {K : Act → World → Prop} {Q : Exit → Act → World → Prop} (s x : Operand) (t : TypeId)
    (ho : o.op = .call { callee := .builtin .append, args := #[s, x], argTypes := #[t, t] })
    (e : TypeId) (i : TypeInfo) (ht : P.underlying t = some (.slice e)) (hi : P.info? e = some i)
    (b off : Nat) (hs : a.eval s = .slice (some ⟨b, off, none⟩) 0 0) (A : Option Addr) (c : Nat) (hx : a.eval x = .slice A 0 c)
    (h : K (a.put o.dst (.slice (some ⟨b, off, none⟩) 0 0)) w) : Oper.wp P o a w K Q := by
  have hsrc : Src P i.size t (.slice A 0 c) 0 [] w := by
    rcases A with _ | ad
    · exact Src.ofNil w ht c
    · exact Src.ofSlice w ht ad 0 c [] (by simp) (by simp) (by simp)
  have hrun := run_append_room_src (P := P) w t t o.type e i ht hi b off 0 0 (.slice A 0 c) 0 [] hsrc (by omega) (by simp) (by simp)
  have hset : w.setCells b (off + 0 * i.size) [] = w := rfl
  rw [hset] at hrun
  unfold Oper.wp execOp
  simp only [ho, resolve, invoke, builtin, Sem.run_bind, Sem.run_pure, Result.andThen_ok, List.map_toArray, List.map_cons, List.map_nil, hs, hx, hrun]
  exact h

theorem IsBlk.drew_ {w : World} {g : Nat} {t : TypeId} {cs : Array Value} (h : IsBlk w g t cs) : IsBlk w.drew g t cs := h
theorem own_blkB {w : World} {base g m cap : Nat} {arr : Array Value} {xs : List Value} (h : IsBlk w g 4 arr) (hb : base ≤ g) (hl : xs.length = m * 1) (hc : m ≤ cap) (hm : cap ≤ maxLen) (hs : arr.size = cap * 1) (ht : arr.toList.take (m * 1) = xs) : w.ownsRow base 4 1 (.slice (some ⟨g, 0, none⟩) m cap) m xs :=
  ⟨hl, .inr ⟨g, cap, arr, rfl, hb, h, hc, hm, hs, ht⟩⟩
theorem one_blk {w : World} {g : Nat} {t : TypeId} {u : Value} (h : IsBlk w g t #[u]) : ∀ j v, [u][j]? = some v → w.cell? ((⟨g, 0, none⟩ : Addr).add j) = some v := by
  intro j v hj
  have hj0 : j = 0 := by have := (List.getElem?_eq_some_iff.1 hj).1; simpa using this
  subst hj0
  rw [add_none, h.cell]; simpa using hj
theorem keepS {w w' : World} {g : Nat} {u v : Value} (h0 : w.cell? ⟨g, 0, none⟩ = some u) (h1 : w.cell? ⟨g, 1, none⟩ = some v) (hg : g < w.heap.size) (hb : Below w.heap.size w w') :
    Below w.heap.size w w' ∧ w'.cell? ⟨g, 0, none⟩ = some u ∧ w'.cell? ⟨g, 1, none⟩ = some v := ⟨hb, (hb.cell (p := ⟨g, 0, none⟩) hg).trans h0, (hb.cell (p := ⟨g, 1, none⟩) hg).trans h1⟩
theorem stepS {w W w' : World} {p : Prop} (h : Below w.heap.size w W ∧ p) (hb : Below W.heap.size W w') : Below w.heap.size w w' := h.1.trans (hb.mono h.1.size)
theorem rowS {w W : World} {p : Prop} {A : Option Addr} {n : Nat} {ls : List L3} (h : Below w.heap.size w W ∧ p) (hr : RowL w A n ls) : RowL W A n ls := hr.below h.1
theorem srcS {w W : World} {p : Prop} {ad : Addr} {n : Nat} {ts : List Bool} (h : Below w.heap.size w W ∧ p) (hr : RowT w (some ad) n ts) : ∀ j u, (ts.map Value.bool)[j]? = some u → W.cell? (ad.add j) = some u := src_cells (hr.below h.1)
theorem stOk_more {bs : Int} {ls : List L3} {m : Nat} (h : stOk bs ls m = true) : stOk bs ls (m + 1) = false := by
  have := (stOk_len h).1
  simp [stOk]; intro _; omega

end Go.Proofs.YtbhlkcnkijihcaaDoor
