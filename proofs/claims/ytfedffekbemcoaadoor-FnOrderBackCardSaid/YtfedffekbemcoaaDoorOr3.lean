/- Switching orders: append to lists of steps of the call's own; two lists in the making. -/
import Derived.Test.YtfedffekbemcoaaDoorOr1
import Derived.Test.YtfedffekbemcoaaDoorSP3
import Derived.Test.YtfedffekbemcoaaDoorBCC
import Derived.Deep.Upon
import Derived.Maps.AppendAt
namespace Go.Proofs.YtfedffekbemcoaaDoor
open Go.ChangeShapes Go.WideShapes Go.ChangeAt Go.RowKit

theorem ownP_lit (w : World) : OwnP (w.alloc (.cells #[] 27)) w.heap.size (.slice (some ⟨w.heap.size, 0, none⟩) 0 0) [] := by
  have := World.ownsRow_lit (base := w.heap.size) (size := 2) (e := 27) w #[] 0 (by omega) (by decide) rfl
  simpa [OwnP] using this
/-- A literal's one step, appended. -/
theorem wpList_append_step {ops : Array Oper} {rest : List Oper} {o : Oper} {a : Act} {w : World} {Q : Exit → Act → World → Prop} (hgd : o.guard = none) (s x : Operand)
    (ho : o.op = .call { callee := .builtin .append, args := #[s, x], argTypes := #[23, 23] })
    (base g : Nat) (v : Value) (us : List TP) (p : TP) (hs : a.eval s = v) (hx : a.eval x = .slice (some ⟨g, 0, none⟩) 1 1) (hv : OwnP w base v us)
    (hg : ∀ j u, (fP p)[j]? = some u → w.cell? ((⟨g, 0, none⟩ : Addr).add j) = some u) (hl : us.length ≤ 1000000) (hb : base ≤ w.heap.size)
    (h : ∀ v' w', OwnP w' base v' (us ++ [p]) → w.grownBy w' v.ownBlock → (v'.ownBlock = v.ownBlock ∨ v'.ownBlock = some w.heap.size) → wpList Tryd.prog ops Q rest (a.put o.dst v') w') : wpList Tryd.prog ops Q (o :: rest) a w := by
  obtain ⟨i0, hi, hz0, hz1, hz2⟩ := info_parts stepInfo3
  refine wpList_append_own_at w hgd s x 23 ho base 27 i0 (.agg #[.int .i64 0, .bool false]) 2 16 Tryd.underlying23 hi hz0 hz1 hz2 rfl (by decide) v _ _ hs hv ⟨g, 0, none⟩ 1 1 (fP p) hx rfl hg (fun u hu => by simp [fP] at hu; rcases hu with rfl | rfl <;> rfl) (by simp only [maxLen]; omega) (by omega) hb ?_
  intro v' w' hown hgrow _ hat
  exact h v' w' (OwnP.snoc hown) hgrow hat
/-- append of one list of steps to another one, both of the call's own; nothing may be appended. -/
theorem wpList_append_steps {ops : Array Oper} {rest : List Oper} {o : Oper} {a : Act} {w : World} {Q : Exit → Act → World → Prop} (hgd : o.guard = none) (s x : Operand)
    (ho : o.op = .call { callee := .builtin .append, args := #[s, x], argTypes := #[23, 23] })
    (base B : Nat) (v u : Value) (us zs : List TP) (hs : a.eval s = v) (hx : a.eval x = u) (hv : OwnP w base v us) (hy : OwnP w B u zs) (hb : base ≤ w.heap.size) (hl : us.length + zs.length ≤ 1000)
    (h : ∀ v' w', OwnP w' base v' (us ++ zs) → w.grownBy w' v.ownBlock → (v'.ownBlock = v.ownBlock ∨ v'.ownBlock = some w.heap.size) → wpList Tryd.prog ops Q rest (a.put o.dst v') w') : wpList Tryd.prog ops Q (o :: rest) a w := by
  obtain ⟨i0, hi, hz0, hz1, hz2⟩ := info_parts stepInfo3
  have hu : Tryd.prog.underlying 23 = some (.slice 27) := Tryd.underlying23
  rcases hy.2 with ⟨rfl, h0⟩ | ⟨g, cap, cur, rfl, hbg, hg, hn, hc, hsz, ht⟩
  · obtain rfl : zs = [] := List.eq_nil_of_length_eq_zero h0
    have hle : ∃ A n c, v = .slice A n c ∧ n ≤ c := by
      rcases hv.2 with ⟨rfl, _⟩ | ⟨g, cap, cur, rfl, _, _, hn, _⟩
      · exact ⟨_, _, _, rfl, Nat.le_refl _⟩
      · exact ⟨_, _, _, rfl, hn⟩
    obtain ⟨A, n, c, rfl, hle⟩ := hle
    refine wpList_plain hgd fun K hK => ?_
    have hrun := run_append_nothing (P := Tryd.prog) w 23 23 o.type 27 i0 hu hi A n c hle (.slice none 0 0) (Src.ofNil w hu 0)
    unfold Oper.wp execOp
    simp only [ho, resolve, invoke, builtin, Sem.run_bind, Sem.run_pure, Result.andThen_ok, List.map_toArray, List.map_cons, List.map_nil, hs, hx, hrun]
    exact hK _ _ (h _ _ (by simpa using hv) (World.grownBy.refl _ _) (.inl rfl))
  · have hk : IsBlk w g 27 cur := hg
    refine wpList_append_own_at w hgd s x 23 ho base 27 i0 (.agg #[.int .i64 0, .bool false]) 2 16 hu hi hz0 hz1 hz2 rfl (by decide) v _ _ hs hv ⟨g, 0, none⟩ zs.length cap (zs.flatMap fP) hx (by rw [flat_len fP_len]) (fun j y hj => ?_) (fun y hy => by
      obtain ⟨p, _, hp⟩ := List.mem_flatMap.1 hy
      simp [fP] at hp; rcases hp with rfl | rfl <;> rfl) (by simp only [maxLen]; omega) (by omega) hb ?_
    · have hjl : j < zs.length * 2 := by have := (List.getElem?_eq_some_iff.1 hj).1; rwa [flat_len fP_len] at this
      have ha : (⟨g, 0, none⟩ : Addr).add j = ⟨g, 0 + j, none⟩ := by unfold Addr.add; split <;> simp_all
      rw [ha, Nat.zero_add, hk.cell, ← Array.getElem?_toList]
      rw [← ht, List.getElem?_take_of_lt (by omega)] at hj
      exact hj
    · intro v' w' hown hgrow _ hat
      refine h v' w' ?_ hgrow hat
      show World.ownsRow _ _ _ _ _ (us ++ zs).length _
      rw [List.length_append, List.flatMap_append]; exact hown

/-- Two lists of steps in the making, above what was there in w1. -/
structure ToSt (w1 wr : World) (v5 v6 : Value) (xs ys : List TP) : Prop where
  own5 : OwnP wr w1.heap.size v5 xs
  own6 : OwnP wr w1.heap.size v6 ys
  ne : ∀ q, v5.ownBlock = some q → v6.ownBlock ≠ some q
  bel : Below w1.heap.size w1 wr
section
variable {w1 wr w' : World} {v5 v6 v : Value} {xs ys us : List TP}
theorem ToSt.start (w1 : World) : ToSt w1 w1 (.slice none 0 0) (.slice none 0 0) [] [] := ⟨OwnP.nil, OwnP.nil, fun _ h => (nomatch h), Below.refl _ _⟩
theorem grown_low {base : Nat} {o : Obj} (_hO : OwnP wr base v xs) (hg : (wr.alloc o).grownBy w' v.ownBlock) : wr.grownBy w' v.ownBlock :=
  ⟨hg.os, hg.tape, hg.output, by have := hg.size; simp at this; omega, fun q hq hne => (hg.block q (by simp; omega) hne).trans (Below.heap_alloc wr o q hq)⟩
theorem ToSt.push5 (h : ToSt w1 wr v5 v6 xs ys) (o : Obj) (hv : OwnP w' w1.heap.size v us) (hg : (wr.alloc o).grownBy w' v5.ownBlock) (hat : v.ownBlock = v5.ownBlock ∨ v.ownBlock = some (wr.alloc o).heap.size) : ToSt w1 w' v v6 us ys := by
  have hg2 := grown_low h.own5 hg
  refine ⟨hv, h.own6.far hg2 (fun q hq e => h.ne q e hq), fun q hq e => ?_, h.bel.grown hg2 h.bel.size (fun q hq => (h.own5.lt q hq).1)⟩
  rcases hat with h1 | h1
  · exact h.ne q (h1 ▸ hq) e
  · rw [h1] at hq; injection hq with hq; have := (h.own6.lt q e).2; simp at hq; omega
theorem ToSt.push6 (h : ToSt w1 wr v5 v6 xs ys) (o : Obj) (hv : OwnP w' w1.heap.size v us) (hg : (wr.alloc o).grownBy w' v6.ownBlock) (hat : v.ownBlock = v6.ownBlock ∨ v.ownBlock = some (wr.alloc o).heap.size) : ToSt w1 w' v5 v xs us := by
  have hg2 := grown_low h.own6 hg
  refine ⟨h.own5.far hg2 (fun q hq e => h.ne q hq e), hv, fun q hq e => ?_, h.bel.grown hg2 h.bel.size (fun q hq => (h.own6.lt q hq).1)⟩
  rcases hat with h1 | h1
  · exact h.ne q hq (h1 ▸ e)
  · rw [h1] at e; injection e with e; have := (h.own5.lt q hq).2; simp at e; omega
end
theorem OwnI.formR {e : TypeId} {w : World} {base : Nat} {v : Value} {zs : List Int} (h : OwnI e w base v zs) : ∃ A c, v = .slice A zs.length c ∧ RowZ w A zs.length zs := by
  obtain ⟨A, c, rfl⟩ : ∃ A c, v = .slice A zs.length c := by
    rcases h.2 with ⟨rfl, h0⟩ | ⟨g, cap, cur, rfl, _⟩
    · exact ⟨none, 0, by rw [h0]⟩
    · exact ⟨_, _, rfl⟩
  exact ⟨A, c, rfl, OwnI.rowZ h⟩
theorem take_snoc {α : Type} {zs : List α} {k : Nat} {z : α} (h : zs[k]? = some z) : zs.take (k + 1) = zs.take k ++ [z] := by rw [List.take_add_one, h]; rfl
end Go.Proofs.YtfedffekbemcoaaDoor
