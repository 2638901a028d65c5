/- Permits: work in memory (no function): rows that are read, rows of a call's own, memory that changes in some blocks. -/
import Derived.Test.YtafgfhjlkdjngaaSJ3
import Derived.Test.YtafgfhjlkdjngaaSH3
import Derived.Test.YtafgfhjlkdjngaaWk0
import Derived.Test.YtafgfhjlkdjngaaBPA
import Derived.Test.YtafgfhjlkdjngaaBCC
import Derived.Deep.Upon
import Derived.Maps.AppendAt
namespace Go.Proofs.Ytafgfhjlkdjngaa
open Go.ChangeShapes Go.WideShapes Go.ChangeAt Go.RowKit

/-- Three slices that read as work. -/
structure RowW (w : World) (A : Option Addr) (n : Nat) (B : Option Addr) (m : Nat) (C : Option Addr) (q : Nat) (a e : List Bool) (ps : List TJ) : Prop where
  on : RowT w A n a
  ea : RowT w B m e
  pe : RowJ w C q ps
section
variable {w w' : World} {A B C : Option Addr} {n m q : Nat} {a e : List Bool} {ps : List TJ}
theorem RowW.below (h : RowW w A n B m C q a e ps) (hb : Below w.heap.size w w') : RowW w' A n B m C q a e ps := ⟨h.on.below hb, h.ea.below hb, h.pe.below hb⟩
end

/-- Memory that changes, of what was there, in the blocks of which P tells alone. -/
structure GrownIn (w w' : World) (P : Nat → Prop) : Prop where
  os : w'.os = w.os
  tape : w'.tape = w.tape
  output : w'.output = w.output
  size : w.heap.size ≤ w'.heap.size
  block : ∀ k, k < w.heap.size → ¬ P k → w'.heap[k]? = w.heap[k]?
theorem GrownIn.of {w w' : World} {row : Option Nat} {P : Nat → Prop} (h : w.grownBy w' row) (hP : ∀ k, row = some k → P k) : GrownIn w w' P :=
  ⟨h.os, h.tape, h.output, h.size, fun k hk hn => h.block k hk (fun e => hn (hP k e.symm))⟩
theorem GrownIn.trans {a b c : World} {P : Nat → Prop} (h : GrownIn a b P) (k : GrownIn b c P) : GrownIn a c P :=
  ⟨k.os.trans h.os, k.tape.trans h.tape, k.output.trans h.output, Nat.le_trans h.size k.size, fun i hi hn => (k.block i (Nat.lt_of_lt_of_le hi h.size) hn).trans (h.block i hi hn)⟩
theorem GrownIn.keeps {w w' : World} {P : Nat → Prop} (h : Below w.heap.size w w') : GrownIn w w' P := ⟨h.os, h.tape, h.output, h.size, fun k hk _ => h.block k hk⟩
theorem GrownIn.below {B : Nat} {a w w' : World} {P : Nat → Prop} (hg : GrownIn w w' P) (h : Below B a w) (hB : B ≤ w.heap.size) (hr : ∀ k, P k → B ≤ k) : Below B a w' :=
  h.trans ⟨hg.os, hg.tape, hg.output, hg.size, fun k hk => hg.block k (by omega) (fun e => by have := hr k e; omega)⟩
theorem IsBlk.farIn {w w' : World} {g : Nat} {t : TypeId} {cs : Array Value} {P : Nat → Prop} (h : IsBlk w g t cs) (hg : GrownIn w w' P) (hne : ¬ P g) : IsBlk w' g t cs := (hg.block g h.lt hne).trans h
theorem OwnT.farIn {w w' : World} {base : Nat} {v : Value} {ts : List Bool} {P : Nat → Prop} (h : OwnT w base v ts) (hg : GrownIn w w' P) (hne : ∀ q, tblk v ts = some q → ¬ P q) : OwnT w' base v ts := by
  rcases h with ⟨A, c, h1, h2⟩ | ⟨h0, g, cap, te, cur, h1, h2, h3, h4⟩
  · exact .inl ⟨A, c, h1, h2⟩
  · refine .inr ⟨h0, g, cap, te, cur, h1, h2, IsBlk.farIn h3 hg (hne g ?_), h4⟩
    rw [tblk, if_neg (by omega), h1]; rfl
theorem ownsRow_farIn {w w' : World} {base : Nat} {e : TypeId} {size n : Nat} {v : Value} {xs : List Value} {P : Nat → Prop} (h : w.ownsRow base e size v n xs) (hg : GrownIn w w' P) (hne : ∀ q, v.ownBlock = some q → ¬ P q) : w'.ownsRow base e size v n xs := by
  refine ⟨h.1, ?_⟩
  rcases h.2 with h | ⟨g, cap, cur, h1, h2, h3, h4⟩
  · exact .inl h
  · exact .inr ⟨g, cap, cur, h1, h2, IsBlk.farIn (show IsBlk w g e cur from h3) hg (hne g (by rw [h1]; rfl)), h4⟩
theorem OwnI.farIn {e : TypeId} {w w' : World} {base : Nat} {v : Value} {xs : List Int} {P : Nat → Prop} (h : OwnI e w base v xs) (hg : GrownIn w w' P) (hne : ∀ q, v.ownBlock = some q → ¬ P q) : OwnI e w' base v xs := ownsRow_farIn h hg hne
theorem OwnJ.farIn {w w' : World} {base : Nat} {v : Value} {xs : List TJ} {P : Nat → Prop} (h : OwnJ w base v xs) (hg : GrownIn w w' P) (hne : ∀ q, v.ownBlock = some q → ¬ P q) : OwnJ w' base v xs := ownsRow_farIn h hg hne
theorem OwnH.farIn {w w' : World} {base : Nat} {v : Value} {xs : List TH} {P : Nat → Prop} (h : OwnH w base v xs) (hg : GrownIn w w' P) (hne : ∀ q, v.ownBlock = some q → ¬ P q) : OwnH w' base v xs := ownsRow_farIn h hg hne

/-- The blocks of work of a call's own. -/
def WBlk (v1 v2 v3 : Value) (a e : List Bool) (q : Nat) : Prop := tblk v1 a = some q ∨ tblk v2 e = some q ∨ v3.ownBlock = some q
/-- Work of a call's own: three rows in blocks of their own. -/
structure OwnW (w : World) (base : Nat) (v1 v2 v3 : Value) (a e : List Bool) (ps : List TJ) : Prop where
  on : OwnT w base v1 a
  ea : OwnT w base v2 e
  pe : OwnJ w base v3 ps
  n12 : ∀ q, tblk v1 a = some q → tblk v2 e ≠ some q
  n13 : ∀ q, tblk v1 a = some q → v3.ownBlock ≠ some q
  n23 : ∀ q, tblk v2 e = some q → v3.ownBlock ≠ some q
section
variable {w w' : World} {base base' : Nat} {v1 v2 v3 v : Value} {a e ts : List Bool} {ps us : List TJ} {P : Nat → Prop}
theorem OwnW.lt (h : OwnW w base v1 v2 v3 a e ps) : ∀ q, WBlk v1 v2 v3 a e q → base ≤ q ∧ q < w.heap.size := by
  rintro q (hq | hq | hq)
  · exact h.on.lt q hq
  · exact h.ea.lt q hq
  · exact h.pe.lt q hq
theorem OwnW.keep (h : OwnW w base v1 v2 v3 a e ps) (hb : Below w.heap.size w w') : OwnW w' base v1 v2 v3 a e ps := ⟨h.on.keep hb, h.ea.keep hb, h.pe.keep hb, h.n12, h.n13, h.n23⟩
theorem OwnW.alloc (h : OwnW w base v1 v2 v3 a e ps) (o : Obj) : OwnW (w.alloc o) base v1 v2 v3 a e ps := h.keep (below_bx w o)
theorem OwnW.drew (h : OwnW w base v1 v2 v3 a e ps) : OwnW w.drew base v1 v2 v3 a e ps := ⟨h.on, h.ea, h.pe, h.n12, h.n13, h.n23⟩
theorem OwnW.more (h : OwnW w base v1 v2 v3 a e ps) (hb : base' ≤ base) : OwnW w base' v1 v2 v3 a e ps := ⟨h.on.more hb, h.ea.more hb, h.pe.more hb, h.n12, h.n13, h.n23⟩
theorem OwnW.farIn (h : OwnW w base v1 v2 v3 a e ps) (hg : GrownIn w w' P) (hne : ∀ q, WBlk v1 v2 v3 a e q → ¬ P q) : OwnW w' base v1 v2 v3 a e ps :=
  ⟨h.on.farIn hg fun q hq => hne q (.inl hq), h.ea.farIn hg fun q hq => hne q (.inr (.inl hq)), h.pe.farIn hg fun q hq => hne q (.inr (.inr hq)), h.n12, h.n13, h.n23⟩
theorem OwnW.far {row : Option Nat} (h : OwnW w base v1 v2 v3 a e ps) (hg : w.grownBy w' row) (hne : ∀ q, WBlk v1 v2 v3 a e q → row ≠ some q) : OwnW w' base v1 v2 v3 a e ps :=
  h.farIn (P := fun k => row = some k) (GrownIn.of hg fun _ e => e) (fun q hq e => hne q hq e)
theorem OwnW.nil {w : World} {base : Nat} : OwnW w base (.slice none 0 0) (.slice none 0 0) (.slice none 0 0) [] [] [] := ⟨OwnT.nil, OwnT.nil, OwnJ.nil, fun _ h => (nomatch h), fun _ h => (nomatch h), fun _ h => (nomatch h)⟩
theorem OwnJ.shape (h : OwnJ w base v ps) : ∃ A c, v = .slice A ps.length c := by
  obtain ⟨A, c, h, _⟩ := h.row; exact ⟨A, c, h⟩
theorem OwnJ.rowJ {A : Option Addr} {n c : Nat} (h : OwnJ w base (.slice A n c) ps) : RowJ w A n ps := by
  obtain ⟨A', c', e, hr⟩ := h.row
  injection e with e1 e2 e3
  subst e1 e2; exact hr
theorem OwnH.rowH {us : List TH} {A : Option Addr} {n c : Nat} (h : OwnH w base (.slice A n c) us) : RowH w A n us := by
  obtain ⟨A', c', e, hr⟩ := h.row
  injection e with e1 e2 e3
  subst e1 e2; exact hr
theorem OwnT.shapeT (h : OwnT w base v ts) : ∃ A c, v = .slice A ts.length c := by
  obtain ⟨A, c, h, _⟩ := h.row; exact ⟨A, c, h⟩
theorem OwnJ.cap (h : OwnJ w base v ps) : ∃ A c, v = .slice A ps.length c ∧ ps.length ≤ c ∧ c ≤ maxLen := by
  rcases h.2 with ⟨rfl, h0⟩ | ⟨g, cap, cur, rfl, _, _, hn, hm, _⟩
  · exact ⟨none, 0, by rw [h0], by omega, by simp only [maxLen]; omega⟩
  · exact ⟨_, _, rfl, hn, hm⟩
theorem OwnW.cap {A B C : Option Addr} {n c m d q r : Nat} (h : OwnW w base (.slice A n c) (.slice B m d) (.slice C q r) a e ps) : q ≤ r := by
  obtain ⟨A', c', e', h1, _⟩ := h.pe.cap
  injection e' with e1 e2 e3
  omega
theorem OwnW.shape (h : OwnW w base v1 v2 v3 a e ps) : ∃ A c B d C r, v1 = .slice A a.length c ∧ v2 = .slice B e.length d ∧ v3 = .slice C ps.length r := by
  obtain ⟨A, c, h1⟩ := h.on.shapeT
  obtain ⟨B, d, h2⟩ := h.ea.shapeT
  obtain ⟨C, r, h3⟩ := h.pe.shape
  exact ⟨A, c, B, d, C, r, h1, h2, h3⟩
theorem OwnW.row {A B C : Option Addr} {n c m d q r : Nat} (h : OwnW w base (.slice A n c) (.slice B m d) (.slice C q r) a e ps) : RowW w A n B m C q a e ps := ⟨h.on.rowT, h.ea.rowT, h.pe.rowJ⟩
/-- Two cells of a box below are stored. -/
theorem OwnW.ret2 (h : OwnW w base v1 v2 v3 a e ps) {g : Nat} (hg : g < base) (x y z : Value) : OwnW (((w.setCell ⟨g, 0, none⟩ x).setCell ⟨g, 1, none⟩ y).setCell ⟨g, 2, none⟩ z) base v1 v2 v3 a e ps :=
  h.farIn (P := fun k => k = g) (((GrownIn.of (grown_put w g 0 x) (fun k e => by injection e with e; exact e.symm)).trans (GrownIn.of (grown_put _ g 1 y) (fun k e => by injection e with e; exact e.symm))).trans (GrownIn.of (grown_put _ g 2 z) (fun k e => by injection e with e; exact e.symm)))
    (fun q hq e => by have := (h.lt q hq).1; omega)
end
theorem RowJ.take {w : World} {A : Option Addr} {n k : Nat} {us : List TJ} (h : RowJ w A n us) (hk : k ≤ n) : RowJ w A k (us.take k) := by
  refine ⟨by rw [List.length_take, h.1]; omega, fun h0 => ?_⟩
  obtain ⟨b, off, e, hb, hc⟩ := h.2 (by omega)
  refine ⟨b, off, e, hb, fun j u hj => hc j u ?_⟩
  rw [List.getElem?_take] at hj
  split at hj
  · exact hj
  · cases hj
theorem IsBlk.ownJ {w : World} {g base n : Nat} {us : List TJ} (h : IsBlk w g 66 (rowArr fJ us)) (hl : us.length = n) (hn : n ≤ 1048576) (hb : base ≤ g) : OwnJ w base (.slice (some ⟨g, 0, none⟩) n n) us := by
  show World.ownsRow _ _ _ _ _ us.length _
  rw [hl]
  refine ⟨by rw [flat_len fJ_len, hl], .inr ⟨g, n, _, rfl, hb, h, Nat.le_refl _, by simp only [maxLen]; omega, by rw [rowArr, List.size_toArray, flat_len fJ_len, hl], ?_⟩⟩
  rw [rowArr, List.take_of_length_le (by rw [List.toList_toArray, flat_len fJ_len, hl]; exact Nat.le_refl _)]
theorem IsBlk.ownH {w : World} {g base n : Nat} {us : List TH} (h : IsBlk w g 75 (rowArr fH us)) (hl : us.length = n) (hn : n ≤ 1048576) (hb : base ≤ g) : OwnH w base (.slice (some ⟨g, 0, none⟩) n n) us := by
  show World.ownsRow _ _ _ _ _ us.length _
  rw [hl]
  refine ⟨by rw [flat_len fH_len, hl], .inr ⟨g, n, _, rfl, hb, h, Nat.le_refl _, by simp only [maxLen]; omega, by rw [rowArr, List.size_toArray, flat_len fH_len, hl], ?_⟩⟩
  rw [rowArr, List.take_of_length_le (by rw [List.toList_toArray, flat_len fH_len, hl]; exact Nat.le_refl _)]
theorem ownJ_lit (w : World) : OwnJ (w.alloc (.cells #[] 66)) w.heap.size (.slice (some ⟨w.heap.size, 0, none⟩) 0 0) [] := by
  have := World.ownsRow_lit (base := w.heap.size) (size := 2) (e := 66) w #[] 0 (by omega) (by decide) rfl
  simpa [OwnJ] using this
theorem ownH_lit (w : World) : OwnH (w.alloc (.cells #[] 75)) w.heap.size (.slice (some ⟨w.heap.size, 0, none⟩) 0 0) [] := by
  have := World.ownsRow_lit (base := w.heap.size) (size := 3) (e := 75) w #[] 0 (by omega) (by decide) rfl
  simpa [OwnH] using this
theorem wpList_append_permit {ops : Array Oper} {rest : List Oper} {o : Oper} {a : Act} {w : World} {Q : Exit → Act → World → Prop} (hgd : o.guard = none) (s x : Operand)
    (ho : o.op = .call { callee := .builtin .append, args := #[s, x], argTypes := #[42, 42] })
    (base g : Nat) (v : Value) (us : List TJ) (p : TJ) (hs : a.eval s = v) (hx : a.eval x = .slice (some ⟨g, 0, none⟩) 1 1) (hv : OwnJ w base v us)
    (hg : ∀ j u, (fJ p)[j]? = some u → w.cell? ((⟨g, 0, none⟩ : Addr).add j) = some u) (hl : us.length ≤ 1000000) (hb : base ≤ w.heap.size)
    (h : ∀ v' w', OwnJ w' base v' (us ++ [p]) → w.grownBy w' v.ownBlock → (v'.ownBlock = v.ownBlock ∨ v'.ownBlock = some w.heap.size) → wpList Try.prog ops Q rest (a.put o.dst v') w') : wpList Try.prog ops Q (o :: rest) a w := by
  obtain ⟨i0, hi, hz0, hz1, hz2⟩ := info_parts permitInfo3
  refine wpList_append_own_at w hgd s x 42 ho base 66 i0 (.agg #[.int .i64 0, .int .i64 0]) 2 16 Try.underlying42 hi hz0 hz1 hz2 rfl (by decide) v _ _ hs hv ⟨g, 0, none⟩ 1 1 (fJ p) hx rfl hg (fun u hu => by simp [fJ] at hu; rcases hu with rfl | rfl <;> rfl) (by simp only [maxLen]; omega) (by omega) hb ?_
  intro v' w' hown hgrow _ hat
  exact h v' w' (OwnJ.snoc hown) hgrow hat
theorem wpList_append_deed {ops : Array Oper} {rest : List Oper} {o : Oper} {a : Act} {w : World} {Q : Exit → Act → World → Prop} (hgd : o.guard = none) (s x : Operand)
    (ho : o.op = .call { callee := .builtin .append, args := #[s, x], argTypes := #[51, 51] })
    (base g : Nat) (v : Value) (us : List TH) (p : TH) (hs : a.eval s = v) (hx : a.eval x = .slice (some ⟨g, 0, none⟩) 1 1) (hv : OwnH w base v us)
    (hg : ∀ j u, (fH p)[j]? = some u → w.cell? ((⟨g, 0, none⟩ : Addr).add j) = some u) (hl : us.length ≤ 1000000) (hb : base ≤ w.heap.size)
    (h : ∀ v' w', OwnH w' base v' (us ++ [p]) → w.grownBy w' v.ownBlock → (v'.ownBlock = v.ownBlock ∨ v'.ownBlock = some w.heap.size) → wpList Try.prog ops Q rest (a.put o.dst v') w') : wpList Try.prog ops Q (o :: rest) a w := by
  obtain ⟨i0, hi, hz0, hz1, hz2⟩ := info_parts workDeedInfo3
  refine wpList_append_own_at w hgd s x 51 ho base 75 i0 (.agg #[.int .i64 0, .int .i64 0, .int .i64 0]) 3 24 Try.underlying51 hi hz0 hz1 hz2 rfl (by decide) v _ _ hs hv ⟨g, 0, none⟩ 1 1 (fH p) hx rfl hg (fun u hu => by simp [fH] at hu; rcases hu with rfl | rfl | rfl <;> rfl) (by simp only [maxLen]; omega) (by omega) hb ?_
  intro v' w' hown hgrow _ hat
  exact h v' w' (OwnH.snoc hown) hgrow hat
/-- append of one list of deeds to another one, both of the call's own; nothing may be appended. -/
theorem wpList_append_deeds {ops : Array Oper} {rest : List Oper} {o : Oper} {a : Act} {w : World} {Q : Exit → Act → World → Prop} (hgd : o.guard = none) (s x : Operand)
    (ho : o.op = .call { callee := .builtin .append, args := #[s, x], argTypes := #[51, 51] })
    (base B : Nat) (v u : Value) (us zs : List TH) (hs : a.eval s = v) (hx : a.eval x = u) (hv : OwnH w base v us) (hy : OwnH w B u zs) (hb : base ≤ w.heap.size) (hl : us.length + zs.length ≤ 1000)
    (h : ∀ v' w', OwnH w' base v' (us ++ zs) → w.grownBy w' v.ownBlock → (v'.ownBlock = v.ownBlock ∨ v'.ownBlock = some w.heap.size) → wpList Try.prog ops Q rest (a.put o.dst v') w') : wpList Try.prog ops Q (o :: rest) a w := by
  obtain ⟨i0, hi, hz0, hz1, hz2⟩ := info_parts workDeedInfo3
  have hu : Try.prog.underlying 51 = some (.slice 75) := Try.underlying51
  rcases hy.2 with ⟨rfl, h0⟩ | ⟨g, cap, cur, rfl, hbg, hg, hn, hc, hsz, ht⟩
  · obtain rfl : zs = [] := List.eq_nil_of_length_eq_zero h0
    have hle : ∃ A n c, v = .slice A n c ∧ n ≤ c := by
      rcases hv.2 with ⟨rfl, _⟩ | ⟨g, cap, cur, rfl, _, _, hn, _⟩
      · exact ⟨_, _, _, rfl, Nat.le_refl _⟩
      · exact ⟨_, _, _, rfl, hn⟩
    obtain ⟨A, n, c, rfl, hle⟩ := hle
    refine wpList_plain hgd fun K hK => ?_
    have hrun := run_append_nothing (P := Try.prog) w 51 51 o.type 75 i0 hu hi A n c hle (.slice none 0 0) (Src.ofNil w hu 0)
    unfold Oper.wp execOp
    simp only [ho, resolve, invoke, builtin, Sem.run_bind, Sem.run_pure, Result.andThen_ok, List.map_toArray, List.map_cons, List.map_nil, hs, hx, hrun]
    exact hK _ _ (h _ _ (by simpa using hv) (World.grownBy.refl _ _) (.inl rfl))
  · have hk : IsBlk w g 75 cur := hg
    refine wpList_append_own_at w hgd s x 51 ho base 75 i0 (.agg #[.int .i64 0, .int .i64 0, .int .i64 0]) 3 24 hu hi hz0 hz1 hz2 rfl (by decide) v _ _ hs hv ⟨g, 0, none⟩ zs.length cap (zs.flatMap fH) hx (by rw [flat_len fH_len]) (fun j y hj => ?_) (fun y hy => by
      obtain ⟨p, _, hp⟩ := List.mem_flatMap.1 hy
      simp [fH] at hp; rcases hp with rfl | rfl | rfl <;> rfl) (by simp only [maxLen]; omega) (by omega) hb ?_
    · have hjl : j < zs.length * 3 := by have := (List.getElem?_eq_some_iff.1 hj).1; rwa [flat_len fH_len] at this
      have ha : (⟨g, 0, none⟩ : Addr).add j = ⟨g, 0 + j, none⟩ := by unfold Addr.add; split <;> simp_all
      rw [ha, Nat.zero_add, hk.cell, ← Array.getElem?_toList]
      rw [← ht, List.getElem?_take_of_lt (by omega)] at hj
      exact hj
    · intro v' w' hown hgrow _ hat
      refine h v' w' ?_ hgrow hat
      show World.ownsRow _ _ _ _ _ (us ++ zs).length _
      rw [List.length_append, List.flatMap_append]; exact hown
end Go.Proofs.Ytafgfhjlkdjngaa
