/- Texts joined: A queue of numbers of the call's own: a slice that may begin anywhere in its block; what is appended to it, what is left without its first; Index, Contains, Reverse of the package slices at slices of numbers, as the program has them. -/
import Derived.Test.YtapbmpodimdkpaaDoorBCC
import Derived.Test.YtapbmpodimdkpaaDoorBPC
import Derived.Deep.AppendSrc
import Derived.Deep.Upon
import Derived.Deep.RegionHeld3
import Derived.RegionTactic

/- A queue of numbers of the call's own: a slice that may begin anywhere in its block; what is appended to it, what is left without its first. -/
namespace Go.Proofs.YtapbmpodimdkpaaDoor
open Go.ChangeShapes Go.WideShapes Go.ChangeAt Go.RowKit

def OwnQ (w : World) (base : Nat) (v : Value) (zs : List Int) : Prop := ∃ A c, v = .slice A zs.length c ∧ zs.length ≤ c ∧ c ≤ maxLen ∧ (0 < c → ∃ g off cur, A = some ⟨g, off, none⟩ ∧ base ≤ g ∧ IsBlk w g 3 cur ∧ off + c ≤ cur.size ∧ (cur.toList.drop off).take zs.length = zs.map (Value.int .i64))
theorem OwnQ.of_own {w : World} {base : Nat} {v : Value} {zs : List Int} (h : OwnI 3 w base v zs) : OwnQ w base v zs := by
  rcases h.2 with ⟨h1, h0⟩ | ⟨g, cap, cur, h1, hb, hg, hn, hc, hsz, ht⟩
  · exact ⟨none, 0, by rw [h0]; exact h1, by omega, by simp [maxLen], fun h => absurd h (by omega)⟩
  · exact ⟨_, cap, h1, hn, hc, fun _ => ⟨g, 0, cur, rfl, hb, hg, by omega, by simpa using ht⟩⟩
theorem OwnQ.keep {w w' : World} {base : Nat} {v : Value} {zs : List Int} (h : OwnQ w base v zs) (hb : ∀ i, base ≤ i → i < w.heap.size → w'.heap[i]? = w.heap[i]?) : OwnQ w' base v zs := by
  obtain ⟨A, c, h1, h2, h3, h4⟩ := h
  refine ⟨A, c, h1, h2, h3, fun hc => ?_⟩
  obtain ⟨g, off, cur, e, hg, hk, hs, ht⟩ := h4 hc
  exact ⟨g, off, cur, e, hg, (hb g hg hk.lt).trans hk, hs, ht⟩
theorem OwnQ.first {w : World} {base : Nat} {v : Value} {z : Int} {zs : List Int} (h : OwnQ w base v (z :: zs)) : ∃ g off c, v = .slice (some ⟨g, off, none⟩) (zs.length + 1) c ∧ base ≤ g ∧ g < w.heap.size ∧ w.cell? ⟨g, off, none⟩ = some (.int .i64 z) := by
  obtain ⟨A, c, h1, h2, h3, h4⟩ := h
  simp only [List.length_cons] at h1 h2
  obtain ⟨g, off, cur, rfl, hg, hk, hs, ht⟩ := h4 (by omega)
  refine ⟨g, off, c, h1, hg, hk.lt, ?_⟩
  rw [hk.cell, ← Array.getElem?_toList]
  have e : ((cur.toList.drop off).take (z :: zs).length)[0]? = some (.int .i64 z) := by rw [ht]; rfl
  rw [List.getElem?_take_of_lt (by simp), List.getElem?_drop, Nat.add_zero] at e
  exact e
theorem OwnQ.at_ {w : World} {base : Nat} {v : Value} {zs : List Int} {k : Nat} {z : Int} (h : OwnQ w base v zs) (hz : zs[k]? = some z) : ∃ g off c, v = .slice (some ⟨g, off, none⟩) zs.length c ∧ base ≤ g ∧ g < w.heap.size ∧ w.cell? ⟨g, off + k, none⟩ = some (.int .i64 z) := by
  obtain ⟨A, c, h1, h2, h3, h4⟩ := h
  have hk := (List.getElem?_eq_some_iff.1 hz).1
  obtain ⟨g, off, cur, rfl, hg, hb, hs, ht⟩ := h4 (by omega)
  refine ⟨g, off, c, h1, hg, hb.lt, ?_⟩
  rw [hb.cell, ← Array.getElem?_toList]
  have e : ((cur.toList.drop off).take zs.length)[k]? = some (.int .i64 z) := by rw [ht, List.getElem?_map, hz]; rfl
  rw [List.getElem?_take_of_lt hk, List.getElem?_drop] at e
  exact e
theorem OwnQ.sl {w : World} {base : Nat} {v : Value} {zs : List Int} (h : OwnQ w base v zs) : ∃ A c, v = .slice A zs.length c ∧ RowZ w A zs.length zs := by
  obtain ⟨A, c, h1, h2, h3, h4⟩ := id h
  refine ⟨A, c, h1, by simp, fun hn => ?_⟩
  obtain ⟨g, off, cur, rfl, hg, hb, hs, ht⟩ := h4 (by omega)
  refine ⟨g, off, rfl, hb.lt, fun k y hy => ?_⟩
  rw [List.getElem?_map, Option.map_eq_some_iff] at hy
  obtain ⟨z, hz, rfl⟩ := hy
  obtain ⟨g', off', c', e, _, _, hc⟩ := h.at_ hz
  rw [h1] at e
  injection e with e1 e2 e3
  injection e1 with e1
  injection e1 with e1 e4
  subst e1 e4
  exact hc
/-- Without its first. -/
theorem OwnQ.rest {w : World} {base : Nat} {A : Option Addr} {n c : Nat} {z : Int} {zs : List Int} (h : OwnQ w base (.slice A n c) (z :: zs)) : OwnQ w base (sliced A 1 n c 1) zs := by
  obtain ⟨A', c', h1, h2, h3, h4⟩ := h
  injection h1 with e1 e2 e3
  subst e1 e2 e3
  simp only [List.length_cons] at h2
  refine ⟨_, c - 1, rfl, by omega, by omega, fun hc => ?_⟩
  obtain ⟨g, off, cur, rfl, hg, hk, hs, ht⟩ := h4 (by omega)
  refine ⟨g, off + 1, cur, ?_, hg, hk, by omega, ?_⟩
  · rw [if_neg (by omega)]; simp [Addr.add_lit]
  · have e := congrArg (List.drop 1) ht
    rw [List.drop_take, List.drop_drop] at e
    simpa using e
theorem slice_rest (A : Option Addr) (n c : Nat) (hn : 1 ≤ n) (w : World) : (Instr.sliceAt 34 (.slice A n c) (some (.int .i64 1)) none none).run Tryd.prog w = .ok (sliced A 1 n c 1) w := by
  have hu : Tryd.prog.underlying 34 = some (.slice (Tryd.prog.elem 34)) := by kernel_rfl
  obtain ⟨i0, hi, hz0, hz1, hz2⟩ := info_parts intInfo6
  rw [run_sliceAt_slice (h := hu), run_slice_l (ht := hu) (h0 := by omega) (h1 := by omega)]
  have he : Tryd.prog.elem 34 = 3 := by kernel_rfl
  rw [he]
  simp [sizeOf, typeInfo, hi, hz1]
theorem IsBlk.cells_put {t : TypeId} (g : Nat) : ∀ (vs : List Value) (o : Nat) (w : World) (cs : Array Value), IsBlk w g t cs → IsBlk (w.setCells g o vs) g t (putAll cs o vs)
  | [], _, _, _, h => h
  | v :: vs, o, _w, _cs, h => IsBlk.cells_put g vs (o + 1) _ _ (h.put o v)
theorem Below.setCells {B : Nat} {a : World} (g : Nat) (hg : B ≤ g) : ∀ (vs : List Value) (o : Nat) (w : World), Below B a w → Below B a (w.setCells g o vs)
  | [], _, _, h => h
  | v :: vs, o, _w, h => Below.setCells g hg vs (o + 1) _ (h.setCell (p := ⟨g, o, none⟩) hg v)
/-- append of a slice of the call's own onto the queue. -/
theorem wp_append_q {o : Oper} {a : Act} {w : World} {K : Act → World → Prop} {Q : Exit → Act → World → Prop} (s x : Operand)
    (ho : o.op = .call { callee := .builtin .append, args := #[s, x], argTypes := #[34, 34] })
    (base B : Nat) (v u : Value) (zs ys : List Int) (hs : a.eval s = v) (hx : a.eval x = u) (hq : OwnQ w base v zs) (hy : OwnI 3 w B u ys) (hb : base ≤ w.heap.size) (hl : zs.length + ys.length ≤ 1000)
    (h : ∀ v' w', OwnQ w' base v' (zs ++ ys) → Below base w w' → OwnQ w' base v zs → K (a.put o.dst v') w') : o.wp Tryd.prog a w K Q := by
  obtain ⟨i0, hi, hz0, hz1, hz2⟩ := info_parts intInfo6
  have hu : Tryd.prog.underlying 34 = some (.slice 3) := Tryd.underlying34
  have fin : ∀ v' w', (Builtin.append_ #[34, 34] o.type #[v, u]).run Tryd.prog w = .ok v' w' → OwnQ w' base v' (zs ++ ys) → Below base w w' → OwnQ w' base v zs → o.wp Tryd.prog a w K Q := by
    intro v' w' hrun h1 h2 h3
    unfold Oper.wp execOp
    simp only [ho, resolve, invoke, builtin, Sem.run_bind, Sem.run_pure, Result.andThen_ok, List.map_toArray, List.map_cons, List.map_nil, hs, hx, hrun]
    exact h v' w' h1 h2 h3
  have hsrc : Src Tryd.prog i0.size 34 u ys.length (ys.map (Value.int .i64)) w := by
    rw [hz1]
    rcases hy.2 with ⟨rfl, h0⟩ | ⟨g, cap, cur, rfl, hbg, hg, hn, hc, hsz, ht⟩
    · obtain rfl : ys = [] := List.eq_nil_of_length_eq_zero h0
      exact Src.ofNil w hu 0
    · refine Src.ofSlice w hu ⟨g, 0, none⟩ ys.length cap _ (by simp) (fun j y hj => ?_) (fun y hy => by obtain ⟨_, _, rfl⟩ := List.mem_map.1 hy; rfl)
      have hk : IsBlk w g 3 cur := hg
      have hjl : j < ys.length := by have := (List.getElem?_eq_some_iff.1 hj).1; simpa using this
      rw [Addr.add_lit, Nat.zero_add, hk.cell, ← Array.getElem?_toList]
      rw [← ht, List.getElem?_take_of_lt (by omega)] at hj
      exact hj
  have hq0 := hq
  obtain ⟨A, c, rfl, h2, h3, h4⟩ := hq
  by_cases hroom : zs.length + ys.length ≤ c
  · rcases Nat.eq_zero_or_pos c with h0 | h0
    · obtain rfl : ys = [] := List.eq_nil_of_length_eq_zero (by omega)
      have hrun := run_append_nothing (P := Tryd.prog) w 34 34 o.type 3 i0 hu hi A zs.length c h2 u (by simpa using hsrc)
      exact fin _ _ hrun ⟨A, c, by simp, by simpa using h2, h3, fun hc => by omega⟩ (Below.refl _ _) hq0
    · obtain ⟨g, off, cur, rfl, hg, hk, hs2, ht⟩ := h4 h0
      have hin : ∀ j, j < (ys.map (Value.int .i64)).length → off + zs.length * i0.size + j < cur.size := fun j hj => by
        rw [hz1]; simp at hj; omega
      have hrun := run_append_room_src (P := Tryd.prog) w 34 34 o.type 3 i0 hu hi g off zs.length c u ys.length _ hsrc hroom
        (fun j hj => by rw [hk.cell, Array.getElem?_eq_getElem (hin j hj)]; rfl) (fun j _ => hk.thaw _)
      have hdec : cur.toList = cur.toList.take (off + zs.length) ++ ((cur.toList.drop (off + zs.length)).take ys.length) ++ cur.toList.drop (off + zs.length + ys.length) := by
        rw [show cur.toList.drop (off + zs.length + ys.length) = (cur.toList.drop (off + zs.length)).drop ys.length by rw [List.drop_drop], List.append_assoc, List.take_append_drop, List.take_append_drop]
      have hpl := putAll_list (ys.map (Value.int .i64)) (cur.toList.take (off + zs.length)) ((cur.toList.drop (off + zs.length)).take ys.length) (cur.toList.drop (off + zs.length + ys.length)) (by simp; omega)
      rw [← hdec] at hpl
      have hlen : (cur.toList.take (off + zs.length)).length = off + zs.length := by simp; omega
      rw [hlen] at hpl
      have hpl2 : putAll cur (off + zs.length) (ys.map (Value.int .i64)) = (cur.toList.take (off + zs.length) ++ ys.map (Value.int .i64) ++ cur.toList.drop (off + zs.length + ys.length)).toArray := hpl
      refine fin _ _ hrun ⟨_, c, by rw [List.length_append], by rw [List.length_append]; exact hroom, h3, fun _ => ⟨g, off, _, rfl, hg, IsBlk.cells_put g _ _ _ _ hk, by rw [putAll_size]; exact hs2, ?_⟩⟩ (Below.setCells g hg _ _ _ (Below.refl _ _)) ⟨_, c, rfl, h2, h3, fun _ => ⟨g, off, _, rfl, hg, IsBlk.cells_put g _ _ _ _ hk, by rw [putAll_size]; exact hs2, ?_⟩⟩
      · rw [hz1, Nat.mul_one, hpl2, List.length_append, List.map_append, ← ht]
        simp only [List.append_assoc]
        rw [List.drop_append_of_le_length (by simp; omega), List.drop_take, Nat.add_sub_cancel_left, ← List.append_assoc, List.take_append_of_le_length (by simp; omega), List.take_of_length_le (by simp; omega)]
      · rw [hz1, Nat.mul_one, hpl2, ← ht]
        simp only [List.append_assoc]
        rw [List.drop_append_of_le_length (by simp; omega), List.drop_take, Nat.add_sub_cancel_left, List.take_append_of_le_length (by simp; omega), List.take_take, Nat.min_self]
  · have hg := grownCap_ge w (zs.length + ys.length) c 3
    have hgm : grownCap w (zs.length + ys.length) c 3 ≤ maxLen := grownCap_le_maxLen w _ c 3 (by simp only [maxLen]; omega)
    have hold : (Builtin.firstCells i0.size zs.length (.slice A zs.length c)).run Tryd.prog w.drew = .ok (zs.map (Value.int .i64)).toArray w.drew := by
      rcases Nat.eq_zero_or_pos c with h0 | h0
      · obtain rfl : zs = [] := List.eq_nil_of_length_eq_zero (by omega)
        rcases A with _ | a0
        · exact run_firstCells_none w.drew i0.size 0 0 c
        · exact run_firstCells_some w.drew i0.size 0 a0 0 c [] (by simp) (by simp)
      · obtain ⟨g, off, cur, rfl, hg, hk, hs2, ht⟩ := h4 h0
        refine run_firstCells_some w.drew i0.size zs.length ⟨g, off, none⟩ zs.length c _ (by simp [hz1]) (fun j y hj => ?_)
        have hkd : IsBlk w.drew g 3 cur := hk
        have hjl : j < zs.length := by have := (List.getElem?_eq_some_iff.1 hj).1; simpa using this
        rw [Addr.add_lit, hkd.cell, ← Array.getElem?_toList]
        rw [← ht, List.getElem?_take_of_lt hjl, List.getElem?_drop] at hj
        exact hj
    have hrun := run_append_grow_src (P := Tryd.prog) w 34 34 o.type 3 i0 _ hu hi hz0 A zs.length c (zs.map (Value.int .i64)) hold u ys.length _ hsrc (by omega) (by omega) (growslice_fits (by omega) (by rw [hz2]; omega))
    refine fin _ _ hrun ⟨_, _, by rw [List.length_append], by rw [List.length_append]; exact hg, hgm, fun _ => ⟨w.heap.size, 0, _, rfl, hb, IsBlk.new w.drew _ _, ?_, ?_⟩⟩ (((Below.refl base w).drew).alloc hb _) (OwnQ.keep hq0 (fun i _ hi => ((((Below.refl w.heap.size w).drew).alloc (Nat.le_refl _) _).block i hi)))
    · rw [Array.size_append, size_zeroCells]
      simp [Value.cells]
      omega
    · rw [Array.toList_append, List.drop_zero, List.length_append, List.map_append, List.take_append_of_le_length (by simp), List.take_of_length_le (by simp)]
end Go.Proofs.YtapbmpodimdkpaaDoor

/- Index, Contains, Reverse of the package slices at slices of numbers, as the program has them. -/
namespace Go.Proofs.YtapbmpodimdkpaaDoor
open Go.ChangeShapes Go.WideShapes Go.ChangeAt Go.RowKit

/-- Reversed from both ends up to k. -/
def revTo (zs : List Int) (k : Nat) : List Int := (zs.reverse.take k) ++ ((zs.drop k).take (zs.length - 2 * k)) ++ (zs.reverse.drop (zs.length - k))
theorem revTo_zero (zs : List Int) : revTo zs 0 = zs := by simp [revTo]
theorem revTo_len {zs : List Int} {k : Nat} (h : 2 * k ≤ zs.length) : (revTo zs k).length = zs.length := by simp [revTo]; omega
theorem revTo_get {zs : List Int} {k j : Nat} (h : 2 * k ≤ zs.length) (hj : j < zs.length) : (revTo zs k)[j]? = if k ≤ j ∧ j < zs.length - k then zs[j]? else zs[zs.length - 1 - j]? := by
  unfold revTo
  rcases Nat.lt_or_ge j k with h1 | h1
  · rw [if_neg (by omega), List.append_assoc, List.getElem?_append_left (by simp; omega), List.getElem?_take_of_lt h1, List.getElem?_reverse hj]
  · rcases Nat.lt_or_ge j (zs.length - k) with h2 | h2
    · rw [if_pos ⟨h1, h2⟩, List.append_assoc, List.getElem?_append_right (by simp; omega), List.getElem?_append_left (by simp; omega), List.getElem?_take_of_lt (by simp; omega), List.getElem?_drop]
      congr 1; simp; omega
    · rw [if_neg (by omega), List.getElem?_append_right (by simp; omega), List.getElem?_drop, List.getElem?_reverse (by simp; omega)]
      congr 1; simp; omega
theorem revTo_all {zs : List Int} {k : Nat} (h : 2 * k ≤ zs.length) (h2 : zs.length ≤ 2 * k + 1) : revTo zs k = zs.reverse := by
  apply List.ext_getElem?
  intro j
  rcases Nat.lt_or_ge j zs.length with hj | hj
  · rw [revTo_get h hj, List.getElem?_reverse hj]
    by_cases e : k ≤ j ∧ j < zs.length - k
    · rw [if_pos e]; congr 1; omega
    · rw [if_neg e]
  · rw [List.getElem?_eq_none (by rw [revTo_len h]; exact hj), List.getElem?_eq_none (by simpa using hj)]
theorem revTo_succ {zs : List Int} {k : Nat} (h : 2 * k + 2 ≤ zs.length) {x y : Int} (hx : (revTo zs k)[k]? = some x) (hy : (revTo zs k)[zs.length - 1 - k]? = some y) : revTo zs (k + 1) = ((revTo zs k).set k y).set (zs.length - 1 - k) x := by
  have hl := revTo_len (zs := zs) (k := k) (by omega)
  rw [revTo_get (by omega) (by omega), if_pos (by omega)] at hx
  rw [revTo_get (by omega) (by omega), if_pos (by omega)] at hy
  apply List.ext_getElem?
  intro j
  rcases Nat.lt_or_ge j zs.length with hj | hj
  · rw [revTo_get (by omega) hj, List.getElem?_set, List.getElem?_set, List.length_set, hl]
    by_cases e1 : zs.length - 1 - k = j
    · rw [if_pos e1, if_pos (show zs.length - 1 - k < zs.length by omega), if_neg (by omega), ← hx]; congr 1; omega
    · rw [if_neg e1]
      by_cases e2 : k = j
      · rw [if_pos e2, if_pos (show k < zs.length by omega), if_neg (by omega), ← hy]; congr 1; omega
      · rw [if_neg e2, revTo_get (by omega) hj]
        by_cases e3 : k ≤ j ∧ j < zs.length - k
        · rw [if_pos e3, if_pos (by omega)]
        · rw [if_neg e3, if_neg (by omega)]
  · rw [List.getElem?_eq_none (by rw [revTo_len (by omega)]; exact hj), List.getElem?_eq_none (by rw [List.length_set, List.length_set, hl]; exact hj)]

/-- A slice of the call's own, written in place: which block, and what is left when two cells are exchanged. -/
theorem OwnI.at2 {w : World} {base : Nat} {v : Value} {zs : List Int} {i j : Nat} (h : OwnI 3 w base v zs) (_hi : i < zs.length) (hj : j < zs.length) : ∃ g cap, v = .slice (some ⟨g, 0, none⟩) zs.length cap ∧ base ≤ g ∧ g < w.heap.size ∧
    (∀ k, w.frozen? ⟨g, k, none⟩ = false) ∧ (∀ k x, zs[k]? = some x → w.cell? ⟨g, k, none⟩ = some (.int .i64 x)) ∧
    ∀ (x y : Int) (d : World), d = w ∨ d = w.drew → OwnI 3 ((d.setCell ⟨g, i, none⟩ (.int .i64 y)).setCell ⟨g, j, none⟩ (.int .i64 x)) base v ((zs.set i y).set j x) := by
  rcases h.2 with ⟨_, h0⟩ | ⟨g, cap, cur, h1, hb, hg, hn, hc, hsz, ht⟩
  · omega
  · have hB : IsBlk w g 3 cur := hg
    refine ⟨g, cap, h1, hb, hB.lt, fun k => hB.thaw k, fun k x hk => ?_, fun x y d hd => ?_⟩
    · have hlt : k < zs.length := (List.getElem?_eq_some_iff.1 hk).1
      rw [hB.cell, ← Array.getElem?_toList]
      have e : (cur.toList.take (zs.length * 1))[k]? = some (.int .i64 x) := by rw [ht, List.getElem?_map, hk]; rfl
      rw [List.getElem?_take_of_lt (by omega)] at e
      exact e
    · have hD : IsBlk d g 3 cur := by rcases hd with rfl | rfl <;> exact hB
      refine ⟨by simp, .inr ⟨g, cap, _, by rw [h1]; simp, hb, (hD.put i _).put j _, by simpa using hn, hc, by simpa using hsz, ?_⟩⟩
      simp only [List.length_set]
      rw [Array.toList_setIfInBounds, Array.toList_setIfInBounds, List.take_set, List.take_set, ht, List.map_set, List.map_set]

end Go.Proofs.YtapbmpodimdkpaaDoor
