/- Texts joined: The search from all feeds, of the program; The supplies of all buses, of the program; FedBy, ParentLine; PathLines, BelowLine, of the program. -/
import Derived.Test.YtapbmpodimdkpaaDoorBHD
import Derived.Test.YtapbmpodimdkpaaDoorBHC
import Derived.Test.YtapbmpodimdkpaaDoorBFA
import Derived.Test.YtapbmpodimdkpaaDoorBCB
import Derived.Test.YtapbmpodimdkpaaDoorA10
import Derived.Test.YtapbmpodimdkpaaDoorBQA

/- The search from all feeds, of the program. -/
namespace Go.Proofs.YtapbmpodimdkpaaDoor
open Go.ChangeShapes Go.WideShapes Go.ChangeAt Go.RowKit

/-- The lines that end at a bus. -/
def latN (ls : List L3) (x : Nat) : List Nat := (List.range ls.length).filter fun j => endsB (ls.getD j (0, 0, 0)) (x : Int)
theorem latN_eq {nb : Nat} {ls : List L3} (hv : netOk nb ls = true) (x : Nat) : linesAtF nb ls (x : Int) = ofN (latN ls x) := by rw [linesAtF, if_pos hv]; rfl
theorem latN_len (ls : List L3) (x : Nat) : (latN ls x).length ≤ ls.length := Nat.le_trans (List.length_filter_le _ _) (by simp)
theorem latN_nodup (ls : List L3) (x : Nat) : (latN ls x).Nodup := List.Pairwise.filter _ List.nodup_range
theorem latN_mem {ls : List L3} {x k : Nat} (h : k ∈ latN ls x) : ∃ l, ls[k]? = some l ∧ endsB l (x : Int) = true := by
  rw [latN, List.mem_filter, List.mem_range] at h
  obtain ⟨h1, h2⟩ := h
  have e : ls[k]? = some (ls.getD k (0, 0, 0)) := by rw [List.getD_eq_getElem?_getD, List.getElem?_eq_getElem h1]; rfl
  exact ⟨_, e, h2⟩
theorem latN_all {ls : List L3} {ts : List Bool} {k x v : Nat} (hv : ∃ bs, netOk bs ls = true) (h : Ln ls ts k x v) : k ∈ latN ls x := by
  obtain ⟨bs, hv⟩ := hv
  obtain ⟨l, h1, _, h3⟩ := h
  have h2 := netOk_line hv h1
  simp [lineOk, inB] at h2
  have hlt := (List.getElem?_eq_some_iff.1 h1).1
  have e : ls.getD k (0, 0, 0) = l := by rw [List.getD_eq_getElem?_getD, h1]; rfl
  rw [latN, List.mem_filter, List.mem_range, e]
  refine ⟨hlt, ?_⟩
  simp only [endsB, Bool.or_eq_true, beq_iff_eq]
  omega
theorem latN_fresh {ls : List L3} {x i k : Nat} (h : (latN ls x)[i]? = some k) : k ∉ (latN ls x).take i := by
  intro hm
  obtain ⟨j, hj, e⟩ := List.getElem_of_mem hm
  have hd := latN_nodup ls x
  obtain ⟨hi, e2⟩ := List.getElem?_eq_some_iff.1 h
  simp only [List.length_take] at hj
  rw [List.getElem_take] at e
  have := (List.getElem_inj (h₀ := by omega) (h₁ := hi) hd).1 (e.trans e2.symm)
  omega
theorem latN_step {ls : List L3} {x i k : Nat} (h : (latN ls x)[i]? = some k) (j : Nat) : (j ∈ (latN ls x).take i ∨ j = k) ↔ j ∈ (latN ls x).take (i + 1) := by
  rw [List.take_add_one, h]; simp
theorem other_end {nb : Nat} {ls : List L3} {ts : List Bool} {k x : Nat} {l : L3} (hv : netOk nb ls = true) (hl : ls[k]? = some l) (ht : ts[k]? = some true) (he : endsB l (x : Int) = true) : ∃ y : Nat, otherF nb ls k x = (y : Int) ∧ Ln ls ts k x y ∧ y < nb := by
  rcases otherF_on hv hl ht (x := x) with ⟨o, h1, h2, h3⟩ | ⟨_, h⟩
  · exact ⟨o, h1, h2, h3⟩
  · exfalso
    have h2 := netOk_line hv hl
    simp [lineOk, inB] at h2
    simp only [endsB, Bool.or_eq_true, beq_iff_eq] at he
    rcases he with e | e
    · exact h l.2.1.toNat ⟨l, hl, ht, .inl ⟨by omega, rfl⟩⟩
    · exact h l.1.toNat ⟨l, hl, ht, .inr ⟨by omega, rfl⟩⟩

section
variable {W0 w wr w' : World} {g : Nat} {s : List U2} {bs : Int} {n c : Nat} {A : Option Addr} {b2 : Nat} {v : Value} {oth : List Nat} {L : Option Addr} {lat : List Nat}
end
theorem ofN_snoc (zs : List Nat) (y : Nat) : ofN (zs ++ [y]) = ofN zs ++ [(y : Int)] := by simp [ofN]
theorem sup_some {s : List U2} {x : Nat} (hx : x < s.length) : ∃ f p, s[x]? = some (f, p) ∧ supAt s x = (f, p) :=
  ⟨s[x].1, s[x].2, List.getElem?_eq_getElem hx, supAt_get (List.getElem?_eq_getElem hx)⟩

end Go.Proofs.YtapbmpodimdkpaaDoor

/- The supplies of all buses, of the program; FedBy, ParentLine. -/
namespace Go.Proofs.YtapbmpodimdkpaaDoor
open Go.ChangeShapes Go.WideShapes Go.ChangeAt Go.RowKit

theorem sib_same (arr : Array Value) {i : Nat} {v : Value} (h : arr[i]? = some v) : arr.setIfInBounds i v = arr := by
  apply Array.ext'
  rw [Array.toList_setIfInBounds]
  rw [← Array.getElem?_toList] at h
  apply List.ext_getElem?
  intro j
  rw [List.getElem?_set]
  by_cases e : i = j
  · subst e
    have := (List.getElem?_eq_some_iff.1 h).1
    rw [if_pos rfl, if_pos this, h]
  · rw [if_neg e]
theorem row_put0 {xs : List U2} {k : Nat} {f p : Int} (h : xs[k]? = some (f, p)) (a : Int) : (rowArr fU xs).setIfInBounds (k * 2) (.int .i64 a) = rowArr fU (xs.set k (a, p)) := by
  have hk := (List.getElem?_eq_some_iff.1 h).1
  have hp := putAll_set (f := fU) fU_len (xs := xs) hk (a, p)
  rw [← hp]
  show _ = ((rowArr fU xs).setIfInBounds (k * 2) (.int .i64 a)).setIfInBounds (k * 2 + 1) (.int .i64 p)
  refine (sib_same _ ?_).symm
  rw [Array.getElem?_setIfInBounds_ne (by omega)]
  exact rowArr_get (f := fU) fU_len h 1 (by omega)
theorem leftM_congr {m m' : Nat → Bool} {nb : Nat} (h : ∀ b, b < nb → m b = m' b) : leftM m nb = leftM m' nb := by
  unfold leftM leftN
  exact List.countP_congr fun b hb => by simp only [h b (List.mem_range.1 hb)]
def lenV : Value → Nat
  | .slice _ n _ => n
  | _ => 0
/-- How much the search has left: buses that are not marked, and the queue. -/
def muQ (g nb : Nat) (v : Value) (w : World) : Nat := leftM (fun b => decide (0 ≤ intOf ((w.cell? ⟨g, b * 2, none⟩).getD undef))) nb + lenV v
theorem muQ_eq {w : World} {g nb n c : Nat} {A : Option Addr} {t : TypeId} {s : List U2} (h : IsBlk w g t (rowArr fU s)) (hl : s.length = nb) : muQ g nb (.slice A n c) w = leftM (markS s) nb + n := by
  unfold muQ lenV
  congr 1
  refine leftM_congr fun b hb => ?_
  have hg : s[b]? = some s[b] := List.getElem?_eq_getElem (by omega)
  have hget := rowArr_get (f := fU) fU_len hg
  have e := (h.cell (b * 2)).trans (hget 0 (by omega))
  rw [e, markS, supAt_get hg]; rfl
theorem mark_lt {s : List U2} {b nb : Nat} (h : markS s b = true) (hl : s.length = nb) : b < nb := by
  rcases Nat.lt_or_ge b nb with h2 | h2
  · exact h2
  · unfold markS supAt at h
    rw [List.getD_eq_getElem?_getD, List.getElem?_eq_none (by omega)] at h
    simp at h

theorem grownBy_drew (w : World) (row : Option Nat) : w.grownBy w.drew row := ⟨rfl, rfl, rfl, Nat.le_refl _, fun _ _ _ => rfl⟩
theorem grown_below {w w' : World} {g : Nat} (hg : g ≤ w.heap.size) (h : w.grownBy w' (some g)) : Below g w w' := (Below.refl g w).grown h hg (fun k hk => by cases hk; exact Nat.le_refl _)
theorem holdB {w w' : World} {X g : Nat} {u v : Value} (p0 : w.cell? ⟨X, 0, none⟩ = some u) (p1 : w.cell? ⟨X, 1, none⟩ = some v) (hX : X < g) (hb : Below g w w') :
    Below g w w' ∧ w'.cell? ⟨X, 0, none⟩ = some u ∧ w'.cell? ⟨X, 1, none⟩ = some v :=
  ⟨hb, (hb.cell (p := ⟨X, 0, none⟩) hX).trans p0, (hb.cell (p := ⟨X, 1, none⟩) hX).trans p1⟩
end Go.Proofs.YtapbmpodimdkpaaDoor

/- PathLines, BelowLine, of the program. -/
namespace Go.Proofs.YtapbmpodimdkpaaDoor
open Go.ChangeShapes Go.WideShapes Go.ChangeAt Go.RowKit

theorem hd1_nil : hd1 [] = -1 := rfl
theorem hd1_cons (k : Nat) (ws : List Nat) : hd1 (k :: ws) = (k : Int) := rfl
theorem ofN_rev (zs : List Nat) : (ofN zs).reverse = ofN zs.reverse := by simp [ofN, List.map_reverse]

theorem belTo_next (ls : List L3) (ts : List Bool) (us : List U2) (line : Int) (k : Nat) : ofN (belTo ls ts us line (k + 1)) = ofN (belTo ls ts us line k) ++ (if belB ls ts us line k = true then [(k : Int)] else []) := by
  unfold belTo
  cases h : belB ls ts us line k
  · rw [filter_no h]; simp
  · rw [filter_yes h]; simp [ofN]
theorem belTo_len (ls : List L3) (ts : List Bool) (us : List U2) (line : Int) (k : Nat) : (belTo ls ts us line k).length ≤ k := Nat.le_trans (List.length_filter_le _ _) (by simp)

end Go.Proofs.YtapbmpodimdkpaaDoor
