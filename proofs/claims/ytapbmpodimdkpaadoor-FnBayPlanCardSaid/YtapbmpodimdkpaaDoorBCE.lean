/- Texts joined: l3Reach and Reached, of the model; Reached, IslandNumbers, SameIsland, of the model; IslandNumbers and SameIsland, of the model; Slices of slices of numbers, of the call's own: what they are, how they stay, how they grow; IslandsOf, of the program and of the model. -/
import Derived.Test.YtapbmpodimdkpaaDoorBCD
import Derived.OwnWalk

/- l3Reach and Reached, of the model. -/
namespace Go.Proofs.YtapbmpodimdkpaaDoor
open Go.ChangeShapes Go.WideShapes Go.ChangeAt Go.RowKit

def truthsB (s : List Bool) : Array Value := (s.map Value.bool).toArray
theorem truthsB_set (s : List Bool) (a : Nat) (t : Bool) : (truthsB s).setIfInBounds a (.bool t) = truthsB (s.set a t) := by
  apply Array.ext'
  simp [truthsB, List.map_set]
theorem truthsB_made (n : Nat) : madeCells (Value.bool false).cells n = truthsB (List.replicate n false) := by
  apply Array.ext_getElem?
  intro i
  by_cases hi : i < n
  · simp [madeCells, truthsB, hi, Value.cells, Nat.mod_one]
  · rw [Array.getElem?_eq_none (by rw [size_madeCells]; omega), Array.getElem?_eq_none (by simp [truthsB]; omega)]

/-- While marks spread: they lie in a block of the call's own. -/
structure MarkSt (nb n c : Nat) (A : Option Addr) (w wx : World) (g : Nat) (s : List Bool) : Prop where
  lt : w.heap.size < g
  bel : Below w.heap.size w wx
  box : IsBlk wx w.heap.size 60 #[.int .i64 (nb : Int), .slice A n c]
  blk : IsBlk wx g 4 (truthsB s)
  len : s.length = nb
section
variable {nb n c : Nat} {A : Option Addr} {w wx w' : World} {g : Nat} {s : List Bool}
theorem MarkSt.next (h : MarkSt nb n c A w wx g s) (hb : Below wx.heap.size wx w') : MarkSt nb n c A w w' g s :=
  ⟨h.lt, h.bel.trans (hb.mono h.bel.size), h.box.keep hb, h.blk.keep hb, h.len⟩
theorem MarkSt.cell {k : Nat} {t : Bool} (h : MarkSt nb n c A w wx g s) (hz : s[k]? = some t) : wx.cell? ⟨g, k, none⟩ = some (.bool t) := by
  rw [h.blk.cell]; simp [truthsB, hz]
theorem MarkSt.put {a : Nat} {t : Bool} (h : MarkSt nb n c A w wx g s) : MarkSt nb n c A w (wx.setCell ⟨g, a, none⟩ (.bool t)) g (s.set a t) := by
  have hl := h.lt
  refine ⟨h.lt, h.bel.setCell (Nat.le_of_lt h.lt) _, h.box.far (by simp; omega) _, ?_, by simp [h.len]⟩
  rw [← truthsB_set]
  exact h.blk.put a _
end

end Go.Proofs.YtapbmpodimdkpaaDoor

/- Reached, IslandNumbers, SameIsland, of the model. -/
namespace Go.Proofs.YtapbmpodimdkpaaDoor
open Go.ChangeShapes Go.WideShapes Go.ChangeAt Go.RowKit

theorem own_lit (w : World) : OwnI 3 (w.alloc (.cells #[] 3)) w.heap.size (.slice (some ⟨w.heap.size, 0, none⟩) 0 0) [] := by
  have := World.ownsRow_lit (base := w.heap.size) (size := 1) (e := 3) w #[] 0 (by omega) (by decide) rfl
  simpa [OwnI] using this

/-- While a list grows beside a block that is read. -/
structure RchSt (w wr : World) (bs : Int) (n c : Nat) (A : Option Addr) (g2 : Nat) (t2 : TypeId) (cur2 : Array Value) (v : Value) (zs : List Int) : Prop where
  own : OwnI 3 wr (w.heap.size + 1) v zs
  bel : Below w.heap.size w wr
  box : IsBlk wr w.heap.size 60 #[.int .i64 bs, .slice A n c]
  blk : IsBlk wr g2 t2 cur2
  far : v.ownBlock ≠ some g2
theorem RchSt.push {w wr w' : World} {bs : Int} {n c : Nat} {A : Option Addr} {g2 : Nat} {t2 : TypeId} {cur2 : Array Value} {v : Value} {zs zs' : List Int} {g' n' cap' : Nat} (h : RchSt w wr bs n c A g2 t2 cur2 v zs) (o : Obj)
    (hown : OwnI 3 w' (w.heap.size + 1) (.slice (some ⟨g', 0, none⟩) n' cap') zs') (hg : (wr.alloc o).grownBy w' v.ownBlock) (hat : v.ownBlock = some g' ∨ g' = (wr.alloc o).heap.size) :
    RchSt w w' bs n c A g2 t2 cur2 (.slice (some ⟨g', 0, none⟩) n' cap') zs' := by
  have hlow := OwnI.lt h.own
  have hk := h.blk.lt
  have hsz := h.bel.size
  have hb := h.box.lt
  refine ⟨hown, (h.bel.alloc hsz o).grown hg (by simp; omega) (fun q hq => by have := (hlow q hq).1; omega), ?_, ?_, ?_⟩
  · exact (h.box.alloc o).farG hg (fun e => by have := (hlow _ e).1; omega)
  · exact (h.blk.alloc o).farG hg (fun e => h.far e)
  · intro e
    have e' : g' = g2 := by simpa [Value.ownBlock] using e
    rcases hat with hat | hat
    · exact h.far (by rw [hat, e'])
    · rw [World.size_alloc] at hat; omega

end Go.Proofs.YtapbmpodimdkpaaDoor

/- IslandNumbers and SameIsland, of the model. -/
namespace Go.Proofs.YtapbmpodimdkpaaDoor
open Go.ChangeShapes Go.WideShapes Go.ChangeAt Go.RowKit

theorem samF_rch (bs : Int) (ls : List L3) (ts : List Bool) (x y : Int) : decide (y ∈ rchF bs ls ts x) = samF bs ls ts x y := by
  rw [Bool.eq_iff_iff, decide_eq_true_eq, rchF]
  by_cases hs : stOk bs ls ts.length = true
  · by_cases hx : inB x 0 (bs - 1) = true
    · rw [if_pos ⟨hs, hx⟩]
      simp only [samF, hs, hx, Bool.true_and, Bool.and_eq_true, connB_iff]
      rw [ofN, List.mem_map]
      constructor
      · rintro ⟨b, hb, rfl⟩
        obtain ⟨h1, h2⟩ := mem_reachF.1 hb
        exact ⟨by simp [inB]; omega, by simpa using h2⟩
      · rintro ⟨h1, h2⟩
        simp [inB] at h1
        refine ⟨y.toNat, mem_reachF.2 ⟨by omega, h2⟩, by simp; omega⟩
    · rw [if_neg (fun h => hx h.2)]
      simp [samF, hx]
  · rw [if_neg (fun h => hs h.1)]
    simp [samF, hs]

/-- While the numbers of the islands are listed. -/
structure NumSt (w wr : World) (bs : Int) (n c : Nat) (A : Option Addr) (v : Value) (zs : List Int) : Prop where
  own : OwnI 3 wr (w.heap.size + 1) v zs
  bel : Below w.heap.size w wr
  box : IsBlk wr w.heap.size 60 #[.int .i64 bs, .slice A n c]
section
variable {w wr w' : World} {bs : Int} {n c : Nat} {A : Option Addr} {v v' : Value} {zs zs' : List Int}
theorem NumSt.next (h : NumSt w wr bs n c A v zs) (hb : Below wr.heap.size wr w') : NumSt w w' bs n c A v zs := ⟨OwnI.keep h.own hb, h.bel.trans (hb.mono h.bel.size), h.box.keep hb⟩
theorem NumSt.push (h : NumSt w wr bs n c A v zs) (o : Obj) (hown : OwnI 3 w' (w.heap.size + 1) v' zs') (hg : (wr.alloc o).grownBy w' v.ownBlock) : NumSt w w' bs n c A v' zs' := by
  have hlow := OwnI.lt h.own
  have hsz := h.bel.size
  refine ⟨hown, (h.bel.alloc hsz o).grown hg (by simp; omega) (fun q hq => by have := (hlow q hq).1; omega), ?_⟩
  exact (h.box.alloc o).farG hg (fun e => by have := (hlow _ e).1; omega)
end
theorem islTo_next {es : List E2} {nb k : Nat} (h : k < nb) : ofN ((islL es nb).take (k + 1)) = ofN ((islL es nb).take k) ++ [(leastF es k : Int)] := by
  rw [List.take_add_one, islL_get h]; simp [ofN]
theorem rchF_at {bs : Int} {ls : List L3} {ts : List Bool} {k : Nat} (hs : stOk bs ls ts.length = true) (hk : k < bs.toNat) : (rchF bs ls ts k)[0]? = some (leastF (edgesOn ls ts) k : Int) ∧ 0 < (rchF bs ls ts k).length := by
  have e : rchF bs ls ts k = ofN (reachF (edgesOn ls ts) bs.toNat k) := by rw [rchF, if_pos ⟨hs, by simp [inB]; omega⟩]; rfl
  have h0 := reachF_head (es := edgesOn ls ts) hk
  rw [List.head?_eq_getElem?] at h0
  rw [e]
  refine ⟨ofN_get h0, ?_⟩
  rw [ofN_len]
  exact (List.getElem?_eq_some_iff.1 h0).1

end Go.Proofs.YtapbmpodimdkpaaDoor

/- Slices of slices of numbers, of the call's own: what they are, how they stay, how they grow. -/
namespace Go.Proofs.YtapbmpodimdkpaaDoor
open Go.ChangeShapes Go.WideShapes Go.ChangeAt Go.RowKit

theorem sliceInfo : (Tryd.prog.info? 34).map (fun i => (i.zero, i.size, i.bytes)) = some (some (.slice none 0 0), 1, 24) := by kernel_rfl

/-- A slice of slices of numbers, all of the call's own from base on, no two in one block. -/
structure OwnVS (w : World) (base : Nat) (v : Value) (vs : List Value) (xss : List (List Int)) : Prop where
  row : w.ownsRow base 34 1 v xss.length vs
  each : ∀ (k : Nat) (u : Value) (zs : List Int), vs[k]? = some u → xss[k]? = some zs → OwnI 3 w base u zs
  off : ∀ (k : Nat) (u : Value) (q : Nat), vs[k]? = some u → u.ownBlock = some q → v.ownBlock ≠ some q
  apart : ∀ (j k : Nat) (u u' : Value) (q : Nat), vs[j]? = some u → vs[k]? = some u' → u.ownBlock = some q → u'.ownBlock = some q → j = k
def OwnSS (w : World) (base : Nat) (v : Value) (xss : List (List Int)) : Prop := ∃ vs, OwnVS w base v vs xss
section
variable {w w' : World} {base : Nat} {v u : Value} {vs : List Value} {xss : List (List Int)}
theorem OwnVS.len (h : OwnVS w base v vs xss) : vs.length = xss.length := by have := h.row.1; omega
theorem OwnVS.nil {w : World} {base : Nat} : OwnVS w base (.slice none 0 0) [] [] :=
  ⟨World.ownsRow_nil _ _ _ _, fun k u zs h => by simp at h, fun k u q h => by simp at h, fun j k u u' q h => by simp at h⟩
theorem OwnVS.lit (w : World) : OwnVS (w.alloc (.cells #[] 34)) w.heap.size (.slice (some ⟨w.heap.size, 0, none⟩) 0 0) [] [] :=
  ⟨by have := World.ownsRow_lit (base := w.heap.size) (size := 1) (e := 34) w #[] 0 (by omega) (by decide) rfl; simpa using this, fun k u zs h => by simp at h, fun k u q h => by simp at h, fun j k u u' q h => by simp at h⟩
theorem OwnVS.grow (h : OwnVS w base v vs xss) {row : Option Nat} (hg : w.grownBy w' row) (h1 : ∀ q, row = some q → q < base) : OwnVS w' base v vs xss := by
  have far : ∀ u' : Value, (∀ q, u'.ownBlock = some q → base ≤ q) → u'.ownBlock = none ∨ u'.ownBlock ≠ row := by
    intro u' hu
    rcases hq : u'.ownBlock with _ | q
    · exact .inl rfl
    · exact .inr (fun e => by have := h1 q e.symm; have := hu q hq; omega)
  refine ⟨?_, fun k u zs hu hz => ?_, h.off, h.apart⟩
  · exact World.ownsRow.kept h.row hg (far v (fun q hq => (World.ownsRow.lt h.row q hq).1))
  · exact World.ownsRow.kept (h.each k u zs hu hz) hg (far u (fun q hq => (World.ownsRow.lt (h.each k u zs hu hz) q hq).1))
theorem OwnVS.keep (h : OwnVS w base v vs xss) (hb : Below w.heap.size w w') : OwnVS w' base v vs xss := by
  have hg : w.grownBy w' none := ⟨hb.os, hb.tape, hb.output, hb.size, fun i hi _ => hb.block i hi⟩
  exact h.grow hg (fun q hq => by cases hq)
theorem OwnVS.more {base' : Nat} (h : OwnVS w base v vs xss) (hb : base' ≤ base) : OwnVS w base' v vs xss := by
  refine ⟨⟨h.row.1, ?_⟩, fun k u zs hu hz => (h.each k u zs hu hz).more hb, h.off, h.apart⟩
  rcases h.row.2 with h2 | ⟨g, cap, cur, h1, h2, h3⟩
  · exact .inl h2
  · exact .inr ⟨g, cap, cur, h1, Nat.le_trans hb h2, h3⟩
/-- A slice that was made later is appended. -/
theorem OwnVS.push {w0 : World} {zs : List Int} {g' n' cap' : Nat} (h : OwnVS w0 base v vs xss) (hb : Below w0.heap.size w0 w) (hu : OwnI 3 w w0.heap.size u zs) (hbase : base ≤ w0.heap.size) (o : Obj)
    (hown : w'.ownsRow base 34 1 (.slice (some ⟨g', 0, none⟩) n' cap') (xss.length + 1) (vs ++ [u])) (hg : (w.alloc o).grownBy w' v.ownBlock) (hat : v.ownBlock = some g' ∨ g' = (w.alloc o).heap.size) :
    OwnVS w' base (.slice (some ⟨g', 0, none⟩) n' cap') (vs ++ [u]) (xss ++ [zs]) := by
  have hl := h.len
  have hv : ∀ q, v.ownBlock = some q → base ≤ q ∧ q < w0.heap.size := fun q hq => World.ownsRow.lt h.row q hq
  have hul := OwnI.lt hu
  have hsz := hb.size
  have each : ∀ (k : Nat) (u' : Value) (q : Nat), vs[k]? = some u' → u'.ownBlock = some q → base ≤ q ∧ q < w0.heap.size := by
    intro k u' q hk hq
    obtain ⟨zs', hz⟩ : ∃ zs', xss[k]? = some zs' := ⟨_, List.getElem?_eq_getElem (by have := (List.getElem?_eq_some_iff.1 hk).1; omega)⟩
    exact OwnI.lt (h.each k u' zs' hk hz) q hq
  have at_ : ∀ {α : Type} {l : List α} {x y : α} {k : Nat}, (l ++ [x])[k]? = some y → (k < l.length ∧ l[k]? = some y) ∨ (k = l.length ∧ y = x) := by
    intro α l x y k hk
    rcases Nat.lt_or_ge k l.length with h1 | h1
    · rw [List.getElem?_append_left h1] at hk; exact .inl ⟨h1, hk⟩
    · have h2 : k < (l ++ [x]).length := (List.getElem?_eq_some_iff.1 hk).1
      have h3 : k = l.length := by simp at h2; omega
      subst h3
      simp at hk; exact .inr ⟨rfl, hk.symm⟩
  have newOff : ∀ q, q < w.heap.size → v.ownBlock ≠ some q → (Value.slice (some ⟨g', 0, none⟩) n' cap').ownBlock ≠ some q := by
    intro q hq hne e
    have e' : g' = q := by simpa [Value.ownBlock] using e
    rcases hat with hat | hat
    · exact hne (by rw [hat, e'])
    · rw [World.size_alloc] at hat; omega
  refine ⟨by simpa using hown, fun k u' zs' hk hz => ?_, fun k u' q hk hq => ?_, fun j k u1 u2 q hj hk h1 h2 => ?_⟩
  · rcases at_ hk with ⟨hk1, hk2⟩ | ⟨hk1, rfl⟩
    · rw [List.getElem?_append_left (by omega)] at hz
      have h0 : OwnI 3 w base u' zs' := OwnI.keep (h.each k u' zs' hk2 hz) hb
      exact OwnI.far (h0.alloc o) hg (fun q hq e => h.off k u' q hk2 hq e)
    · have hz' : zs' = zs := by
        have : (xss ++ [zs])[xss.length]? = some zs' := by rw [← hl, ← hk1]; exact hz
        simpa using this.symm
      subst hz'
      exact OwnI.far ((hu.more hbase).alloc o) hg (fun q hq e => by have := (hul q hq).1; have := (hv q e).2; omega)
  · rcases at_ hk with ⟨hk1, hk2⟩ | ⟨hk1, rfl⟩
    · exact newOff q (by have := (each k u' q hk2 hq).2; omega) (h.off k u' q hk2 hq)
    · exact newOff q (hul q hq).2 (fun e => by have := (hul q hq).1; have := (hv q e).2; omega)
  · rcases at_ hj with ⟨hj1, hj2⟩ | ⟨hj1, rfl⟩
    · rcases at_ hk with ⟨hk1, hk2⟩ | ⟨hk1, rfl⟩
      · exact h.apart j k u1 u2 q hj2 hk2 h1 h2
      · have := (each j u1 q hj2 h1).2; have := (hul q h2).1; omega
    · rcases at_ hk with ⟨hk1, hk2⟩ | ⟨hk1, rfl⟩
      · have := (each k u2 q hk2 h2).2; have := (hul q h1).1; omega
      · omega
/-- One row, and what is left when it is written anew. -/
theorem OwnSS.at_ {k : Nat} (h : OwnSS w base v xss) (hk : k < xss.length) : ∃ g cap u zs, v = .slice (some ⟨g, 0, none⟩) xss.length cap ∧ base ≤ g ∧ g < w.heap.size ∧ xss[k]? = some zs ∧ w.cell? ⟨g, k, none⟩ = some u ∧ OwnI 3 w base u zs ∧
    ∀ (w' : World) (zs' : List Int), w.grownBy w' u.ownBlock → OwnI 3 w' base u zs' → OwnSS w' base v (xss.set k zs') := by
  obtain ⟨vs, h⟩ := h
  have hl := h.len
  rcases h.row.2 with ⟨h1, h2⟩ | ⟨g, cap, cur, h1, h2, h3, h4, h5, h6, h7⟩
  · omega
  · obtain ⟨u, hu⟩ : ∃ u, vs[k]? = some u := ⟨_, List.getElem?_eq_getElem (by omega)⟩
    obtain ⟨zs, hz⟩ : ∃ zs, xss[k]? = some zs := ⟨_, List.getElem?_eq_getElem hk⟩
    have hg : IsBlk w g 34 cur := h3
    refine ⟨g, cap, u, zs, h1, h2, hg.lt, hz, ?_, h.each k u zs hu hz, fun w' zs' hgr hown => ?_⟩
    · rw [hg.cell, ← Array.getElem?_toList]
      rw [Nat.mul_one] at h7
      rw [← h7, List.getElem?_take_of_lt hk] at hu
      exact hu
    · refine ⟨vs, ⟨?_, fun j u' zs2 hj hz2 => ?_, h.off, h.apart⟩⟩
      · rw [List.length_set]
        refine World.ownsRow.kept h.row hgr ?_
        rcases hq : v.ownBlock with _ | q
        · exact .inl rfl
        · exact .inr (fun e => h.off k u q hu e.symm hq)
      · by_cases hjk : k = j
        · subst hjk
          rw [List.getElem?_set_self hk] at hz2
          injection hz2 with hz2; subst hz2
          rw [hu] at hj; injection hj with hj; subst hj
          exact hown
        · rw [List.getElem?_set_ne hjk] at hz2
          refine OwnI.far (h.each j u' zs2 hj hz2) hgr (fun q hq e => hjk (h.apart k j u u' q hu hj e hq))
theorem OwnSS.form (h : OwnSS w base v xss) : ∃ A cap, v = .slice A xss.length cap := by
  obtain ⟨vs, h⟩ := h
  rcases h.row.2 with ⟨h1, h2⟩ | ⟨g, cap, cur, h1, h2⟩
  · exact ⟨none, 0, by rw [h2]; exact h1⟩
  · exact ⟨_, cap, h1⟩
theorem OwnSS.keep (h : OwnSS w base v xss) (hb : Below w.heap.size w w') : OwnSS w' base v xss := let ⟨vs, h⟩ := h; ⟨vs, h.keep hb⟩
theorem OwnSS.alloc (h : OwnSS w base v xss) (o : Obj) : OwnSS (w.alloc o) base v xss := h.keep (below_bx w o)
theorem OwnSS.grow (h : OwnSS w base v xss) {row : Option Nat} (hg : w.grownBy w' row) (h1 : ∀ q, row = some q → q < base) : OwnSS w' base v xss := let ⟨vs, h⟩ := h; ⟨vs, h.grow hg h1⟩
theorem OwnSS.more {base' : Nat} (h : OwnSS w base v xss) (hb : base' ≤ base) : OwnSS w base' v xss := let ⟨vs, h⟩ := h; ⟨vs, h.more hb⟩
theorem OwnSS.drewN (h : OwnSS w base v xss) (n : Nat) : OwnSS (w.drewN n) base v xss := h.keep (below_drewN (Below.refl _ _) n)
end
end Go.Proofs.YtapbmpodimdkpaaDoor

/- IslandsOf, of the program and of the model. -/
namespace Go.Proofs.YtapbmpodimdkpaaDoor
open Go.ChangeShapes Go.WideShapes Go.ChangeAt Go.RowKit

/-- The islands whose first bus is less than k. -/
noncomputable def iofTo (es : List E2) (nb k : Nat) : List (List Int) := (heads es k).map fun b => ofN (reachF es nb b)
theorem iofTo_yes {es : List E2} {nb k : Nat} (h : leastF es k = k) : iofTo es nb (k + 1) = iofTo es nb k ++ [ofN (reachF es nb k)] := by rw [iofTo, heads_yes h, List.map_append]; rfl
theorem iofTo_no {es : List E2} {nb k : Nat} (h : leastF es k ≠ k) : iofTo es nb (k + 1) = iofTo es nb k := by rw [iofTo, heads_no h]; rfl
theorem iofTo_len (es : List E2) (nb k : Nat) : (iofTo es nb k).length ≤ k := by rw [iofTo, List.length_map]; exact heads_len es k

end Go.Proofs.YtapbmpodimdkpaaDoor
