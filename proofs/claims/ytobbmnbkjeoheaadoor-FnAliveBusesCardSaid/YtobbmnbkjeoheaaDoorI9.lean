/- IslandNumbers and SameIsland, of the model. -/
import Derived.Test.YtobbmnbkjeoheaaDoorI8
namespace Go.Proofs.YtobbmnbkjeoheaaDoor
open Go.ChangeShapes Go.WideShapes Go.ChangeAt Go.RowKit

theorem samF_rch (bs : Int) (ls : List L3) (ts : List Bool) (x y : Int) : decide (y ∈ rchF bs ls ts x) = samF bs ls ts x y := by
  rw [Bool.eq_iff_iff, decide_eq_true_eq, rchF]
  by_cases hs : stOk bs ls ts.length = true
  · by_cases hx : inB x 0 (bs - 1) = true
    · rw [if_pos ⟨hs, hx⟩]
      simp only [samF, hs, hx, Bool.true_and, Bool.and_eq_true, connB_iff]
      rw [ofN, List.mem_map]
      constructor
      · rintro ⟨b, hb, rfl⟩
        obtain ⟨h1, h2⟩ := mem_reachF.1 hb
        exact ⟨by simp [inB]; omega, by simpa using h2⟩
      · rintro ⟨h1, h2⟩
        simp [inB] at h1
        refine ⟨y.toNat, mem_reachF.2 ⟨by omega, h2⟩, by simp; omega⟩
    · rw [if_neg (fun h => hx h.2)]
      simp [samF, hx]
  · rw [if_neg (fun h => hs h.1)]
    simp [samF, hs]

/-- While the numbers of the islands are listed. -/
structure NumSt (w wr : World) (bs : Int) (n c : Nat) (A : Option Addr) (v : Value) (zs : List Int) : Prop where
  own : OwnI 3 wr (w.heap.size + 1) v zs
  bel : Below w.heap.size w wr
  box : IsBlk wr w.heap.size 25 #[.int .i64 bs, .slice A n c]
section
variable {w wr w' : World} {bs : Int} {n c : Nat} {A : Option Addr} {v v' : Value} {zs zs' : List Int}
theorem NumSt.next (h : NumSt w wr bs n c A v zs) (hb : Below wr.heap.size wr w') : NumSt w w' bs n c A v zs := ⟨OwnI.keep h.own hb, h.bel.trans (hb.mono h.bel.size), h.box.keep hb⟩
theorem NumSt.push (h : NumSt w wr bs n c A v zs) (o : Obj) (hown : OwnI 3 w' (w.heap.size + 1) v' zs') (hg : (wr.alloc o).grownBy w' v.ownBlock) : NumSt w w' bs n c A v' zs' := by
  have hlow := OwnI.lt h.own
  have hsz := h.bel.size
  refine ⟨hown, (h.bel.alloc hsz o).grown hg (by simp; omega) (fun q hq => by have := (hlow q hq).1; omega), ?_⟩
  exact (h.box.alloc o).farG hg (fun e => by have := (hlow _ e).1; omega)
end
theorem islTo_next {es : List E2} {nb k : Nat} (h : k < nb) : ofN ((islL es nb).take (k + 1)) = ofN ((islL es nb).take k) ++ [(leastF es k : Int)] := by
  rw [List.take_add_one, islL_get h]; simp [ofN]
theorem rchF_at {bs : Int} {ls : List L3} {ts : List Bool} {k : Nat} (hs : stOk bs ls ts.length = true) (hk : k < bs.toNat) : (rchF bs ls ts k)[0]? = some (leastF (edgesOn ls ts) k : Int) ∧ 0 < (rchF bs ls ts k).length := by
  have e : rchF bs ls ts k = ofN (reachF (edgesOn ls ts) bs.toNat k) := by rw [rchF, if_pos ⟨hs, by simp [inB]; omega⟩]; rfl
  have h0 := reachF_head (es := edgesOn ls ts) hk
  rw [List.head?_eq_getElem?] at h0
  rw [e]
  refine ⟨ofN_get h0, ?_⟩
  rw [ofN_len]
  exact (List.getElem?_eq_some_iff.1 h0).1

end Go.Proofs.YtobbmnbkjeoheaaDoor
