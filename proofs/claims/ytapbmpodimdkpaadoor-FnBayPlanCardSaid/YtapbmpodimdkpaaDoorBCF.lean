/- Texts joined: BusesValid, of the program and of the model; what the model's chapter 5 asks of its arguments; The sums of the islands, of the program; IslandFeed and IslandLoad, of the program; AliveBuses and ServedLoad, of the program; IslandFeed, IslandLoad, AliveBuses and ServedLoad, of the model. -/
import Derived.Test.YtapbmpodimdkpaaDoorBCA
import Derived.Test.YtapbmpodimdkpaaDoorBPC
import Derived.Test.YtapbmpodimdkpaaDoorBCD
import Derived.Test.YtapbmpodimdkpaaDoorBCE

/- BusesValid, of the program and of the model; what the model's chapter 5 asks of its arguments. -/
namespace Go.Proofs.YtapbmpodimdkpaaDoor
open Go.ChangeShapes Go.WideShapes Go.ChangeAt Go.RowKit

theorem busesOk_no {bs : Int} {ls : List L3} {us : List U2} {k : Nat} {u : U2} (hk : us[k]? = some u) (h : busOk u = false) : busesOk bs ls us = false := by
  simp [busesOk, all_stop hk h]

end Go.Proofs.YtapbmpodimdkpaaDoor

/- The sums of the islands, of the program. -/
namespace Go.Proofs.YtapbmpodimdkpaaDoor
open Go.ChangeShapes Go.WideShapes Go.ChangeAt Go.RowKit

end Go.Proofs.YtapbmpodimdkpaaDoor

/- IslandFeed and IslandLoad, of the program. -/
namespace Go.Proofs.YtapbmpodimdkpaaDoor
open Go.ChangeShapes Go.WideShapes Go.ChangeAt Go.RowKit

theorem feedF_bad {bs : Int} {ls : List L3} {ts : List Bool} {us : List U2} (h : okU bs ls ts.length us = false) (bus : Int) : feedF bs ls ts us bus = -1 ∧ loadF bs ls ts us bus = -1 := by
  rw [feedF, loadF, h]; simp
theorem feedF_out {bs : Int} {ls : List L3} {ts : List Bool} {us : List U2} {bus : Int} (h : inB bus 0 (bs - 1) = false) : feedF bs ls ts us bus = -1 ∧ loadF bs ls ts us bus = -1 := by
  rw [feedF, loadF, h]; simp
theorem feedF_in {nb b : Nat} {ls : List L3} {ts : List Bool} {us : List U2} (h : okU nb ls ts.length us = true) (hb : b < nb) : feedF nb ls ts us b = isum (edgesOn ls ts) nb (fd us) b ∧ loadF nb ls ts us b = isum (edgesOn ls ts) nb (ld us) b := by
  have hi : inB (b : Int) 0 ((nb : Int) - 1) = true := by simp [inB]; omega
  rw [feedF, loadF, h, hi]; simp

end Go.Proofs.YtapbmpodimdkpaaDoor

/- AliveBuses and ServedLoad, of the program. -/
namespace Go.Proofs.YtapbmpodimdkpaaDoor
open Go.ChangeShapes Go.WideShapes Go.ChangeAt Go.RowKit

theorem aliTo_next (es : List E2) (nb : Nat) (us : List U2) (k : Nat) : ofN (aliTo es nb us (k + 1)) = ofN (aliTo es nb us k) ++ (if aliB es nb us k = true then [(k : Int)] else []) := by
  cases h : aliB es nb us k
  · rw [aliTo_no h]; simp
  · rw [aliTo_yes h]; simp [ofN]
theorem aliF_no {bs : Int} {ls : List L3} {ts : List Bool} {us : List U2} (h : okU bs ls ts.length us = false) : aliF bs ls ts us = [] := by
  rw [aliF, if_neg (by rw [h]; decide)]
theorem serF_no {bs : Int} {ls : List L3} {ts : List Bool} {us : List U2} (h : okU bs ls ts.length us = false) : serF bs ls ts us = -1 := by
  rw [serF, if_neg (by rw [h]; decide)]
end Go.Proofs.YtapbmpodimdkpaaDoor

/- IslandFeed, IslandLoad, AliveBuses and ServedLoad, of the model. -/
namespace Go.Proofs.YtapbmpodimdkpaaDoor
open Go.ChangeShapes Go.WideShapes Go.ChangeAt Go.RowKit

theorem holdV {w w' : World} {X : Nat} {u v : Value} (p0 : w.cell? ⟨X, 0, none⟩ = some u) (p1 : w.cell? ⟨X, 1, none⟩ = some v) (hX : X < w.heap.size) (hb : Below w.heap.size w w') :
    Below w.heap.size w w' ∧ w'.cell? ⟨X, 0, none⟩ = some u ∧ w'.cell? ⟨X, 1, none⟩ = some v :=
  ⟨hb, (hb.cell (p := ⟨X, 0, none⟩) hX).trans p0, (hb.cell (p := ⟨X, 1, none⟩) hX).trans p1⟩
theorem runV {w0 w w' : World} {p : Prop} (h : Below w0.heap.size w0 w ∧ p) (hb : Below w.heap.size w w') : Below w0.heap.size w0 w' := h.1.trans (hb.mono h.1.size)
/-- The memory in which the model lists buses: the network's box and an empty list. -/
theorem numSt5 (w : World) (bs : Int) (n c : Nat) (A : Option Addr) : NumSt w ((w.alloc (.cells #[.int .i64 bs, .slice A n c] 60)).alloc (.cells #[] 3)) bs n c A (.slice (some ⟨w.heap.size + 1, 0, none⟩) 0 0) [] := by
  have hown0 := own_lit (w.alloc (.cells #[.int .i64 bs, .slice A n c] 60))
  simp only [World.size_alloc] at hown0
  exact ⟨hown0, (below_bx w _).alloc (by simp) _, (IsBlk.new w 60 #[.int .i64 bs, .slice A n c]).alloc (.cells #[] 3)⟩

end Go.Proofs.YtapbmpodimdkpaaDoor
