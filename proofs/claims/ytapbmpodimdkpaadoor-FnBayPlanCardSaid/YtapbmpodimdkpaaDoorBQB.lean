/- Texts joined: CycleLines, of the model; BridgeLines, HasCycle, of the model. -/
import Derived.Test.YtapbmpodimdkpaaDoorBQA
import Derived.Test.YtapbmpodimdkpaaDoorBCE

/- CycleLines, of the model. -/
namespace Go.Proofs.YtapbmpodimdkpaaDoor
open Go.ChangeShapes Go.WideShapes Go.ChangeAt Go.RowKit

theorem holdQ {w w' : World} {X b o o1 b' o' : Nat} {u v x y z : Value} (p0 : w.cell? ⟨X, 0, none⟩ = some u) (p1 : w.cell? ⟨X, 1, none⟩ = some v) (hX : X < w.heap.size) (g0 : w.cell? ⟨b, o, none⟩ = some x) (g1 : w.cell? ⟨b, o1, none⟩ = some y) (hbb : b < w.heap.size) (e0 : w.cell? ⟨b', o', none⟩ = some z) (hbe : b' < w.heap.size) (hb : Below w.heap.size w w') :
    Below w.heap.size w w' ∧ w'.cell? ⟨X, 0, none⟩ = some u ∧ w'.cell? ⟨X, 1, none⟩ = some v ∧ w'.cell? ⟨b, o, none⟩ = some x ∧ w'.cell? ⟨b, o1, none⟩ = some y ∧ w'.cell? ⟨b', o', none⟩ = some z :=
  ⟨hb, (hb.cell (p := ⟨X, 0, none⟩) hX).trans p0, (hb.cell (p := ⟨X, 1, none⟩) hX).trans p1, (hb.cell (p := ⟨b, o, none⟩) hbb).trans g0, (hb.cell (p := ⟨b, o1, none⟩) hbb).trans g1, (hb.cell (p := ⟨b', o', none⟩) hbe).trans e0⟩
theorem runQ {w0 w w' : World} {p : Prop} (h : Below w0.heap.size w0 w ∧ p) (hb : Below w.heap.size w w') : Below w0.heap.size w0 w' := h.1.trans (hb.mono h.1.size)
theorem samF_line {bs : Int} {ls : List L3} {ts : List Bool} {k : Nat} {l : L3} (hs : stOk bs ls ts.length = true) (hk : ls[k]? = some l) : samF bs ls ts l.1 l.2.1 = connB (edgesOn ls ts) l.1.toNat l.2.1.toNat := by
  obtain ⟨a0, a1, b0, b1⟩ := line_in hs hk
  rw [samF, hs, show inB l.1 0 (bs - 1) = true by simp [inB]; omega, show inB l.2.1 0 (bs - 1) = true by simp [inB]; omega]; rfl
theorem RowT.cast_ {w : World} {A : Option Addr} {n n' : Nat} {ts : List Bool} (h : RowT w A n ts) (e : n = n') : RowT w A n' ts := e ▸ h
/-- The memory in which the model lists lines: the network's box and an empty list. -/
theorem numSt_start (w : World) (bs : Int) (n c : Nat) (A : Option Addr) : NumSt w ((w.alloc (.cells #[.int .i64 bs, .slice A n c] 60)).alloc (.cells #[] 3)) bs n c A (.slice (some ⟨w.heap.size + 1, 0, none⟩) 0 0) [] := by
  have hown0 := own_lit (w.alloc (.cells #[.int .i64 bs, .slice A n c] 60))
  simp only [World.size_alloc] at hown0
  exact ⟨hown0, (below_bx w _).alloc (by simp) _, (IsBlk.new w 60 #[.int .i64 bs, .slice A n c]).alloc (.cells #[] 3)⟩

end Go.Proofs.YtapbmpodimdkpaaDoor

/- BridgeLines, HasCycle, of the model. -/
namespace Go.Proofs.YtapbmpodimdkpaaDoor
open Go.ChangeShapes Go.WideShapes Go.ChangeAt Go.RowKit

theorem mem_lin {bs : Int} {ls : List L3} {ts : List Bool} {k : Nat} (br : Bool) (hs : stOk bs ls ts.length = true) (hk : k < ts.length) : decide ((k : Int) ∈ linF bs ls ts br) = linB ls ts br k := by
  rw [linF_of hs, Bool.eq_iff_iff, decide_eq_true_eq, ofN_mem]
  constructor
  · rintro ⟨b, hb, e⟩
    rw [linTo, List.mem_filter] at hb
    rw [show k = b by omega]; exact hb.2
  · intro h
    exact ⟨k, by rw [linTo, List.mem_filter, List.mem_range]; exact ⟨hk, h⟩, rfl⟩
/-- While bridges are listed beside the list of the lines of cycles. -/
structure BriSt (w wr : World) (bs : Int) (n c : Nat) (A : Option Addr) (A1 : Option Addr) (n1 : Nat) (ys : List Int) (v : Value) (zs : List Int) : Prop where
  st : NumSt w wr bs n c A v zs
  row : RowZ wr A1 n1 ys
  far : ∀ b off, A1 = some ⟨b, off, none⟩ → b < wr.heap.size ∧ v.ownBlock ≠ some b
section
variable {w wr w' : World} {bs : Int} {n c : Nat} {A A1 : Option Addr} {n1 : Nat} {ys : List Int} {v : Value} {zs zs' : List Int}
theorem BriSt.next (h : BriSt w wr bs n c A A1 n1 ys v zs) (hb : Below wr.heap.size wr w') : BriSt w w' bs n c A A1 n1 ys v zs :=
  ⟨h.st.next hb, h.row.below hb, fun b off e => ⟨Nat.lt_of_lt_of_le (h.far b off e).1 hb.size, (h.far b off e).2⟩⟩
theorem BriSt.push {g' n' cap' : Nat} (h : BriSt w wr bs n c A A1 n1 ys v zs) (o : Obj) (hown : OwnI 3 w' (w.heap.size + 1) (.slice (some ⟨g', 0, none⟩) n' cap') zs') (hg : (wr.alloc o).grownBy w' v.ownBlock) (hat : v.ownBlock = some g' ∨ g' = (wr.alloc o).heap.size) :
    BriSt w w' bs n c A A1 n1 ys (.slice (some ⟨g', 0, none⟩) n' cap') zs' := by
  refine ⟨h.st.push o hown hg, (RowV.grown (h.row.below (below_bx wr o)) hg (fun b off e e2 => (h.far b off e).2 e2)), fun b off e => ?_⟩
  obtain ⟨f1, f2⟩ := h.far b off e
  have hs := hg.size
  simp only [World.size_alloc] at hs
  refine ⟨by omega, fun e2 => ?_⟩
  have e3 : g' = b := by simpa [Value.ownBlock] using e2
  rcases hat with hat | hat
  · exact f2 (by rw [hat, e3])
  · rw [World.size_alloc] at hat; omega
end

end Go.Proofs.YtapbmpodimdkpaaDoor
