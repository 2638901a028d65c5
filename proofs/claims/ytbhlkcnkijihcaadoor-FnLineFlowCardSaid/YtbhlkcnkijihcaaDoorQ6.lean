/- BridgeLines, HasCycle, of the model. -/
import Derived.Test.YtbhlkcnkijihcaaDoorQ5
namespace Go.Proofs.YtbhlkcnkijihcaaDoor
open Go.ChangeShapes Go.WideShapes Go.ChangeAt Go.RowKit

theorem mem_lin {bs : Int} {ls : List L3} {ts : List Bool} {k : Nat} (br : Bool) (hs : stOk bs ls ts.length = true) (hk : k < ts.length) : decide ((k : Int) ∈ linF bs ls ts br) = linB ls ts br k := by
  rw [linF_of hs, Bool.eq_iff_iff, decide_eq_true_eq, ofN_mem]
  constructor
  · rintro ⟨b, hb, e⟩
    rw [linTo, List.mem_filter] at hb
    rw [show k = b by omega]; exact hb.2
  · intro h
    exact ⟨k, by rw [linTo, List.mem_filter, List.mem_range]; exact ⟨hk, h⟩, rfl⟩
/-- While bridges are listed beside the list of the lines of cycles. -/
structure BriSt (w wr : World) (bs : Int) (n c : Nat) (A : Option Addr) (A1 : Option Addr) (n1 : Nat) (ys : List Int) (v : Value) (zs : List Int) : Prop where
  st : NumSt w wr bs n c A v zs
  row : RowZ wr A1 n1 ys
  far : ∀ b off, A1 = some ⟨b, off, none⟩ → b < wr.heap.size ∧ v.ownBlock ≠ some b
section
variable {w wr w' : World} {bs : Int} {n c : Nat} {A A1 : Option Addr} {n1 : Nat} {ys : List Int} {v : Value} {zs zs' : List Int}
theorem BriSt.next (h : BriSt w wr bs n c A A1 n1 ys v zs) (hb : Below wr.heap.size wr w') : BriSt w w' bs n c A A1 n1 ys v zs :=
  ⟨h.st.next hb, h.row.below hb, fun b off e => ⟨Nat.lt_of_lt_of_le (h.far b off e).1 hb.size, (h.far b off e).2⟩⟩
theorem BriSt.push {g' n' cap' : Nat} (h : BriSt w wr bs n c A A1 n1 ys v zs) (o : Obj) (hown : OwnI 3 w' (w.heap.size + 1) (.slice (some ⟨g', 0, none⟩) n' cap') zs') (hg : (wr.alloc o).grownBy w' v.ownBlock) (hat : v.ownBlock = some g' ∨ g' = (wr.alloc o).heap.size) :
    BriSt w w' bs n c A A1 n1 ys (.slice (some ⟨g', 0, none⟩) n' cap') zs' := by
  refine ⟨h.st.push o hown hg, (RowV.grown (h.row.below (below_bx wr o)) hg (fun b off e e2 => (h.far b off e).2 e2)), fun b off e => ?_⟩
  obtain ⟨f1, f2⟩ := h.far b off e
  have hs := hg.size
  simp only [World.size_alloc] at hs
  refine ⟨by omega, fun e2 => ?_⟩
  have e3 : g' = b := by simpa [Value.ownBlock] using e2
  rcases hat with hat | hat
  · exact f2 (by rw [hat, e3])
  · rw [World.size_alloc] at hat; omega
end

theorem specHas_any (bs : Int) (A : Option Addr) (n c : Nat) (ls : List L3) (B : Option Addr) (m d : Nat) (ts : List Bool) (w : World) (hn : n ≤ 1048576) (hr : RowL w A n ls) (hm : m ≤ 1048576) (hrt : RowT w B m ts) :
    Calls Tryd.prog 69 #[.agg #[.int .i64 bs, .slice A n c], .slice B m d] w fun e w' => e = .returned (.bool (hasF bs ls ts)) ∧ Below w.heap.size w w' := by
  have hbx := below_bx w (.cells #[.int .i64 bs, .slice A n c] 25)
  go_enter Tryd.func69, Tryd.ntmps69
  go_wp2_with fail
  refine (specCyc_any bs _ n c ls _ m d ts _ hn (hr.below hbx) hm (hrt.below hbx)).mono ?_
  rintro e w1 ⟨v, rfl, hO, hb1⟩
  obtain ⟨A1, c1, rfl, _⟩ := hO.sl
  go_wp2
  go_ret
  exact ⟨retB (by rw [hasF_eq]; first | rfl | (rw [decide_eq_decide]; omega)), hbx.trans (hb1.mono (by simp))⟩
end Go.Proofs.YtbhlkcnkijihcaaDoor
