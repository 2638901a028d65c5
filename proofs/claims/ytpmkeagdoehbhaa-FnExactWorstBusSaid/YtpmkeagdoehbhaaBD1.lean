/- Texts joined: The drawing of inputs (the model's own): a reader of bytes; each draw stays in its range; The drawing of a network: whatever the bytes, it is some network, in new memory. -/
import Derived.Test.YtpmkeagdoehbhaaChecked
import Derived.Test.YtpmkeagdoehbhaaBPA
import Derived.ProofKit
import Derived.Deep.QuietTactic
import Derived.BigQuiet
import Derived.Deep.DeepCutAuto
import Derived.Outline
import Derived.Laws.BitsAllLaws
import Derived.Laws.BitsLemmas
import Derived.Maps.AppendAt
import Derived.OwnWalk
import Derived.Deep.RegionWith
import Derived.Deep.LoopGhost
import Derived.Deep.AppendLies
import Derived.Deep.RegionLaw
import Derived.Deep.CutBlock

/- The drawing of inputs (the model's own): a reader of bytes; each draw stays in its range. -/
namespace Go.Proofs.Ytpmkeagdoehbhaa
open Go.ChangeShapes Go.WideShapes Go.ChangeAt Go.RowKit

/-- A slice of bytes that is read. -/
def RowB (w : World) (A : Option Addr) (n : Nat) (bs : List Int) : Prop :=
  bs.length = n ∧ (0 < n → ∃ b off, A = some ⟨b, off, none⟩ ∧ b < w.heap.size ∧ ∀ k x, bs[k]? = some x → w.cell? ⟨b, off + k, none⟩ = some (.int .u8 x)) ∧ ∀ x ∈ bs, 0 ≤ x ∧ x ≤ 255
theorem emod_lt_of (x n : Int) (h0 : 0 ≤ x) (h1 : ¬ n < 1) : 0 ≤ x.tmod n ∧ x.tmod n < n := by
  rw [Int.tmod_eq_emod_of_nonneg h0]
  exact ⟨Int.emod_nonneg _ (by omega), Int.emod_lt_of_pos _ (by omega)⟩

theorem xor_pos (v : Int) (h0 : 0 ≤ v) (h1 : v ≤ 9223372036854775807) : 0 ≤ bits .xor .i64 v (v / 64) := by
  obtain ⟨a, rfl⟩ := Int.eq_ofNat_of_zero_le h0
  have e : ((a : Int) / 64) = ((a / 64 : Nat) : Int) := by omega
  rw [e]
  have ha : a < 2 ^ 63 := by omega
  have hx : a ^^^ (a / 64) < 2 ^ 63 := Nat.xor_lt_two_pow ha (by omega)
  have ea : a % 2 ^ 64 = a := by omega
  have eb : (a / 64) % 2 ^ 64 = a / 64 := by omega
  show 0 ≤ IntKind.i64.wrap ((BitVec.ofInt 64 (a : Int) ^^^ BitVec.ofInt 64 ((a / 64 : Nat) : Int)).toNat : Int)
  rw [BitVec.toNat_xor, BitVec.ofInt_natCast, BitVec.ofInt_natCast, BitVec.toNat_ofNat, BitVec.toNat_ofNat, ea, eb, IntWalk.i64_in _ (by omega)]
  omega

end Go.Proofs.Ytpmkeagdoehbhaa

/- The drawing of a network: whatever the bytes, it is some network, in new memory. -/
namespace Go.Proofs.Ytpmkeagdoehbhaa
open Go.ChangeShapes Go.WideShapes Go.ChangeAt Go.RowKit

/-- A slice of lines of the call's own. -/
def OwnL (w : World) (base : Nat) (v : Value) (ls : List L3) : Prop := w.ownsRow base 70 3 v ls.length (ls.flatMap fL)
theorem OwnL.keep {w w' : World} {base : Nat} {v : Value} {xs : List L3} (h : OwnL w base v xs) (hb : Below w.heap.size w w') : OwnL w' base v xs :=
  World.ownsRow.kept (row := none) h ⟨hb.os, hb.tape, hb.output, hb.size, fun i hi _ => hb.block i hi⟩ (Classical.em _)
theorem OwnL.far {w w' : World} {base : Nat} {v : Value} {xs : List L3} {row : Option Nat} (h : OwnL w base v xs) (hg : w.grownBy w' row) (hne : ∀ q, v.ownBlock = some q → row ≠ some q) : OwnL w' base v xs := by
  refine World.ownsRow.kept h hg ?_
  rcases hq : v.ownBlock with _ | q
  · exact .inl rfl
  · exact .inr (fun e => hne q hq e.symm)
theorem OwnL.row {w : World} {base : Nat} {v : Value} {ls : List L3} (h : OwnL w base v ls) : ∃ A c, v = .slice A ls.length c ∧ RowL w A ls.length ls := by
  rcases h.2 with ⟨rfl, h0⟩ | ⟨g, cap, cur, rfl, hb, hg, hn, hc, hsz, ht⟩
  · exact ⟨none, 0, by rw [h0], rfl, fun hp => absurd hp (by omega)⟩
  · refine ⟨some ⟨g, 0, none⟩, cap, rfl, rfl, fun _ => ⟨g, 0, rfl, (Array.getElem?_eq_some_iff.1 hg).1, fun k l hk => ?_⟩⟩
    have hlt : k < ls.length := (List.getElem?_eq_some_iff.1 hk).1
    have one : ∀ j, j < 3 → w.cell? ⟨g, 0 + k * 3 + j, none⟩ = (fL l)[j]? := by
      intro j hj
      rw [cell_of_row w g _ cur 70 (0, 0) hg, Nat.zero_add, ← Array.getElem?_toList]
      have e := flat_get (f := fL) fL_len ls k l j hk hj
      rw [← ht, List.getElem?_take_of_lt (by omega)] at e
      exact e
    exact ⟨one 0 (by omega), one 1 (by omega), one 2 (by omega)⟩

section
variable {w0 w w' : World} {R X : Nat} {lim lim' : Int} {bs : Int} {v : Value} {ls : List L3}
end

theorem news_new (w : World) (l : L3) (t : TypeId) : ∀ j u, (fL l)[j]? = some u → (w.alloc (.cells (fL l).toArray t)).cell? ((⟨w.heap.size, 0, none⟩ : Addr).add j) = some u := by
  intro j u hj
  have h := (IsBlk.new w t (fL l).toArray).cell j
  have ha : (⟨w.heap.size, 0, none⟩ : Addr).add j = ⟨w.heap.size, j, none⟩ := by unfold Addr.add; split <;> simp_all
  rw [ha, h, ← hj]; simp
theorem news_at (_n : Nat) (w : World) {o : Obj} (l : L3) (t : TypeId) : ∀ j u, (fL l)[j]? = some u → ((w.alloc o).alloc (.cells (fL l).toArray t)).cell? ((⟨w.heap.size + 1, 0, none⟩ : Addr).add j) = some u := by
  have h := news_new (w.alloc o) l t
  simp only [World.size_alloc] at h
  exact h
theorem two_at {w : World} {g : Nat} {t : TypeId} {x y : Int} (h : w.heap[g]? = some (.cells #[.int .i64 x, .int .i64 y] t (0, 0))) {j : Int} (h0 : 0 ≤ j) (h1 : j < 2) : ∃ z, w.cell? ⟨g, j.toNat, none⟩ = some (.int .i64 z) := by
  rcases (show j = 0 ∨ j = 1 by omega) with rfl | rfl
  · exact ⟨x, IsBlk.cell h 0⟩
  · exact ⟨y, IsBlk.cell h 1⟩
theorem lineInfo : (Try.prog.info? 70).map (fun i => (i.zero, i.size, i.bytes)) = some (some (.agg #[.int .i64 0, .int .i64 0, .int .i64 0]), 3, 24) := by kernel_rfl
def lines11 : Array Value := rowArr fL (List.replicate 11 (0, 0, 0))
theorem make11 (w : World) : (Instr.makeSlice 31 (.int .i64 11) (.int .i64 11)).run Try.prog w = .ok (.slice (some ⟨w.heap.size, 0, none⟩) 11 11) (w.alloc (.cells lines11 70)) := by
  obtain ⟨i0, hi, hz0, hz1, hz2⟩ := info_parts lineInfo
  have := run_make (P := Try.prog) w 31 70 i0 _ Try.underlying31 hi hz0 .i64 .i64 11 11 (by omega) (by omega) (by rw [hz2]; omega) (by omega)
  rw [this]
  show Result.ok _ (w.alloc (.cells (madeCells (Value.agg #[.int .i64 0, .int .i64 0, .int .i64 0]).cells (11 * i0.size)) _)) = _
  rw [hz1, madeCells_row (f := fL) fL_len (Value.agg #[.int .i64 0, .int .i64 0, .int .i64 0]).cells (0, 0, 0) rfl (by omega)]
  rfl
theorem other_bus {bs va vc : Int} (h1 : 2 ≤ bs) (h2 : bs ≤ 8) (_h3 : 0 ≤ va) (h4 : va < bs) (h5 : 0 ≤ vc) (h6 : vc < bs - 1) :
    0 ≤ (va + 1 + vc) % bs ∧ (va + 1 + vc) % bs < bs ∧ (va != (va + 1 + vc) % bs) = true := by
  refine ⟨Int.emod_nonneg _ (by omega), Int.emod_lt_of_pos _ (by omega), ?_⟩
  rw [bne_iff_ne]
  rcases (show bs = 2 ∨ bs = 3 ∨ bs = 4 ∨ bs = 5 ∨ bs = 6 ∨ bs = 7 ∨ bs = 8 by omega) with rfl | rfl | rfl | rfl | rfl | rfl | rfl <;> omega
theorem lineOk_mk {bs a b m : Int} (h0 : 0 ≤ a) (h1 : a < bs) (h2 : 0 ≤ b) (h3 : b < bs) (h4 : (a != b) = true) (h5 : 1 ≤ m) (h6 : m ≤ 999) : lineOk bs (a, b, m) = true := by
  simp only [lineOk, inB, Bool.and_eq_true, decide_eq_true_eq]
  exact ⟨⟨⟨⟨h0, by omega⟩, ⟨h2, by omega⟩⟩, h4⟩, ⟨h5, h6⟩⟩
theorem all_snoc {bs : Int} {ls : List L3} {l : L3} (h : ls.all (lineOk bs) = true) (hl : lineOk bs l = true) : (ls ++ [l]).all (lineOk bs) = true := by
  rw [List.all_append, h, List.all_cons, hl]; rfl
theorem netOk_mk {bs : Int} {ls : List L3} (h1 : 1 ≤ bs) (h2 : bs ≤ 8) (h3 : ls.length ≤ 10) (h : ls.all (lineOk bs) = true) : netOk bs ls = true := by
  simp only [netOk, inB, Bool.and_eq_true, decide_eq_true_eq]; exact ⟨⟨⟨h1, h2⟩, h3⟩, h⟩
end Go.Proofs.Ytpmkeagdoehbhaa
