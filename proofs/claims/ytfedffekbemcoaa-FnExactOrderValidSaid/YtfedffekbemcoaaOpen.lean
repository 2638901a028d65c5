/- Arguments of the exact laws, opened: a slice of lines, a network. -/
import Derived.Test.YtfedffekbemcoaaBCA
import Derived.OpenShut
import Derived.Lib.SmallJoins
import Derived.Deep.Slices
import Derived.Deep.Fields
import Derived.ChangeSame
import Derived.Deep.RegionHeld
namespace Go.Proofs.Ytfedffekbemcoaa
open Go.ChangeShapes Go.WideShapes Go.ChangeAt Go.RowKit Go.Joins Go.Deep

theorem add_flat (b off k : Nat) : (Addr.mk b off none).add k = ⟨b, off + k, none⟩ := by
  unfold Addr.add; split
  · simp_all
  · rfl

theorem linesStruct : ∃ fs : Array Field, Try.prog.underlying 69 = some (.struct fs) ∧ fs.size = 3 ∧ ∀ (i : Nat) (f : Field), fs[i]? = some f → f.offset = i ∧ f.type = 3 := by
  refine ⟨_, Try.underlying69, rfl, ?_⟩
  intro i f h
  have hi : i < 3 := (Array.getElem?_eq_some_iff.1 h).1
  have : i = 0 ∨ i = 1 ∨ i = 2 := by omega
  rcases this with rfl | rfl | rfl <;> (simp at h; subst h; exact ⟨rfl, rfl⟩)

theorem openLines {H : Type} {enc : TypeId × Value → H} {w : World} {base : Nat} {spare : Nat → Bool} {held : Bool} {fuel : Nat} {v : Value} {y : DataW H × List MemPlace}
    (h : DataW.trod enc Try.prog w base spare held fuel 35 [v] = some y) : ∃ A n c ls, v = .slice A n c ∧ n ≤ 9223372036854775807 ∧ RowL w A n ls := by
  rcases open_slice Try.underlying35 h with ⟨hcs, _⟩ | ⟨a, len, cap, m, n0, D, Pl, hcs, hb, hl, hm, hmm, hx, hi⟩
  · simp at hcs
    exact ⟨none, 0, 0, [], hcs, by omega, rfl, fun h => absurd h (by omega)⟩
  · simp at hcs
    have hlm : len ≤ m := by rw [hmm]; split <;> omega
    have c3 : Try.prog.cellsOf 69 = 3 := by kernel_rfl
    have c1 : Try.prog.cellsOf 3 = 1 := by kernel_rfl
    obtain ⟨fs, hfs, hsz, hf⟩ := linesStruct
    have hone : ∀ i, ∃ l : L3, i < len → w.cell? (a.add (i * 3)) = some (.int .i64 l.1) ∧ w.cell? ((a.add (i * 3)).add 1) = some (.int .i64 l.2.1) ∧ w.cell? ((a.add (i * 3)).add 2) = some (.int .i64 l.2.2) := by
      intro i
      by_cases hil : i < len
      · obtain ⟨cs', hc, ht⟩ := hi i (by omega)
        rw [c3] at hc
        obtain ⟨_, hlen, hat⟩ := World.cells?_some hc
        obtain ⟨xs, n1, _, _, _, _, hg⟩ := DataW.trod_struct hfs ht
        have one : ∀ j, j < 3 → ∃ z, cs'[j]? = some (.int .i64 z) := by
          intro j hj
          have hfj : fs[j]? = some (fs[j]'(by omega)) := Array.getElem?_eq_getElem _
          obtain ⟨ho, hty⟩ := hf j _ hfj
          have := hg j _ hfj
          rw [ho, hty, c1] at this
          obtain ⟨yj, hyj⟩ : ∃ yj, xs[j]? = some yj := by
            rcases hx : xs[j]? with _ | yj
            · rw [hx] at this
              exfalso
              have hlx : xs.length = fs.size := by assumption
              rw [List.getElem?_eq_none_iff] at hx; omega
            · exact ⟨yj, rfl⟩
          rw [hyj] at this
          obtain ⟨z, hz, _, _⟩ := DataW.trod_int Try.underlying3 this
          refine ⟨z, ?_⟩
          have : ((cs'.drop j).take 1)[0]? = some (.int .i64 z) := by rw [hz]; rfl
          simpa using this
        obtain ⟨x, hx0⟩ := one 0 (by omega)
        obtain ⟨y, hy0⟩ := one 1 (by omega)
        obtain ⟨z, hz0⟩ := one 2 (by omega)
        refine ⟨(x, y, z), fun _ => ⟨?_, ?_, ?_⟩⟩
        · have := hat 0 (by omega); rw [hx0] at this; simpa [Addr.add] using this
        · exact (hat 1 (by omega)).trans hy0
        · exact (hat 2 (by omega)).trans hz0
      · exact ⟨(0, 0, 0), fun h => absurd h hil⟩
    obtain ⟨F, hF⟩ := Classical.skolem.1 hone
    refine ⟨some a, len, cap, (List.range len).map F, hcs, by simp only [maxLen] at hm; omega, by simp, fun hpos => ?_⟩
    have h0 := (hF 0 hpos).1
    obtain ⟨b, off, spot⟩ := a
    have hspot : spot = none := by simpa [Addr.add] using World.cell?_spot h0
    subst hspot
    refine ⟨b, off, rfl, ?_, ?_⟩
    · have := World.block_lt_of_cell? w _ h0
      simpa [Addr.add] using this
    · intro k l hk
      have hkl : k < len := by
        have := (List.getElem?_eq_some_iff.1 hk).1; simpa using this
      have hl : l = F k := by
        rw [List.getElem?_map, List.getElem?_range hkl] at hk; simpa using hk.symm
      subst hl
      have := hF k hkl
      simp only [add_flat] at this
      exact this
end Go.Proofs.Ytfedffekbemcoaa
