/- Arguments of the exact laws, opened: slices of the struct Permit (written by program). -/
import Derived.Test.YtafgfhjlkdjngaaOpen
import Derived.Test.YtafgfhjlkdjngaaSJ0
namespace Go.Proofs.Ytafgfhjlkdjngaa
open Go.ChangeShapes Go.WideShapes Go.ChangeAt Go.RowKit Go.Joins Go.Deep

def kindsJ : List TypeId := [3, 3]
theorem permitStruct : ∃ fs : Array Field, Try.prog.underlying 82 = some (.struct fs) ∧ fs.size = 2 ∧ ∀ (i : Nat) (f : Field), fs[i]? = some f → f.offset = i ∧ kindsJ[i]? = some f.type := by
  refine ⟨_, Try.underlying82, rfl, ?_⟩
  intro i f h
  have hi : i < 2 := (Array.getElem?_eq_some_iff.1 h).1
  have : i = 0 ∨ i = 1 := by omega
  rcases this with rfl | rfl <;> (simp at h; subst h; exact ⟨rfl, rfl⟩)

theorem openPermitS {H : Type} {enc : TypeId × Value → H} {w : World} {base : Nat} {spare : Nat → Bool} {held : Bool} {fuel : Nat} {v : Value} {y : DataW H × List MemPlace}
    (h : DataW.trod enc Try.prog w base spare held fuel 37 [v] = some y) : ∃ A n c us, v = .slice A n c ∧ n ≤ 9223372036854775807 ∧ RowJ w A n us := by
  rcases open_slice Try.underlying37 h with ⟨hcs, _⟩ | ⟨a, len, cap, m, n0, D, Pl, hcs, hb, hl, hm, hmm, hx, hi⟩
  · simp at hcs
    exact ⟨none, 0, 0, [], hcs, by omega, rfl, fun h => absurd h (by omega)⟩
  · simp at hcs
    have hlm : len ≤ m := by rw [hmm]; split <;> omega
    have c3 : Try.prog.cellsOf 82 = 2 := by kernel_rfl
    have c1 : Try.prog.cellsOf 3 = 1 := by kernel_rfl
    obtain ⟨fs, hfs, hsz, hf⟩ := permitStruct
    have hone : ∀ i, ∃ l : TJ, i < len → w.cell? (a.add (i * 2)) = some (.int .i64 l.1) ∧ w.cell? ((a.add (i * 2)).add 1) = some (.int .i64 l.2) := by
      intro i
      by_cases hil : i < len
      · obtain ⟨cs', hc, ht⟩ := hi i (by omega)
        rw [c3] at hc
        obtain ⟨_, hlen, hat⟩ := World.cells?_some hc
        obtain ⟨xs, n1, _, _, _, _, hg⟩ := DataW.trod_struct hfs ht
        have one0 : ∃ z, cs'[0]? = some (.int .i64 z) := by
          have hfj : fs[0]? = some (fs[0]'(by omega)) := Array.getElem?_eq_getElem _
          obtain ⟨ho, hty⟩ := hf 0 _ hfj
          have hty' : 3 = (fs[0]'(by omega)).type := by have e : kindsJ[0]? = some 3 := rfl; rw [e] at hty; exact Option.some.inj hty
          have := hg 0 _ hfj
          rw [ho, ← hty', c1] at this
          obtain ⟨yj, hyj⟩ : ∃ yj, xs[0]? = some yj := by
            rcases hx : xs[0]? with _ | yj
            · rw [hx] at this
              exfalso
              have hlx : xs.length = fs.size := by assumption
              rw [List.getElem?_eq_none_iff] at hx; omega
            · exact ⟨yj, rfl⟩
          rw [hyj] at this
          obtain ⟨z, hz, _, _⟩ := DataW.trod_int Try.underlying3 this
          refine ⟨z, ?_⟩
          have : ((cs'.drop 0).take 1)[0]? = some (.int .i64 z) := by rw [hz]; rfl
          simpa using this
        have one1 : ∃ z, cs'[1]? = some (.int .i64 z) := by
          have hfj : fs[1]? = some (fs[1]'(by omega)) := Array.getElem?_eq_getElem _
          obtain ⟨ho, hty⟩ := hf 1 _ hfj
          have hty' : 3 = (fs[1]'(by omega)).type := by have e : kindsJ[1]? = some 3 := rfl; rw [e] at hty; exact Option.some.inj hty
          have := hg 1 _ hfj
          rw [ho, ← hty', c1] at this
          obtain ⟨yj, hyj⟩ : ∃ yj, xs[1]? = some yj := by
            rcases hx : xs[1]? with _ | yj
            · rw [hx] at this
              exfalso
              have hlx : xs.length = fs.size := by assumption
              rw [List.getElem?_eq_none_iff] at hx; omega
            · exact ⟨yj, rfl⟩
          rw [hyj] at this
          obtain ⟨z, hz, _, _⟩ := DataW.trod_int Try.underlying3 this
          refine ⟨z, ?_⟩
          have : ((cs'.drop 1).take 1)[0]? = some (.int .i64 z) := by rw [hz]; rfl
          simpa using this
        obtain ⟨x, hx0⟩ := one0
        obtain ⟨y, hy0⟩ := one1
        refine ⟨(x, y), fun _ => ⟨?_, ?_⟩⟩
        · have := hat 0 (by omega); rw [hx0] at this; simpa [Addr.add] using this
        · exact (hat 1 (by omega)).trans hy0
      · exact ⟨(0, 0), fun h => absurd h hil⟩
    obtain ⟨F, hF⟩ := Classical.skolem.1 hone
    refine ⟨some a, len, cap, (List.range len).map F, hcs, by simp only [maxLen] at hm; omega, by simp, fun hpos => ?_⟩
    have h0 := (hF 0 hpos).1
    obtain ⟨b, off, spot⟩ := a
    have hspot : spot = none := by simpa [Addr.add] using World.cell?_spot h0
    subst hspot
    refine ⟨b, off, rfl, ?_, ?_⟩
    · have := World.block_lt_of_cell? w _ h0
      simpa [Addr.add] using this
    · intro k l hk
      have hkl : k < len := by
        have := (List.getElem?_eq_some_iff.1 hk).1; simpa using this
      have hl : l = F k := by
        rw [List.getElem?_map, List.getElem?_range hkl] at hk; simpa using hk.symm
      subst hl
      have := hF k hkl
      simp only [add_flat] at this
      exact this
theorem openRowJ {H : Type} {enc : TypeId × Value → H} {W : World} {A : Option Addr} {n c : Nat} {d : DataW H} {p : List MemPlace}
    (h : DataW.Trod enc Try.prog W 0 (fun _ => true) true 37 (.slice A n c) d p) : n ≤ 9223372036854775807 ∧ ∃ us, RowJ W A n us := by
  obtain ⟨fuel, hf⟩ := h
  obtain ⟨A', n', c', us, he, hn, hr⟩ := openPermitS (v := .slice A n c) hf
  injection he with e1 e2 e3
  subst e1 e2
  exact ⟨hn, us, hr⟩
end Go.Proofs.Ytafgfhjlkdjngaa
