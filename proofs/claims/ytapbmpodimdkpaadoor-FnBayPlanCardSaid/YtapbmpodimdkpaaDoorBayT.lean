/- Bays: the table of what must be open, off a row's condition. -/
import Derived.Test.YtapbmpodimdkpaaDoorBay1
import Derived.Test.YtapbmpodimdkpaaDoorOpen2
import Derived.LaidLaws
import Derived.Lib.LaidTab
import Derived.ChangeSlices
namespace Go.Proofs.YtapbmpodimdkpaaDoor
open Go.ChangeShapes Go.WideShapes Go.ChangeAt Go.RowKit Go.Joins Go.Deep

def mustDat (d : Nat) : DataW Unit := if mustP d = [] then .nil else .slice ((mustP d).map fun (p : Nat) => .lit (.int .i64 (p : Int))) []
theorem lits_inj {zs ys : List Int} (h : (zs.map fun n => (DataW.lit (.int .i64 n) : DataW Unit)) = ys.map fun n => .lit (.int .i64 n)) : zs = ys := by
  induction zs generalizing ys with
  | nil => cases ys with
    | nil => rfl
    | cons y ys => cases h
  | cons z zs ih => cases ys with
    | nil => cases h
    | cons y ys =>
      rw [List.map_cons, List.map_cons] at h
      injection h with h1 h2
      injection h1 with h1
      injection h1 with _ h1
      rw [h1, ih h2]
theorem must_row {W : World} {x : DataW Unit × List MemPlace} {d fuel : Nat} {cs : List Value} (h : DataW.trod (fun _ => ()) Tryd.prog W 0 (fun _ => true) false fuel 34 cs = some x) (hx : x.1 = mustDat d) :
    ∃ A c, cs = [.slice A (mustP d).length c] ∧ RowZ W A (mustP d).length ((mustP d).map fun (p : Nat) => (p : Int)) := by
  rw [mustDat] at hx
  rcases open_ints Tryd.underlying34 Tryd.underlying3 (by kernel_rfl) h with ⟨rfl, rfl⟩ | ⟨a, len, cap, zs, rfl, _, hl, hm, hz, rfl, hcell, _⟩
  · split at hx
    · rename_i e
      rw [e]
      exact ⟨none, 0, rfl, RowZ.none_⟩
    · cases hx
  · split at hx
    · cases hx
    · dsimp only at hx
      injection hx with h1 h2
      have h1' : zs.take len = (mustP d).map fun (p : Nat) => (p : Int) := lits_inj (by rw [List.map_map]; exact h1)
      have h2' : zs.drop len = [] := lits_inj (ys := []) h2
      have hlen : zs.length = len := by
        have h3 := congrArg List.length h2'
        simp only [List.length_drop, List.length_nil] at h3
        have : len ≤ zs.length := by rw [hz]; split <;> omega
        omega
      rw [List.take_of_length_le (by omega)] at h1'
      have hpl : (mustP d).length = len := by rw [← hlen, h1']; simp
      rw [hpl]
      refine ⟨some a, cap, rfl, rowV_of (c := len) (by simp [hpl]) (Nat.le_refl _) fun i hi => ⟨_, hcell i (by omega), fun hin => ?_⟩⟩
      rw [← h1', List.getElem?_map, List.getD_eq_getElem?_getD, List.getElem?_eq_getElem (by omega)]; rfl
theorem must_named : Tryd.prog.globalNamed "loop.example/powercontrol/impl.mustBeOpen" = some 0 := by kernel_rfl
theorem must_of_laid {W : World} {D : DataW Unit} {rest : List (String × DataW Unit)} (hD : D = .agg ((List.range 8).map mustDat)) (h : laidMet Tryd.prog (("loop.example/powercontrol/impl.mustBeOpen", D) :: rest) W) : MustTab W := by
  subst hD
  obtain ⟨ps, ⟨g', t', cs, fuel, p, q, hg', ht', hvar, hd, _, _⟩, _⟩ := h
  obtain rfl := Option.some.inj (must_named.symm.trans hg')
  have hty : (Tryd.prog.globals[0]?).map (·.type) = some 69 := by kernel_rfl
  obtain rfl := Option.some.inj (hty.symm.trans ht')
  have hce : Tryd.prog.cellsOf 34 = 1 := by kernel_rfl
  have hct : Tryd.prog.cellsOf 69 = 8 := by kernel_rfl
  cases fuel with
  | zero => simp [DataW.trod] at hd
  | succ fuel =>
    simp only [DataW.trod, Tryd.underlying69, hce, hct, Nat.mul_one] at hd
    split at hd
    · rename_i hl
      obtain ⟨xs, hm, hx⟩ := Option.map_eq_some_iff.1 hd
      have hxs : xs.map (·.1) = (List.range 8).map mustDat := by
        have := congrArg Prod.fst hx
        simpa using this
      intro d hd8
      obtain ⟨b, hb, hf⟩ := Lib.mapM_at hm d d (by simp [hd8])
      have h2 : (xs.map (·.1))[d]? = some b.1 := by rw [List.getElem?_map, hb]; rfl
      rw [hxs, List.getElem?_map, List.getElem?_range hd8] at h2
      injection h2 with h2
      obtain ⟨A, c, hc, hr⟩ := must_row hf h2.symm
      refine ⟨A, c, ?_, hr⟩
      rw [World.var?_cell must_named hvar d]
      have h1 := congrArg (·[0]?) hc
      simpa [List.getElem?_take, List.getElem?_drop] using h1
    · cases hd
theorem var_keep {W W' : World} {n : String} {g : Nat} {cs : Array Value} (hg : Tryd.prog.globalNamed n = some g) (h : W.var? Tryd.prog n = some cs) (hb : Below W.heap.size W W') : W'.var? Tryd.prog n = some cs := by
  simp only [World.var?, hg, Option.bind_some] at h ⊢
  have hlt : g < W.heap.size := by
    rcases Nat.lt_or_ge g W.heap.size with h1 | h1
    · exact h1
    · rw [Array.getElem?_eq_none h1] at h; cases h
  rw [hb.block g hlt]
  exact h
end Go.Proofs.YtapbmpodimdkpaaDoor
