/- The model's NetValid answers as the program's does. -/
import Derived.Test.YtobbmnbkjeoheaaDoorA1
namespace Go.Proofs.YtobbmnbkjeoheaaDoor
open Go.ChangeShapes Go.WideShapes Go.ChangeAt Go.RowKit

theorem specNetValid_any (bs : Int) (A : Option Addr) (n c : Nat) (ls : List L3) (w : World) (hn : n ≤ 1048576) (hr : RowL w A n ls) :
    Calls Tryd.prog 39 #[.agg #[.int .i64 bs, .slice A n c]] w fun e w' => e = .returned (.bool (netOk bs ls)) ∧ Below w.heap.size w w' := by
  have HL := Lib.hid hr.1
  have HC := Lib.hid hr.2; clear hr
  go_enter Tryd.func39, Tryd.ntmps39
  go_wp2
  case _ =>
    go_ret
    exact ⟨retB (by simp [netOk, HL.out, *]; omega), below_bx _ _⟩
  case _ =>
    go_loopw [3] (fun i wr => ∃ k : Nat, k ≤ n ∧ i = .int .i64 k ∧ (∀ j, j < k → ∀ l, ls[j]? = some l → lineOk bs l = true) ∧ Below w.heap.size w wr ∧ w.heap.size < wr.heap.size
        ∧ wr.cell? ⟨w.heap.size, 0, none⟩ = some (.int .i64 bs) ∧ wr.cell? ⟨w.heap.size, 1, none⟩ = some (.slice A n c)) (fun i _ => n - (intOf i).toNat)
    case atStart =>
      exact ⟨0, by omega, rfl, by intro j hj; omega, below_bx _ _, by simp, by simp, by simp⟩
    case round =>
      obtain ⟨k, hk, rfl, hgood, hbel, hsz, hc0, hc1⟩ := hrel
      have HG := Lib.hid hgood; clear hgood
      by_cases hlt : k < n
      · obtain ⟨b, off, rfl, hb, HC'⟩ := HC.out (by omega)
        replace HC' := Lib.hid HC'
        have hkl : ls[k]? = some (ls[k]'(by have := HL.out; omega)) := List.getElem?_eq_getElem _
        generalize (ls[k]'(by have := HL.out; omega)) = l at hkl
        obtain ⟨g0, g1, g2⟩ := HC'.out k l hkl
        rw [← hbel.cell (p := ⟨b, off + k * 3, none⟩) hb] at g0
        rw [← hbel.cell (p := ⟨b, off + k * 3 + 1, none⟩) hb] at g1
        rw [← hbel.cell (p := ⟨b, off + k * 3 + 2, none⟩) hb] at g2
        have HK := Lib.hid hkl; clear hkl
        obtain ⟨x, y, z⟩ := l
        simp only at g0 g1 g2
        have hb2 : ∀ o, Below w.heap.size w (wr.alloc o) := fun o => hbel.alloc (by omega) _
        go_wp2
        case roundEnd =>
          go_roundw
          case rel => exact ⟨k + 1, by omega, by go_num, upto_succ HG.out HK.out (by simp_all [lineOk, inB]), hb2 _, by simp; omega, by rw [World.cell?_alloc_lt _ _ _ (by simpa using hsz)]; exact hc0, by rw [World.cell?_alloc_lt _ _ _ (by simpa using hsz)]; exact hc1⟩
          case measure => simp [intOf]; omega
        all_goals
          go_ret
          refine ⟨retB ?_, hb2 _⟩
          have hv : lineOk bs (x, y, z) = false := by
            simp only [lineOk, inB, Bool.and_eq_false_iff, decide_eq_false_iff_not, bne_eq_false_iff_eq]
            first | omega | simp_all | (simp_all; omega)
          simp [netOk, all_stop HK.out hv]
      · go_wp2
        go_ret
        obtain rfl : k = n := by omega
        refine ⟨retB ?_, hbel⟩
        have hall := all_of HL.out HG.out
        simp only [netOk, hall]
        simp [inB, HL.out, *]; omega
  all_goals go_ret; exact ⟨retB (by simp [netOk, inB, *]; try omega), below_bx _ _⟩
end Go.Proofs.YtobbmnbkjeoheaaDoor
