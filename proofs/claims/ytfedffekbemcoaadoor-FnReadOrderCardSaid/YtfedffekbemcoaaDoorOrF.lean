/- Switching orders: reading of steps, the program's half: stepIn. -/
import Derived.Test.YtfedffekbemcoaaDoorOrD
import Derived.Test.YtfedffekbemcoaaDoorR6
namespace Go.Proofs.YtfedffekbemcoaaDoor
open Go.ChangeShapes Go.WideShapes Go.ChangeAt Go.RowKit

def SplitSaysO : Prop := ∀ (s : ByteArray) (w : World), s.size ≤ 2000000 → LibEnv w →
  Calls Tryd.prog 48 #[.string s, .string ⟨#[59]⟩, .int .i64 13] w fun e w' => ∃ v c, e = .returned (.slice (some ⟨v, 0, none⟩) (Lib.splitK [59] 0 (min 13 (s.size + 1) - 1) s.data.toList).length c) ∧
    (Lib.splitK [59] 0 (min 13 (s.size + 1) - 1) s.data.toList).length ≤ c ∧ c ≤ 13 ∧ RowV w' (some ⟨v, 0, none⟩) (Lib.splitK [59] 0 (min 13 (s.size + 1) - 1) s.data.toList).length ((Lib.splitK [59] 0 (min 13 (s.size + 1) - 1) s.data.toList).map strV) ∧ Below w.heap.size w w'
theorem str_toList (p : Bs) : (⟨p.toArray⟩ : ByteArray).toList = p := by rw [Lib.toList_data]
set_option maxHeartbeats 1000000 in
theorem stepIn_any (hC : CutSays) (hA : AtoiSays) (p : Bs) (hp : p.length ≤ 2000000) (x : Int) (t : Bool) (h : stepP p = (x, t)) (w : World) (hl : LibEnv w) :
    Calls Tryd.prog 49 #[.string ⟨p.toArray⟩] w fun e w' => e = .returned (.agg #[.int .i64 x, .bool t]) ∧ Below w.heap.size w w' := by
  have l1 := cut_le p [32]
  unfold stepP at h
  rcases hc : Lib.cut p [32] with ⟨a, b, u⟩
  rw [hc] at h l1
  simp only [Prod.mk.injEq] at h l1
  obtain ⟨hx, ht⟩ := h
  have HA := Lib.hid hA
  have HCs := Lib.hid hC
  have Hc := Lib.hid hc
  have HX := Lib.hid hx
  have L1 := Lib.hid l1
  have HE := Lib.hid hl
  have HT := Lib.hid ht
  clear hA hC hc hx l1 hl ht
  go_enter Tryd.func49, Tryd.ntmps49
  go_wp2_with fail
  have E0 := Lib.hid (HE.out.keep (below_bx w (.cells #[.int .i64 0, .bool false] 27)))
  refine (HCs.out p 32 _ hp E0.out).mono ?_
  rw [Hc.out]
  rintro e w1 ⟨rfl, hb1⟩
  have a1 : Below w.heap.size w w1 := (below_bx w _).trans (hb1.mono (by simp))
  have k1 := Lib.hid ((IsBlk.new w 27 #[.int .i64 0, .bool false]).keep hb1)
  simp only [strV]
  go_wp2_with fail
  refine (numberIn_any HA.out b (by have := L1.out; omega) _ (HE.out.keep a1)).mono ?_
  rw [HX.out]
  rintro e w2 ⟨rfl, hb2⟩
  have a2 := a1.trans (hb2.mono a1.size)
  have k2 := Lib.hid (k1.out.keep hb2)
  have hlt : w.heap.size < w2.heap.size := k2.out.lt
  obtain ⟨q0, q1, q2, q3⟩ := k2.out.two
  have ht := HT.out
  go_wp2
  refine bodyPost_ret (v := .agg #[.int .i64 x, .bool t]) (by simp [results, Tryd.results49, go_sem, q0, q1]) rfl ⟨rfl, (a2.setCell (Nat.le_refl _) _).setCell (Nat.le_refl _) _⟩
end Go.Proofs.YtfedffekbemcoaaDoor
