/- Reading of texts, the program's half: lineIn. -/
import Derived.Test.YtciciidndjkdiaaDoorR5
namespace Go.Proofs.YtciciidndjkdiaaDoor
open Go.ChangeShapes Go.WideShapes Go.ChangeAt Go.RowKit

theorem cut_le (p q : Bs) : (Lib.cut p q).1.length ≤ p.length ∧ (Lib.cut p q).2.1.length ≤ p.length := by
  unfold Lib.cut
  split
  · simp only [List.length_take, List.length_drop]; omega
  · simp
set_option maxHeartbeats 1000000 in
theorem lineIn_any (hC : CutSays) (hA : AtoiSays) (p : Bs) (hp : p.length ≤ 2000000) (x y z : Int) (h : lineP p = (x, y, z)) (w : World) (hl : LibEnv w) :
    Calls Tryd.prog 32 #[.string ⟨p.toArray⟩] w fun e w' => e = .returned (.agg #[.int .i64 x, .int .i64 y, .int .i64 z]) ∧ Below w.heap.size w w' := by
  have l1 := cut_le p [58]
  have l2 := cut_le (Lib.cut p [58]).1 [45]
  unfold lineP at h
  rcases hc : Lib.cut p [58] with ⟨a, b, t⟩
  rw [hc] at h l1 l2
  simp only at h l1 l2
  rcases hd : Lib.cut a [45] with ⟨c, d, u⟩
  rw [hd] at h l2
  simp only [Prod.mk.injEq] at h l1 l2
  obtain ⟨hx, hy, hz⟩ := h
  have HA := Lib.hid hA
  have HCs := Lib.hid hC
  have Hc := Lib.hid hc
  have Hd := Lib.hid hd
  have HX := Lib.hid hx
  have HY := Lib.hid hy
  have HZ := Lib.hid hz
  have L1 := Lib.hid l1
  have L2 := Lib.hid l2
  clear hA hC hc hd hx hy hz l1 l2
  have HE := Lib.hid hl
  clear hl
  go_enter Tryd.func32, Tryd.ntmps32
  go_wp2_with fail
  have E0 := Lib.hid (HE.out.keep (below_bx w (.cells #[.int .i64 0, .int .i64 0, .int .i64 0] 46)))
  refine (HCs.out p 58 _ hp E0.out).mono ?_
  rw [Hc.out]
  rintro e w1 ⟨rfl, hb1⟩
  have a1 : Below w.heap.size w w1 := (below_bx w _).trans (hb1.mono (by simp))
  have k1 := Lib.hid ((IsBlk.new w 46 #[.int .i64 0, .int .i64 0, .int .i64 0]).keep hb1)
  have hs1 : w.heap.size + 1 ≤ w1.heap.size := by have := hb1.size; simpa using this
  simp only [strV]
  go_wp2_with fail
  refine (HCs.out a 45 _ (by have := L1.out; omega) (HE.out.keep a1)).mono ?_
  rw [Hd.out]
  rintro e w2 ⟨rfl, hb2⟩
  have a2 := a1.trans (hb2.mono a1.size)
  have k2 := Lib.hid (k1.out.keep hb2)
  have hs2 : w.heap.size + 1 ≤ w2.heap.size := by have := hb2.size; omega
  simp only [strV]
  go_wp2_with fail
  refine (numberIn_any HA.out c (by have := L1.out; have := L2.out; omega) _ (HE.out.keep a2)).mono ?_
  rw [HX.out]
  rintro e w3 ⟨rfl, hb3⟩
  have a3 := a2.trans (hb3.mono a2.size)
  have k3 := Lib.hid (k2.out.keep hb3)
  have hs3 : w.heap.size + 1 ≤ w3.heap.size := by have := hb3.size; omega
  go_wp2_with fail
  refine (numberIn_any HA.out d (by have := L1.out; have := L2.out; omega) _ (HE.out.keep a3)).mono ?_
  rw [HY.out]
  rintro e w4 ⟨rfl, hb4⟩
  have a4 := a3.trans (hb4.mono a3.size)
  have k4 := Lib.hid (k3.out.keep hb4)
  have hs4 : w.heap.size + 1 ≤ w4.heap.size := by have := hb4.size; omega
  go_wp2_with fail
  refine (numberIn_any HA.out b (by have := L1.out; omega) _ (HE.out.keep a4)).mono ?_
  rw [HZ.out]
  rintro e w5 ⟨rfl, hb5⟩
  have a5 := a4.trans (hb5.mono a4.size)
  have k5 := Lib.hid (k4.out.keep hb5)
  have hlt : w.heap.size < w5.heap.size := k5.out.lt
  obtain ⟨q0, q1, q2, q3, q4, q5⟩ := k5.out.three
  go_wp2
  refine bodyPost_ret (v := .agg #[.int .i64 x, .int .i64 y, .int .i64 z]) (by simp [results, Tryd.results32, go_sem, q0, q1, q2]) rfl ⟨rfl, ((a5.setCell (Nat.le_refl _) _).setCell (Nat.le_refl _) _).setCell (Nat.le_refl _) _⟩
end Go.Proofs.YtciciidndjkdiaaDoor
