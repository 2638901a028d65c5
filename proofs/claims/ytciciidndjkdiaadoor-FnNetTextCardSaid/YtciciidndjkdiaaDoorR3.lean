/- Reading of texts, the model's half: l1Line. -/
import Derived.Test.YtciciidndjkdiaaDoorR2
import Derived.StillTailTactics
import Derived.Deep.DeepCutAuto
import Derived.Deep.CutBlock
import Derived.Outline
namespace Go.Proofs.YtciciidndjkdiaaDoor
open Go.ChangeShapes Go.WideShapes Go.ChangeAt Go.RowKit

theorem cutA_le (sep : UInt8) : ∀ (r cur : Bs), ∀ p ∈ cutA sep cur r, p.length ≤ cur.length + r.length
  | [], cur, p, h => by simp [cutA] at h; subst h; simp
  | c :: r, cur, p, h => by
    rw [cutA] at h
    split at h
    · rcases List.mem_cons.1 h with h | h
      · subst h; simp
      · have := cutA_le sep r [] p h; simp at this ⊢; omega
    · have := cutA_le sep r (cur ++ [c]) p h; simp at this ⊢; omega
theorem size_str (p : Bs) : (⟨p.toArray⟩ : ByteArray).size = p.length := by rw [Lib.size_eq]
theorem data_str (p : Bs) : (⟨p.toArray⟩ : ByteArray).data.toList = p := rfl
theorem l1Read_still (p : Bs) (hp : p.length ≤ 2000000) (w : World) :
    Calls Tryd.prog 35 #[.string ⟨p.toArray⟩] w fun e w' => e = .returned (.int .i64 (readS p)) ∧ w' = w :=
  (l1Read_any ⟨p.toArray⟩ w (by rw [size_str]; omega)).mono fun _ _ h => ⟨h.1, h.2.symm⟩
theorem RowV.at {w : World} {A : Option Addr} {n : Nat} {xs : List Value} (h : RowV w A n xs) {k : Nat} (hk : k < n) : ∃ b off x, A = some ⟨b, off, none⟩ ∧ b < w.heap.size ∧ xs[k]? = some x ∧ w.cell? ⟨b, off + k, none⟩ = some x := by
  obtain ⟨b, off, e, hlt, hc⟩ := h.2 (by omega)
  have hl : k < xs.length := by rw [h.1]; exact hk
  exact ⟨b, off, xs[k], e, hlt, List.getElem?_eq_getElem hl, hc k _ (List.getElem?_eq_getElem hl)⟩

set_option maxRecDepth 100000 in
set_option maxHeartbeats 2000000 in
theorem l1Line_any (s : ByteArray) (w : World) (hs : s.size ≤ 2000000) :
    Calls Tryd.prog 36 #[.string s] w fun e w' => e = .returned (.agg (fL (lineS s.data.toList)).toArray) ∧ Below w.heap.size w w' := by
  have HL := Lib.hid (show ∀ p ∈ cutA 58 [] s.data.toList, p.length ≤ 2000000 from fun p hp => by have := cutA_le 58 s.data.toList [] p hp; rw [sized] at this; simp at this; omega)
  have HN := Lib.hid (show lineS s.data.toList = if (cutA 58 [] s.data.toList).length = 2 ∧ (cutA 45 [] ((cutA 58 [] s.data.toList).getD 0 [])).length = 2 then
    (readS ((cutA 45 [] ((cutA 58 [] s.data.toList).getD 0 [])).getD 0 []), readS ((cutA 45 [] ((cutA 58 [] s.data.toList).getD 0 [])).getD 1 []), readS ((cutA 58 [] s.data.toList).getD 1 []))
    else (0, 0, 0) from rfl)
  generalize lineS s.data.toList = out at *
  go_enter Tryd.func36, Tryd.ntmps36
  go_wp2_with fail
  refine (l1Cut_any s 58 58 rfl _ hs).mono ?_
  rintro e w1 ⟨v, rfl, hO, hb1⟩
  have a1 : Below w.heap.size w w1 := (below_bx w _).trans (hb1.mono (by simp))
  have k1 := Lib.hid ((IsBlk.new w 46 #[.int .i64 0, .int .i64 0, .int .i64 0]).keep hb1)
  have hs1 : w.heap.size + 1 ≤ w1.heap.size := by have := hb1.size; simpa using this
  obtain ⟨A1, c1, rfl, hr1⟩ := hO.row
  have hne := cutA_ne 58 s.data.toList []
  clear hO
  generalize cutA 58 [] s.data.toList = xs at *
  have hpos : 0 < xs.length := List.length_pos_iff.2 hne
  obtain ⟨b, off, x0, rfl, hbl, hx0, g0⟩ := hr1.at hpos
  obtain ⟨p0, hp0, rfl⟩ : ∃ p0, xs[0]? = some p0 ∧ strV p0 = x0 := by simpa using hx0
  have hp0s : p0.length ≤ 2000000 := HL.out p0 (List.mem_of_getElem? hp0)
  have e0 : xs.getD 0 [] = p0 := by rw [List.getD_eq_getElem?_getD, hp0]; rfl
  rw [e0] at HN
  rw [Nat.add_zero] at g0
  have hposI : (0 : Int) < (xs.length : Int) := by omega
  clear hne hx0 e0
  have R1 := Lib.hid hr1
  have HP0 := Lib.hid hp0
  clear hr1 hp0
  unfold strV at g0
  go_wp2_with fail
  refine (l1Cut_any ⟨p0.toArray⟩ 45 45 rfl _ (by rw [size_str]; exact hp0s)).mono ?_
  rw [data_str]
  rintro e w2 ⟨v, rfl, hO, hb2⟩
  have a2 : Below w.heap.size w w2 := a1.trans (hb2.mono a1.size)
  have k2 := Lib.hid (k1.out.keep hb2)
  have hs2 : w.heap.size + 1 ≤ w2.heap.size := by have := hb2.size; omega
  obtain ⟨A2, c2, rfl, hr2⟩ := hO.row
  have HY := Lib.hid (show ∀ p ∈ cutA 45 [] p0, p.length ≤ 2000000 from fun p hp => by have := cutA_le 45 p0 [] p hp; simp at this; omega)
  have R1' := Lib.hid (R1.out.below hb2)
  clear hO g0 R1 k1
  generalize cutA 45 [] p0 = ys at *
  have R2 := Lib.hid hr2
  clear hr2
  obtain ⟨q0, q1, q2, q3, q4, q5⟩ := k2.out.three
  have hlt : w.heap.size < w2.heap.size := by omega
  by_cases hx : xs.length = 2
  · by_cases hy : ys.length = 2
    · obtain ⟨b1, o1, z1, e1, hb1', hz1, g1⟩ := R1'.out.at (k := 1) (by omega)
      obtain ⟨b2, o2, z2, rfl, hb2', hz2, g2⟩ := R2.out.at (k := 0) (by omega)
      obtain ⟨b3, o3, z3, e3, _, hz3, g3⟩ := R2.out.at (k := 1) (by omega)
      injection e1 with e1; injection e1 with e1 e1'
      injection e3 with e3; injection e3 with e3 e3'
      subst e1 e1' e3 e3'
      obtain ⟨px, hpx, rfl⟩ : ∃ p, xs[1]? = some p ∧ strV p = z1 := by simpa using hz1
      obtain ⟨py, hpy, rfl⟩ : ∃ p, ys[0]? = some p ∧ strV p = z2 := by simpa using hz2
      obtain ⟨pz, hpz, rfl⟩ : ∃ p, ys[1]? = some p ∧ strV p = z3 := by simpa using hz3
      have HX := Lib.hid (HL.out px (List.mem_of_getElem? hpx))
      have HY0 := Lib.hid (HY.out py (List.mem_of_getElem? hpy))
      have HY1 := Lib.hid (HY.out pz (List.mem_of_getElem? hpz))
      have HF := Lib.hid (show out = (readS py, readS pz, readS px) by
        rw [HN.out, if_pos ⟨hx, hy⟩]
        simp only [List.getD_eq_getElem?_getD, hpx, hpy, hpz, Option.getD_some])
      unfold strV at g1 g2 g3
      rw [Nat.add_zero] at g2
      rw [hx, hy]
      have HLX := Lib.hid hx
      have HLY := Lib.hid hy
      clear hx hy hz1 hz2 hz3 hpx hpy hpz HN
      go_upto_region 5 with fail
      refine wp_region_still_tail 13 (by kernel_rfl) (by kernel_rfl) ?_
      simp only [List.take_succ_cons, List.take_zero, List.drop_succ_cons, List.drop_zero]
      have d1 : w2.drew.cell? ⟨b, off + 1, none⟩ = some (.string ⟨px.toArray⟩) := g1
      have d2 : w2.drew.cell? ⟨b2, o2, none⟩ = some (.string ⟨py.toArray⟩) := g2
      have d3 : w2.drew.cell? ⟨b2, o2 + 1, none⟩ = some (.string ⟨pz.toArray⟩) := g3
      repeat still_step
      still_call (l1Read_still py HY0.out _)
      repeat still_step
      still_call (l1Read_still pz HY1.out _)
      repeat still_step
      still_call (l1Read_still px HX.out _)
      repeat still_step
      refine wpStill_nil ?_
      change wpList _ _ _ _ _ w2.drew
      go_wp2
      have a3 : Below w.heap.size w (((w2.setCell ⟨w.heap.size, 0, none⟩ (.int .i64 (readS py))).setCell ⟨w.heap.size, 1, none⟩ (.int .i64 (readS pz))).setCell ⟨w.heap.size, 2, none⟩ (.int .i64 (readS px))).drew :=
        (((a2.setCell (Nat.le_refl _) _).setCell (Nat.le_refl _) _).setCell (Nat.le_refl _) _).drew
      refine bodyPost_ret (v := .agg #[.int .i64 (readS py), .int .i64 (readS pz), .int .i64 (readS px)]) (by simp [results, Tryd.results36, go_sem, q0, q1, q2]) rfl ⟨by rw [HF.out]; rfl, a3⟩
    · have HF := Lib.hid (show out = (0, 0, 0) by rw [HN.out, if_neg (fun h => hy h.2)])
      have hy1 : ((ys.length : Int) == 2) = false := by rw [beq_eq_false_iff_ne]; omega
      have hy2 : ((ys.length : Int) != 2) = true := by rw [bne_iff_ne]; omega
      rw [hx]
      have HLX := Lib.hid hx
      clear hx hy HN
      go_wp2
      refine bodyPost_ret (v := .agg #[.int .i64 0, .int .i64 0, .int .i64 0]) (by simp [results, Tryd.results36, go_sem, q0, q1, q2]) rfl ⟨by rw [HF.out]; rfl, ((a2.setCell (Nat.le_refl _) _).setCell (Nat.le_refl _) _).setCell (Nat.le_refl _) _⟩
  · have HF := Lib.hid (show out = (0, 0, 0) by rw [HN.out, if_neg (fun h => hx h.1)])
    have hx1 : ((xs.length : Int) == 2) = false := by rw [beq_eq_false_iff_ne]; omega
    have hx2 : ((xs.length : Int) != 2) = true := by rw [bne_iff_ne]; omega
    clear hx HN
    go_wp2
    refine bodyPost_ret (v := .agg #[.int .i64 0, .int .i64 0, .int .i64 0]) (by simp [results, Tryd.results36, go_sem, q0, q1, q2]) rfl ⟨by rw [HF.out]; rfl, ((a2.setCell (Nat.le_refl _) _).setCell (Nat.le_refl _) _).setCell (Nat.le_refl _) _⟩
end Go.Proofs.YtciciidndjkdiaaDoor
