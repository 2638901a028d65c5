/- Busbars: bars of a number, of the program. -/
import Derived.Test.YtafgfhjlkdjngaaDoorBr3
namespace Go.Proofs.YtafgfhjlkdjngaaDoor
open Go.ChangeShapes Go.WideShapes Go.ChangeAt Go.RowKit

theorem makeIntsR (n : Nat) (hn : n ≤ 1048576) (w : World) : (Instr.makeSlice 23 (.int .i64 (n : Int)) (.int .i64 (n : Int))).run Tryd.prog w = .ok (.slice (some ⟨w.heap.size, 0, none⟩) n n) (w.alloc (.cells (madeCells (Value.int .i64 0).cells n) 3)) := by
  obtain ⟨i0, hi, hz0, hz1, hz2⟩ := info_parts intInfo6
  have := run_make (P := Tryd.prog) w 23 3 i0 _ Tryd.underlying23 hi hz0 .i64 .i64 n n (by omega) (by omega) (by rw [hz2]; omega) (by omega)
  rw [this, Int.toNat_natCast, hz1, Nat.mul_one]
def sideAt (N k : Nat) : Int := ((N / 2 ^ (2 * k + 1) % 4 : Nat) : Int)
theorem off_succ (N k : Nat) : (offR N (k + 1)).1 = (offR N k).1 ++ [sideAt N k] := by
  simp only [offR, List.range_succ, List.map_append]; rfl
theorem off_len (N k : Nat) : (offR N k).1.length = k := by simp [offR]
theorem below_two {B g : Nat} {w w' : World} (h : Below B w w') (hg : B ≤ g) (a b : Value) : Below B w ((w'.setCell ⟨g, 0, none⟩ a).setCell ⟨g, 1, none⟩ b) := (h.setCell hg _).setCell hg _
theorem OwnI.ret2 {t : TypeId} {w : World} {base g : Nat} {v : Value} {zs : List Int} (h : OwnI t w base v zs) (hg : ∀ q, v.ownBlock = some q → q ≠ g) (a b : Value) : OwnI t ((w.setCell ⟨g, 0, none⟩ a).setCell ⟨g, 1, none⟩ b) base v zs :=
  OwnI.far (OwnI.far h (grown_put _ g 0 _) (fun q hq e => by injection e with e; exact hg q hq e.symm)) (grown_put _ g 1 _) (fun q hq e => by injection e with e; exact hg q hq e.symm)

set_option maxHeartbeats 4000000 in
theorem barsOf_any (N m : Nat) (hN : N < 8192) (hm : m ≤ 6) (w : World) :
    Calls Tryd.prog 60 #[.int .i64 N, .int .i64 m] w fun e w' => ∃ v, e = .returned (vR v (offR N m).2) ∧ OwnI 3 w' w.heap.size v (offR N m).1 ∧ Below w.heap.size w w' := by
  have hmk := makeIntsR m (by omega)
  have ha1 := and_one (N : Int) (by omega) (by omega)
  have hb1 : (((N : Int) % 2) == 1) = (N % 2 == 1) := by
    rw [Bool.eq_iff_iff]; simp; omega
  have hN' : (N : Int) < 8192 := by omega
  go_enter Tryd.func60, Tryd.ntmps60
  go_wp2
  clear hmk ha1 hb1
  have ht0 : ∃ t, t = (N % 2 == 1) := ⟨_, rfl⟩
  obtain ⟨t, ht⟩ := ht0
  rw [← ht]
  have HT := Lib.hid ht
  clear ht
  go_loopw [16] (fun i wr => ∃ k : Nat, k ≤ m ∧ i = .int .i64 k ∧ Below w.heap.size w wr ∧ IsBlk wr w.heap.size 25 #[.slice none 0 0, .bool false]
      ∧ IsBlk wr (w.heap.size + 2) 25 #[.slice (some ⟨w.heap.size + 1, 0, none⟩) m m, .bool t] ∧ ∃ cu : Array Value, IsBlk wr (w.heap.size + 1) 3 cu ∧ cu.size = m ∧ cu.toList.take k = (offR N k).1.map (Value.int .i64)) (fun i _ => m - (intOf i).toNat)
  case atStart =>
    refine ⟨0, by omega, rfl, ((below_bx w _).alloc (by simp) _).alloc (by simp; omega) _, ((IsBlk.new w _ _).alloc _).alloc _, IsBlk.at_ (by simp) rfl rfl, _, (IsBlk.at_ (by simp) rfl rfl).alloc _, size_madeCells _ _, by simp [offR]⟩
  case round =>
    obtain ⟨k, hk, rfl, hbel, hA, hB, cu, hblk, hsz, htk⟩ := hrel
    have KA := Lib.hid hA
    have KB := Lib.hid hB
    have KC := Lib.hid hblk
    have HSZ := Lib.hid hsz
    have HTK := Lib.hid htk
    clear hA hB hblk hsz htk
    by_cases hlt : k < m
    · have hkc : k < cu.size := by have := HSZ.out; omega
      obtain ⟨q0, q1, -⟩ := KB.out.two
      have d0 : wr.drew.cell? ⟨w.heap.size + 2, 0, none⟩ = some (.slice (some ⟨w.heap.size + 1, 0, none⟩) m m) := q0
      have c0 : wr.cell? ⟨w.heap.size + 1, k, none⟩ = some cu[k] := (KC.out.cell k).trans (Array.getElem?_eq_getElem hkc)
      have f0 : wr.frozen? ⟨w.heap.size + 1, k, none⟩ = false := KC.out.thaw k
      have c1 : wr.drew.cell? ⟨w.heap.size + 1, k, none⟩ = some cu[k] := c0
      have f1 : wr.drew.frozen? ⟨w.heap.size + 1, k, none⟩ = false := f0
      generalize cu[k] = u at c0 c1
      obtain ⟨p, hp⟩ : ∃ p, p = 2 * k + 1 := ⟨_, rfl⟩
      have hmin : min p 64 = p := by omega
      have hd := div_castR N p
      have hq : N / 2 ^ p ≤ N := Nat.div_le_self _ _
      have HS := Lib.hid (show sideAt N k = ((N / 2 ^ p % 4 : Nat) : Int) by rw [hp]; rfl)
      generalize N / 2 ^ p = q at *
      have ha3 := and_three (q : Int) (by omega) (by omega)
      have HP := Lib.hid hp
      clear hp
      have ii0 : (0 : Int) ≤ (k : Int) := by omega
      have ii1 : (k : Int) < (m : Int) := by omega
      go_upto_region 5 with fail
      go_region_with (go_at_call 97; refine (isolatorPlace_any k 1 (by omega) (by omega) _).mono ?_; rintro e w' ⟨rfl, rfl⟩; rw [← HP.out])
      all_goals go_wp2
      all_goals go_roundw
      all_goals first
        | (refine ⟨k + 1, by omega, by go_num, ?_, KA.out.far (p := ⟨w.heap.size + 1, k, none⟩) (by simp) _, KB.out.far (p := ⟨w.heap.size + 1, k, none⟩) (by simp) _, _, KC.out.put k _, by simp [HSZ.out], ?_⟩
           · exact (hbel.setCell (show w.heap.size ≤ w.heap.size + 1 by omega) _).drew
           · rw [take_set1 _ _ _ (show k < cu.size by have := HSZ.out; omega), HTK.out, off_succ, HS.out, List.map_append]; rfl)
        | (simp [intOf]; omega)
    · obtain rfl : k = m := by omega
      obtain ⟨q0, q1, -⟩ := KB.out.two
      obtain ⟨r0, r1, s0, s1⟩ := KA.out.two
      have HO := Lib.hid (OwnI.mk_ (base := w.heap.size) (off_len N k) (show w.heap.size ≤ w.heap.size + 1 by omega) KC.out (Nat.le_refl _) (by simp only [maxLen]; omega) HSZ.out HTK.out)
      go_wp2
      refine bodyPost_ret (v := vR (.slice (some ⟨w.heap.size + 1, 0, none⟩) k k) (offR N k).2) (by simp [results, Tryd.results60, go_sem, r0, r1, vR, offR, HT.out]) rfl ⟨_, rfl, ?_, ?_⟩
      · exact OwnI.ret2 HO.out (fun q hq => by simp [Value.ownBlock] at hq; omega) _ _
      · exact below_two hbel (Nat.le_refl _) _ _
end Go.Proofs.YtafgfhjlkdjngaaDoor
