/- Conversions of the exact laws: a network of the law's types becomes one of the program's, in new memory. -/
import Derived.Test.YtfedffekbemcoaaBCA
import Derived.Laws.MakeOwn
import Derived.OwnWalk
namespace Go.Proofs.Ytfedffekbemcoaa
open Go.ChangeShapes Go.WideShapes Go.ChangeAt Go.RowKit

theorem szLineS_any (A : Option Addr) (n c : Nat) (left : Int) (h0 : left = 1048576) (hn : n ≤ 9223372036854775807) (w : World) :
    Calls Try.prog 34 #[.slice A n c, .int .i64 left] w fun e w' => e = .returned (.int .i64 (if n ≤ 1048576 then 1048576 - n else -1)) ∧ w = w' := by
  subst h0
  by_cases hc : n ≤ 1048576
  · go_enter Try.func34, Try.ntmps34
    go_wp2
    all_goals go_ret
    all_goals exact ⟨retI (by first | omega | simp [hc]), rfl⟩
  · go_enter Try.func34, Try.ntmps34
    go_wp2
    all_goals go_ret
    all_goals exact ⟨retI (by first | omega | simp [hc]), rfl⟩

theorem toLine_any (x y z : Int) (w : World) :
    Calls Try.prog 44 #[.agg #[.int .i64 x, .int .i64 y, .int .i64 z]] w fun e w' => e = .returned (.agg #[.int .i64 x, .int .i64 y, .int .i64 z]) ∧ Below w.heap.size w w' := by
  go_enter Try.func44, Try.ntmps44
  go_wp2
  refine bodyPost_ret (v := .agg #[.int .i64 x, .int .i64 y, .int .i64 z]) (by simp [results, Try.results44, go_sem]) rfl ⟨rfl, ?_⟩
  repeat (first | exact Below.refl _ _ | refine Below.alloc ?_ (by simp; try omega) _)

theorem lineInfo : (Try.prog.info? 67).map (fun i => (i.zero, i.size, i.bytes)) = some (some (.agg #[.int .i64 0, .int .i64 0, .int .i64 0]), 3, 24) := by kernel_rfl
theorem makeLines (n : Nat) (hn : n ≤ 1048576) (w : World) : (Instr.makeSlice 41 (.int .i64 (n : Int)) (.int .i64 (n : Int))).run Try.prog w = .ok (.slice (some ⟨w.heap.size, 0, none⟩) n n) (w.alloc (.cells (rowArr fL (List.replicate n (0, 0, 0))) 67)) := by
  obtain ⟨i0, hi, hz0, hz1, hz2⟩ := info_parts lineInfo
  have := run_make (P := Try.prog) w 41 67 i0 _ Try.underlying41 hi hz0 .i64 .i64 n n (by omega) (by omega) (by rw [hz2]; omega) (by omega)
  rw [this, Int.toNat_natCast, hz1, madeCells_row (f := fL) fL_len (Value.agg #[.int .i64 0, .int .i64 0, .int .i64 0]).cells (0, 0, 0) rfl (by omega)]

theorem toLineS_any (A : Option Addr) (n c : Nat) (ls : List L3) (w : World) (hn : n ≤ 1048576) (hr : RowL w A n ls) :
    Calls Try.prog 37 #[.slice A n c] w fun e w' => e = .returned (.slice (some ⟨w.heap.size, 0, none⟩) n n) ∧ Below w.heap.size w w' ∧ IsBlk w' w.heap.size 67 (rowArr fL ls) := by
  have hmk := makeLines n hn
  have HL := Lib.hid hr.1
  have HC := Lib.hid hr.2; clear hr
  go_enter Try.func37, Try.ntmps37
  go_wp2
  go_loopw [4] (fun i wr => ∃ k : Nat, k ≤ n ∧ i = .int .i64 k ∧ Below w.heap.size w wr ∧ IsBlk wr w.heap.size 67 (rowArr fL (ls.take k ++ List.replicate (n - k) (0, 0, 0)))) (fun i _ => n - (intOf i).toNat)
  case atStart =>
      exact ⟨0, by omega, rfl, below_bx _ _, by simpa using IsBlk.new w _ _⟩
  case round =>
      obtain ⟨k, hk, rfl, hbel, hblk⟩ := hrel
      by_cases hlt : k < n
      · obtain ⟨b, off, rfl, hb, HC'⟩ := HC.out (by omega)
        replace HC' := Lib.hid HC'
        have hkl : ls[k]? = some (ls[k]'(by have := HL.out; omega)) := List.getElem?_eq_getElem _
        generalize (ls[k]'(by have := HL.out; omega)) = l at hkl
        obtain ⟨g0, g1, g2⟩ := HC'.out k l hkl
        rw [← hbel.cell (p := ⟨b, off + k * 3, none⟩) hb] at g0
        rw [← hbel.cell (p := ⟨b, off + k * 3 + 1, none⟩) hb] at g1
        rw [← hbel.cell (p := ⟨b, off + k * 3 + 2, none⟩) hb] at g2
        have hlen : (ls.take k).length = k := by rw [List.length_take]; have := HL.out; omega
        obtain ⟨post, hpost⟩ : ∃ post, ls.take k ++ List.replicate (n - k) (0, 0, 0) = ls.take k ++ (0, 0, 0) :: post ∧ post = List.replicate (n - (k + 1)) ((0, 0, 0) : L3) := by
          refine ⟨_, ?_, rfl⟩
          rw [show n - k = (n - (k + 1)) + 1 by omega, List.replicate_succ]
        rw [hpost.1] at hblk
        have hnew : ls.take (k + 1) ++ List.replicate (n - (k + 1)) (0, 0, 0) = ls.take k ++ l :: post := by
          rw [hpost.2, List.take_add_one, hkl]; simp
        have hput := putAll_row (f := fL) fL_len (ls.take k) post (0, 0, 0) l
        rw [hlen] at hput
        have hold : (ls.take k ++ (0, 0, 0) :: post)[k]? = some (0, 0, 0) := by
          rw [List.getElem?_append_right (by omega), hlen]; simp
        have HK := Lib.hid hkl; clear hkl
        have HN := Lib.hid hnew; clear hnew
        have HP := Lib.hid hput; clear hput
        have HB := Lib.hid hblk; clear hblk
        have HO := Lib.hid hold; clear hold hpost hlen
        obtain ⟨x, y, z⟩ := l
        simp only at g0 g1 g2
        go_wp2_with fail
        refine (toLine_any x y z _).mono ?_
        rintro e w1 ⟨rfl, hb1⟩
        have hblk1 := Lib.hid (HB.out.below hb1 HB.out.lt)
        have hget := rowArr_get (f := fL) fL_len HO.out
        have q0 : w1.cell? ⟨w.heap.size, k * 3, none⟩ = some (.int .i64 0) := (hblk1.out.cell _).trans (hget 0 (by omega))
        have q1 : w1.cell? ⟨w.heap.size, k * 3 + 1, none⟩ = some (.int .i64 0) := (hblk1.out.cell _).trans (hget 1 (by omega))
        have q2 : w1.cell? ⟨w.heap.size, k * 3 + 2, none⟩ = some (.int .i64 0) := (hblk1.out.cell _).trans (hget 2 (by omega))
        have f0 : w1.frozen? ⟨w.heap.size, k * 3, none⟩ = false := hblk1.out.thaw _
        have f1 : w1.frozen? ⟨w.heap.size, k * 3 + 1, none⟩ = false := hblk1.out.thaw _
        have f2 : w1.frozen? ⟨w.heap.size, k * 3 + 2, none⟩ = false := hblk1.out.thaw _
        clear hget
        go_wp2
        go_roundw
        case rel =>
          refine ⟨k + 1, by omega, by go_num, (((hbel.trans (hb1.mono hbel.size)).setCell (Nat.le_refl _) _).setCell (Nat.le_refl _) _).setCell (Nat.le_refl _) _, ?_⟩
          rw [HN.out, ← HP.out]
          exact ((hblk1.out.put _ _).put _ _).put _ _
        case measure => simp [intOf]; omega
      · go_wp2
        go_ret
        obtain rfl : k = n := by omega
        refine ⟨rfl, hbel, ?_⟩
        have := HL.out
        simpa [← this] using hblk

theorem toNet_any (bs : Int) (A : Option Addr) (n c : Nat) (ls : List L3) (w : World) (hn : n ≤ 1048576) (hr : RowL w A n ls) :
    Calls Try.prog 21 #[.agg #[.int .i64 bs, .slice A n c]] w fun e w' => ∃ g, e = .returned (.agg #[.int .i64 bs, .slice (some ⟨g, 0, none⟩) n n]) ∧ Below w.heap.size w w' ∧ w.heap.size ≤ g ∧ IsBlk w' g 67 (rowArr fL ls) := by
  go_enter Try.func21, Try.ntmps21
  go_wp2_with fail
  refine (toLineS_any A n c ls _ hn ?_).mono ?_
  case refine_1 => exact hr.below (((below_bx _ _).alloc (by simp) _).alloc (by simp; omega) _)
  rintro e w1 ⟨rfl, hb1, hk1⟩
  obtain ⟨r0, r1, r2, r3⟩ := ((((IsBlk.new (w.alloc _) 43 #[.int .i64 0, .slice none 0 0]).alloc _).keep hb1)).two
  obtain ⟨s0, s1, s2, s3⟩ := (((IsBlk.new ((w.alloc _).alloc _) 43 #[.int .i64 bs, .slice none 0 0])).keep hb1).two
  simp only [World.size_alloc] at r0 r1 r2 r3 s0 s1 s2 s3
  have hk2 := Lib.hid hk1; clear hk1
  go_wp2
  refine bodyPost_ret (v := .agg #[.int .i64 bs, .slice (some ⟨w.heap.size + 1 + 1 + 1, 0, none⟩) n n]) (by simp [results, Try.results21, go_sem, r0, r1]) rfl ⟨_, rfl, ?_, by omega, ?_⟩
  · repeat (first | (refine Below.setCell ?_ (by simp; try omega) _) | (exact ((((below_bx w _).alloc (by simp; try omega) _).alloc (by simp; try omega) _).trans (hb1.mono (by simp; omega)))))
  · have := hk2.out
    simp only [World.size_alloc] at this
    repeat (first | exact this | refine IsBlk.far ?_ (by simp; try omega) _)
end Go.Proofs.Ytfedffekbemcoaa
