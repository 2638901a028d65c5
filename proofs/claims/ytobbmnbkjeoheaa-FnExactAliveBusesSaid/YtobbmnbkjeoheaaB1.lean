/- Conversions, comparisons and marks of the exact laws at slices of truths, and of numbers that come in. -/
import Derived.Test.YtobbmnbkjeoheaaA2
import Derived.Test.YtobbmnbkjeoheaaBase2
import Derived.Laws.MakeOwn
import Derived.OwnWalk
import Derived.Deep.QuietTactic
import Derived.BigQuiet
namespace Go.Proofs.Ytobbmnbkjeoheaa
open Go.ChangeShapes Go.WideShapes Go.ChangeAt Go.RowKit

theorem take_set1 (cu : Array Value) (k : Nat) (u : Value) (h : k < cu.size) : (cu.setIfInBounds k u).toList.take (k + 1) = cu.toList.take k ++ [u] := by
  have hl : k < cu.toList.length := by simpa using h
  rw [Array.toList_setIfInBounds, List.take_add_one, List.take_set_of_le (Nat.le_refl _), List.getElem?_set_self hl]; rfl

theorem boolInfo : (Try.prog.info? 4).map (fun i => (i.zero, i.size, i.bytes)) = some (some (.bool false), 1, 1) := by kernel_rfl
theorem makeBools (n : Nat) (hn : n ≤ 1048576) (w : World) : (Instr.makeSlice 38 (.int .i64 (n : Int)) (.int .i64 (n : Int))).run Try.prog w = .ok (.slice (some ⟨w.heap.size, 0, none⟩) n n) (w.alloc (.cells (madeCells (Value.bool false).cells n) 4)) := by
  obtain ⟨i0, hi, hz0, hz1, hz2⟩ := info_parts boolInfo
  have := run_make (P := Try.prog) w 38 4 i0 _ Try.underlying38 hi hz0 .i64 .i64 n n (by omega) (by omega) (by rw [hz2]; omega) (by omega)
  rw [this, Int.toNat_natCast, hz1, Nat.mul_one]

theorem toBoolS_any (A : Option Addr) (n c : Nat) (ts : List Bool) (w : World) (hn : n ≤ 1048576) (hr : RowT w A n ts) :
    Calls Try.prog 17 #[.slice A n c] w fun e w' => e = .returned (.slice (some ⟨w.heap.size, 0, none⟩) n n) ∧ OwnT w' w.heap.size (.slice (some ⟨w.heap.size, 0, none⟩) n n) ts ∧ Below w.heap.size w w' ∧ w.heap.size < w'.heap.size := by
  have hmk := makeBools n hn
  have HR := Lib.hid hr
  have HL := Lib.hid hr.len
  clear hr
  go_enter Try.func17, Try.ntmps17
  go_wp2
  clear hmk
  go_loopw [4] (fun i wr => ∃ k : Nat, k ≤ n ∧ i = .int .i64 k ∧ Below w.heap.size w wr ∧ ∃ cu : Array Value, IsBlk wr w.heap.size 4 cu ∧ cu.size = n ∧ cu.toList.take k = (ts.take k).map Value.bool) (fun i _ => n - (intOf i).toNat)
  case atStart => exact ⟨0, by omega, rfl, below_bx _ _, _, IsBlk.new w _ _, size_madeCells _ _, by simp⟩
  case round =>
    obtain ⟨k, hk, rfl, hbel, cu, hblk, hsz, htk⟩ := hrel
    by_cases hlt : k < n
    · obtain ⟨b, off, t, rfl, hb, hkt, g0⟩ := HR.out.at_ hlt
      rw [← hbel.cell (p := ⟨b, off + k, none⟩) hb] at g0
      have hkc : k < cu.size := by omega
      have c0 : wr.cell? ⟨w.heap.size, k, none⟩ = some cu[k] := (hblk.cell k).trans (Array.getElem?_eq_getElem hkc)
      have f0 : wr.frozen? ⟨w.heap.size, k, none⟩ = false := hblk.thaw k
      generalize cu[k] = u at c0
      have HB := Lib.hid hblk
      have HS := Lib.hid hsz
      have HK := Lib.hid htk
      have HT := Lib.hid hkt
      clear hblk hsz htk hkt
      go_wp2
      go_roundw
      case rel =>
        refine ⟨k + 1, by omega, by go_num, hbel.setCell (Nat.le_refl _) _, _, HB.out.put k _, by simp [HS.out], ?_⟩
        rw [take_set1 _ _ _ hkc, HK.out, List.take_add_one, HT.out, List.map_append]; rfl
      case measure => simp [intOf]; omega
    · go_wp2
      go_ret
      obtain rfl : k = n := by omega
      refine ⟨rfl, OwnT.mk HL.out (Nat.le_refl _) hblk (Nat.le_refl _) (by omega) ?_, hbel, hblk.lt⟩
      rw [htk, ← HL.out, List.take_length]

theorem eqBoolS_same (A A' : Option Addr) (n c c' : Nat) (ts : List Bool) (w : World) (hn : n ≤ 1048576) (hr : RowT w A n ts) (hr' : RowT w A' n ts) :
    Calls Try.prog 19 #[.slice A n c, .slice A' n c'] w fun e w' => e = .returned (.bool true) ∧ Below w.heap.size w w' := by
  have HR := Lib.hid hr
  have HR' := Lib.hid hr'
  clear hr hr'
  go_enter Try.func19, Try.ntmps19
  go_wp2
  go_loopw [5] (fun i wr => ∃ k : Nat, k ≤ n ∧ i = .int .i64 k ∧ Below w.heap.size w wr) (fun i _ => n - (intOf i).toNat)
  case atStart => exact ⟨0, by omega, rfl, Below.refl _ _⟩
  case round =>
    obtain ⟨k, hk, rfl, hbel⟩ := hrel
    by_cases hlt : k < n
    · obtain ⟨b, off, t, rfl, hb, hkt, g0⟩ := HR.out.at_ hlt
      obtain ⟨b', off', t', rfl, hb', hkt', g0'⟩ := HR'.out.at_ hlt
      rw [← hbel.cell (p := ⟨b, off + k, none⟩) hb] at g0
      rw [← hbel.cell (p := ⟨b', off' + k, none⟩) hb'] at g0'
      obtain rfl : t' = t := by rw [hkt] at hkt'; injection hkt' with h; exact h.symm
      clear hkt hkt'
      have i0 : (0 : Int) ≤ (k : Int) := by omega
      have i1 : (k : Int) < (n : Int) := by omega
      go_wp2
      go_quiet (fail)
      go_wp2
      go_roundw
      case rel => exact ⟨k + 1, by omega, by go_num, below_drewN hbel _⟩
      case measure => simp [intOf]; omega
    · go_wp2
      go_ret
      exact ⟨rfl, hbel⟩
theorem eqBoolS_own {v v' : Value} {ts : List Bool} {w : World} {b b' : Nat} (hn : ts.length ≤ 1048576) (h : OwnT w b v ts) (h' : OwnT w b' v' ts) :
    Calls Try.prog 19 #[v, v'] w fun e w' => e = .returned (.bool true) ∧ Below w.heap.size w w' := by
  obtain ⟨A, c, rfl, _, h1⟩ := h.row
  obtain ⟨A', c', rfl, _, h2⟩ := h'.row
  exact eqBoolS_same A A' _ c c' ts w hn h1 h2

/-- What marks write. -/
def marksT (k0 : Int) (n : Nat) : List Bool := (List.range n).map fun (j : Nat) => ((k0 + (j : Int)) % 3 == 0)
theorem marksT_len (k0 : Int) (n : Nat) : (marksT k0 n).length = n := by simp [marksT]
theorem marksT_succ (k0 : Int) (n : Nat) : marksT k0 (n + 1) = marksT k0 n ++ [((k0 + (n : Int)) % 3 == 0)] := by rw [marksT, List.range_succ, List.map_append]; rfl
theorem marksT_get {k0 : Int} {n j : Nat} (h : j < n) : (marksT k0 n)[j]? = some ((k0 + (j : Int)) % 3 == 0) := by rw [marksT, List.getElem?_map, List.getElem?_range h]; rfl
theorem markBoolS_any (v : Value) (ts : List Bool) (base : Nat) (k0 : Int) (hk0 : 1 ≤ k0) (hk1 : k0 ≤ 100000000) (w : World) (hn : ts.length ≤ 1048576) (hr : OwnT w base v ts) :
    Calls Try.prog 26 #[v, .int .i64 k0] w fun e w' => e = .returned (.int .i64 (k0 + ts.length)) ∧ OwnT w' base v (marksT k0 ts.length) ∧ w.grownBy w' (tblk v ts) := by
  rcases hr with ⟨A, c, rfl, rfl⟩ | ⟨h0, g, cap, te, cur, rfl, hb, hg, hnc, hsz, ht⟩
  · go_enter Try.func26, Try.ntmps26
    go_wp2
    go_loop [5, 1] (fun i j => i = .int .i64 0 ∧ j = .int .i64 k0) (fun _ _ => 0)
    case atStart => exact ⟨rfl, rfl⟩
    case round =>
      obtain ⟨rfl, rfl⟩ := hrel
      go_wp2
      go_ret
      exact ⟨retI (by simp), .inl ⟨A, c, rfl, rfl⟩, World.grownBy.refl _ _⟩
  · have HQ : tblk (.slice (some ⟨g, 0, none⟩) ts.length cap) ts = some g := by rw [tblk, if_neg (by omega)]; rfl
    rw [HQ]
    clear HQ h0
    generalize hlen : ts.length = n at *
    have HG := Lib.hid hg
    have hcur : n ≤ cur.size := by omega
    clear hg ht hlen
    go_enter Try.func26, Try.ntmps26
    go_wp2
    go_loopw [5, 1] (fun i j wr => ∃ k : Nat, k ≤ n ∧ i = .int .i64 k ∧ j = .int .i64 (k0 + k) ∧ w.grownBy wr (some g) ∧ ∃ cu : Array Value, IsBlk wr g te cu ∧ cu.size = cur.size ∧ cu.toList.take k = (marksT k0 k).map Value.bool) (fun i _ _ => n - (intOf i).toNat)
    case atStart => exact ⟨0, by omega, rfl, by simp, World.grownBy.refl _ _, cur, HG.out, rfl, by simp [marksT]⟩
    case round =>
      obtain ⟨k, hk, rfl, rfl, hgr, cu, hblk, hsz2, htk⟩ := hrel
      by_cases hlt : k < n
      · have hkc : k < cu.size := by omega
        have c0 : wr.cell? ⟨g, k, none⟩ = some cu[k] := (hblk.cell k).trans (Array.getElem?_eq_getElem hkc)
        have f0 : wr.frozen? ⟨g, k, none⟩ = false := hblk.thaw k
        generalize cu[k] = u at c0
        have HB := Lib.hid hblk
        have HS := Lib.hid hsz2
        have HK := Lib.hid htk
        clear hblk hsz2 htk
        go_wp2
        go_roundw
        case rel =>
          refine ⟨k + 1, by omega, by go_num, by go_num, grown_then hgr (grown_put _ _ _ _), _, HB.out.put k _, by simp [HS.out], ?_⟩
          rw [take_set1 _ _ _ hkc, HK.out, marksT_succ, List.map_append]; rfl
        case measure => simp [intOf]; omega
      · go_wp2
        go_ret
        obtain rfl : k = n := by omega
        exact ⟨rfl, OwnT.mk (marksT_len _ _) hb hblk hnc (by omega) htk, hgr⟩
end Go.Proofs.Ytobbmnbkjeoheaa
