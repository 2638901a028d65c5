/- Bays: the drawing of deeds. -/
import Derived.Test.YtapbmpodimdkpaaDoorBayH
import Derived.Test.YtapbmpodimdkpaaDoorBay5
namespace Go.Proofs.YtapbmpodimdkpaaDoor
open Go.ChangeShapes Go.WideShapes Go.ChangeAt Go.RowKit

theorem grown_own9 {w0 w w' : World} {R : Nat} {row : Option Nat} (h : w0.grownBy w (some R)) (g : w.grownBy w' row) (hq : ∀ q, row = some q → w0.heap.size ≤ q) : w0.grownBy w' (some R) :=
  ⟨g.os.trans h.os, g.tape.trans h.tape, g.output.trans h.output, Nat.le_trans h.size g.size, fun p hp hne => (g.block p (Nat.lt_of_lt_of_le hp h.size) (fun e => by have := hq p e.symm; omega)).trans (h.block p hp hne)⟩
/-- Deeds in the making, beside a reader that was there before. -/
structure DeedSt (w wr : World) (R : Nat) (lim : Int) (v : Value) (ds : List Int) : Prop where
  own : OwnI 3 wr w.heap.size v ds
  rd : Rd wr R lim
  gr : w.grownBy wr (some R)
theorem DeedSt.pick {w wr w' : World} {R : Nat} {lim lim' : Int} {v : Value} {ds : List Int} (h : DeedSt w wr R lim v ds) (hR : R < w.heap.size) (hr : Rd w' R lim') (hg : wr.grownBy w' (some R)) : DeedSt w w' R lim' v ds :=
  ⟨h.own.far hg (fun q hq e => by injection e with e; have := (h.own.lt q hq).1; omega), hr, grown_then h.gr hg⟩
theorem DeedSt.push {w wr w' : World} {R : Nat} {lim : Int} {v v' : Value} {ds ds' : List Int} (h : DeedSt w wr R lim v ds) (hR : R < w.heap.size) (o : Obj) (hown : OwnI 3 w' w.heap.size v' ds') (hg : (wr.alloc o).grownBy w' v.ownBlock) : DeedSt w w' R lim v' ds' :=
  ⟨hown, (h.rd.alloc o).grown hg (fun q hq => by have := (h.own.lt q hq).1; omega), grown_own9 (grown_then h.gr (grown_alloc _ _ _)) hg (fun q hq => (h.own.lt q hq).1)⟩

set_option maxHeartbeats 4000000 in
theorem l20Deeds_any (R : Nat) (lim : Int) (hlim : lim ≤ 900000) (w : World) (hr : Rd w R lim) :
    Calls Tryd.prog 47 #[.pointer (some ⟨R, 0, none⟩)] w fun x w' => ∃ v ds, x = .returned v ∧ ds.length ≤ 8 ∧ (∀ z ∈ ds, -1 ≤ z ∧ z ≤ 8) ∧ DeedSt w w' R (lim + 17) v ds := by
  obtain ⟨i0, hi, hz0, hz1, hz2⟩ := info_parts intInfo6
  have HI := Lib.hid hi
  have hR := hr.lt
  have S0 := Lib.hid (show DeedSt w (w.alloc (.cells #[] 3)) R lim (.slice (some ⟨w.heap.size, 0, none⟩) 0 0) [] from ⟨ownLit w, hr.alloc _, grown_alloc _ _ _⟩)
  clear hi hr
  go_enter Tryd.func47, Tryd.ntmps47
  go_wp2_with fail
  refine (pick_any R 9 lim (by omega) (by decide) _ S0.out.rd).mono ?_
  rintro x w1 ⟨v, rfl, hv0, hv1, _, hr1, hg1⟩
  have hv2 : v < 9 := hv1 (by decide)
  obtain ⟨m, rfl⟩ := Int.eq_ofNat_of_zero_le hv0
  have S1 := Lib.hid (S0.out.pick hR hr1 hg1)
  clear S0 hr1 hg1 hv0 hv1
  go_wp2_with fail
  go_loopw [3, 4] (fun v i wr => ∃ (k : Nat) (ds : List Int), i = .int .i64 k ∧ ds.length + k ≤ 8 ∧ (∀ z ∈ ds, -1 ≤ z ∧ z ≤ 8) ∧ DeedSt w wr R (lim + 17 - 2 * k) v ds) (fun _ i _ => (intOf i).toNat)
  case atStart => exact ⟨m, [], rfl, by simp; omega, by simp, S1.out.own, S1.out.rd.mono (by omega), S1.out.gr⟩
  case round =>
    obtain ⟨k, ds, rfl, hk, hin, hst⟩ := hrel
    have SK := Lib.hid hst
    have HIN := Lib.hid hin
    clear hst hin S1
    by_cases hlt : 0 < k
    · have hk0 : (0 : Int) < (k : Int) := by omega
      go_wp2_with fail
      refine (pick_any R 9 _ (by omega) (by decide) _ SK.out.rd).mono ?_
      rintro x w2 ⟨a, rfl, ha0, ha1, _, hr2, hg2⟩
      have ha2 : a < 9 := ha1 (by decide)
      have S2 := Lib.hid (SK.out.pick hR hr2 hg2)
      clear SK hr2 hg2 ha1
      go_wp2_with fail
      refine (pick_any R 9 _ (by omega) (by decide) _ S2.out.rd).mono ?_
      rintro x w3 ⟨b, rfl, hb0, hb1, _, hr3, hg3⟩
      have hb2 : b < 9 := hb1 (by decide)
      have S3 := Lib.hid (S2.out.pick hR hr3 hg3)
      clear S2 hr3 hg3 hb1
      have hgs := S3.out.gr.size
      go_wp2_with (
        at_builtin
        refine wpList_append_own _ rfl _ _ _ rfl w.heap.size 3 i0 (.int .i64 0) 1 8 Tryd.underlying34 HI.out hz0 hz1 hz2 rfl (by decide) _ _ _ rfl (World.ownsRow.alloc S3.out.own _) ⟨w3.heap.size, 0, none⟩ 1 1 [.int .i64 (a - b / 8)] rfl rfl ?c1 ?c2 ?c3 ?c4 ?c5 ?_
        case c1 => exact cell_one_new _ _ _
        case c2 => intro u hu; simp at hu; subst hu; rfl
        case c3 => simp only [maxLen]; omega
        case c4 => omega
        case c5 => simp; omega
        intro v' w4 hown' hgrow _
        have S4 := Lib.hid (S3.out.push (ds' := ds ++ [a - b / 8]) hR (.cells #[.int .i64 (a - b / 8)] 3) (by simpa [OwnI] using hown') hgrow))
      go_roundw
      case rel =>
        refine ⟨k - 1, ds ++ [a - b / 8], by go_num, by simp; omega, ?_, S4.out.own, S4.out.rd.mono (by omega), S4.out.gr⟩
        intro z hz
        rcases List.mem_append.1 hz with h | h
        · exact HIN.out z h
        · obtain rfl := List.mem_singleton.1 h
          omega
      case measure => simp [intOf]; omega
    · obtain rfl : k = 0 := by omega
      go_wp2
      go_ret
      exact ⟨_, ds, rfl, by omega, HIN.out, SK.out.own, SK.out.rd.mono (by omega), SK.out.gr⟩
end Go.Proofs.YtapbmpodimdkpaaDoor
