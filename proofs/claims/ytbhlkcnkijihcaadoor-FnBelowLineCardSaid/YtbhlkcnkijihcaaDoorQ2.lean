/- The bridges, of the program. -/
import Derived.Test.YtbhlkcnkijihcaaDoorQ1
import Derived.Laws.EntriesVeiled
namespace Go.Proofs.YtbhlkcnkijihcaaDoor
open Go.ChangeShapes Go.WideShapes Go.ChangeAt Go.RowKit

theorem boolsB_one (bb : List Bool) : (boolsB bb).all (·.oneCell') = true := by simp [boolsB, Value.oneCell']
theorem dst_start (w : World) (bs : Int) (n c m d : Nat) (A B : Option Addr) : DSt w (((((((w.alloc (.cells #[.int .i64 bs, .slice A n c] 25)).alloc (.cells #[.slice B m d] 26)).alloc (.cells (boolsB (List.replicate 10 false)) 92)).alloc (.cells (boolsB (List.replicate 10 false)) 92)).alloc (.cells (intsB (List.replicate 8 0)) 101)).alloc (.cells #[.int .i64 0] 3)).alloc (.cells #[srchV w.heap.size] 102)) w.heap.size bs n c m d A B (List.replicate 8 0) 0 (List.replicate 10 false) := by
  refine ⟨?_, Nat.le_refl _, ?_, ?_, ?_, ?_, ?_, ?_, ?_, rfl, rfl⟩
  · exact (((((((below_bx w _).alloc (by simp) _).alloc (by simp; omega) _).alloc (by simp; omega) _).alloc (by simp; omega) _).alloc (by simp; omega) _).alloc (by simp; omega) _)
  · exact ((((((IsBlk.new w _ _).alloc _).alloc _).alloc _).alloc _).alloc _).alloc _
  · exact (((((IsBlk.at_ (by simp) rfl rfl).alloc _).alloc _).alloc _).alloc _).alloc _
  · exact ((((IsBlk.at_ (by simp) rfl rfl).alloc _).alloc _).alloc _).alloc _
  · exact (((IsBlk.at_ (by simp) rfl rfl).alloc _).alloc _).alloc _
  · exact ((IsBlk.at_ (by simp) rfl rfl).alloc _).alloc _
  · exact (IsBlk.at_ (by simp) rfl rfl).alloc _
  · exact IsBlk.at_ (by simp) rfl rfl

set_option maxRecDepth 100000 in
set_option maxHeartbeats 800000 in
theorem bridgesOf_any (nb : Nat) (A : Option Addr) (n c : Nat) (ls : List L3) (B : Option Addr) (m d : Nat) (ts : List Bool) (w : World) (hr : RowL w A n ls) (hrt : RowT w B m ts) (hs : stOk nb ls ts.length = true) :
    Calls Tryd.prog 99 #[.agg #[.int .i64 (nb : Int), .slice A n c], .slice B m d] w fun e w' => ∃ bb : List Bool, e = .returned (.agg (boolsB bb)) ∧ bb.length = 10 ∧ (∀ k, ts[k]? = some true → brF bb k = briB ls ts k) ∧ Below w.heap.size w w' := by
  have SA := Lib.hid (search_any w w.heap.size nb n c m d A B ls ts hr hrt hs)
  have hml := hrt.len
  have hnl := hr.1
  have hm10 := stOk_len hs
  have hbs := stOk_bs hs
  have HS := Lib.hid hs
  have HML := Lib.hid hml
  have hnb : nb ≤ 8 := by omega
  clear hr hrt hs hml hnl hm10 hbs
  have hmf : ∀ (fn : Fn) (first cap : Array Value) (w : World), (Instr.makeFunc fn first cap).run Tryd.prog w = .ok (.func fn first cap) w := fun _ _ _ _ => rfl
  go_enter Tryd.func99, Tryd.ntmps99
  go_wp2
  have ST0 := Lib.hid (dst_start w nb n c m d A B)
  have hsz0 : w.heap.size ≤ w.heap.size := Nat.le_refl _
  clear hsz0 hmf
  go_loopw [13] (fun i wk => ∃ (k : Nat) (zs : List Nat) (now : Nat) (bb : List Bool), k ≤ nb ∧ i = .int .i64 k ∧ DSt w wk w.heap.size nb n c m d A B zs now bb ∧ DInv ls ts (tF zs) now (brF bb) [] ∧ now + leftN (tF zs) nb ≤ 8 ∧ (∀ b, b < k → tF zs b ≠ 0)) (fun i _ => nb - (intOf i).toNat)
  case atStart =>
    refine ⟨0, _, _, _, by omega, rfl, ST0.out, ?_, ?_, fun b h => absurd h (by omega)⟩
    · have e1 : tF (List.replicate 8 0) = fun _ => 0 := by
        funext b; simp only [tF, List.getD_eq_getElem?_getD, List.getElem?_replicate]; split <;> rfl
      have e2 : brF (List.replicate 10 false) = fun _ => false := by
        funext b; simp only [brF, List.getD_eq_getElem?_getD, List.getElem?_replicate]; split <;> rfl
      rw [e1, e2]; exact dfs_none ls ts
    · have : leftN (tF (List.replicate 8 0)) nb ≤ nb := by
        unfold leftN; exact Nat.le_trans List.countP_le_length (by simp)
      omega
  case round =>
    obtain ⟨k, zs, now, bb, hk, rfl, hst, hin, hnow, hall⟩ := hrel
    have ST := Lib.hid hst
    have HIN := Lib.hid hin
    have HNOW := Lib.hid hnow
    have HA := Lib.hid hall
    clear hst hin hnow hall ST0
    by_cases hkm : k < nb
    · have j0 : (0 : Int) ≤ (k : Int) := by omega
      have j1 : (k : Int) < 8 := by omega
      have c0 := ST.out.time (b := k) (by omega)
      have c1 := ST.out.srch
      rw [srchV] at c1
      by_cases hz : tF zs k = 0
      · have HZ := Lib.hid hz
        have hz0 : ((tF zs k : Int) == 0) = true := by rw [hz]; rfl
        clear hz
        go_wp2_with (first
          | (go_at_call 102; refine (SA.out _ k (-1) [] zs now bb wr (Nat.le_refl _) hkm HZ.out ST.out HIN.out (.inl ⟨rfl, rfl⟩) HNOW.out).mono ?_; rintro e w3 ⟨zs3, now3, bb3, least3, rfl, hst3, hp3, hnow3⟩)
          | fail)
        go_roundw
        case rel =>
          refine ⟨k + 1, _, _, _, by omega, by go_num, hst3, hp3.inv, hnow3, fun b hb => ?_⟩
          rcases Nat.lt_or_ge b k with h | h
          · rw [hp3.keep b (HA.out b h)]; exact HA.out b h
          · obtain rfl : b = k := by omega
            exact hp3.vis
        case measure => simp [intOf]; omega
      · have HZ := Lib.hid hz
        have hz0 : ((tF zs k : Int) == 0) = false := by rw [beq_eq_false_iff_ne]; omega
        clear hz
        go_wp2
        go_roundw
        case rel =>
          refine ⟨k + 1, _, _, _, by omega, by go_num, ST.out, HIN.out, HNOW.out, fun b hb => ?_⟩
          rcases Nat.lt_or_ge b k with h | h
          · exact HA.out b h
          · obtain rfl : b = k := by omega
            exact HZ.out
        case measure => simp [intOf]; omega
    · obtain rfl : k = nb := by omega
      have hb1 := ST.out.brb
      have hb2 := ST.out.res
      have hl10 : (boolsB bb).size = 10 := by simp [boolsB, ST.out.bl]
      rw [IsBlk] at hb1 hb2
      clear SA
      go_wp2_with (first
        | (refine wpList_load_row rfl 92 _ rfl (w.heap.size + 3) rfl _ _ _ _ hb1 Tryd.underlying92 rfl (by rw [hl10]; kernel_rfl) ?_)
        | (refine wpList_store_row rfl 92 _ _ rfl (w.heap.size + 2) (boolsB bb) rfl rfl _ _ hb2 (by rw [hl10]; kernel_rfl) (by rw [hl10]; rfl) (boolsB_one bb) ?_)
        | fail)
      refine bodyPost_ret (v := .agg (boolsB bb)) (results_cell_row rfl _ _ (w.heap.size + 2) _ _ _ _ rfl (setRow_heap _ _ _ _ _ _ hb2) Tryd.underlying92 rfl (by rw [hl10]; kernel_rfl)) rfl ⟨bb, rfl, ST.out.bl, fun j hj => ?_, below_setRow ST.out.bel (by omega) _⟩
      obtain ⟨l, hl⟩ := on_line HS.out (List.getElem?_eq_some_iff.1 hj).1
      have hln : Ln ls ts j l.1.toNat l.2.1.toNat := ⟨l, hl, hj, .inl ⟨rfl, rfl⟩⟩
      have hv := stOk_net HS.out
      have h1 := hln.lt hv
      have h2 := hln.symm.lt hv
      have h3 := HIN.out.ok j _ _ hln (HA.out _ (by simpa using h1)) (by simp) (HA.out _ (by simpa using h2)) (by simp)
      rw [briB_at hl hj, Bool.true_and, Bool.eq_iff_iff, h3, Bool.not_eq_true', connB_no]
      rfl
end Go.Proofs.YtbhlkcnkijihcaaDoor
