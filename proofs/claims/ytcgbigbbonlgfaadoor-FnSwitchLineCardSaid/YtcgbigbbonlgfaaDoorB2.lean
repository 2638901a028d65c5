/- StateValid and StateNumber, of the program and of the model. -/
import Derived.Test.YtcgbigbbonlgfaaDoorA2
import Derived.Test.YtcgbigbbonlgfaaDoorBase2
namespace Go.Proofs.YtcgbigbbonlgfaaDoor
open Go.ChangeShapes Go.WideShapes Go.ChangeAt Go.RowKit

def stOk (bs : Int) (ls : List L3) (m : Nat) : Bool := netOk bs ls && decide (m = ls.length)

theorem stateValid_any (bs : Int) (A : Option Addr) (n c : Nat) (ls : List L3) (B : Option Addr) (m d : Nat) (w : World) (hn : n ≤ 1048576) (hr : RowL w A n ls) (hm : m ≤ 9223372036854775807) :
    Calls Tryd.prog 10 #[.agg #[.int .i64 bs, .slice A n c], .slice B m d] w fun e w' => e = .returned (.bool (stOk bs ls m)) ∧ Below w.heap.size w w' := by
  have HR := Lib.hid hr
  have HL := Lib.hid hr.1
  clear hr
  by_cases hv : netOk bs ls = true
  · have HV := Lib.hid hv
    clear hv
    by_cases hmn : m = n
    · subst hmn
      have HF := Lib.hid (show stOk bs ls m = true by simp [stOk, HV.out, HL.out])
      go_enter Tryd.func10, Tryd.ntmps10
      go_wp2_with fail
      refine (netValid_any bs _ m c ls _ hn (HR.out.below (below_bx w _))).mono ?_
      rintro e w1 ⟨rfl, hb1⟩
      rw [HV.out]
      obtain ⟨p0, p1, _, _⟩ := ((IsBlk.new w 25 #[.int .i64 bs, .slice A m c]).keep hb1).two
      go_wp2
      go_ret
      exact ⟨retB HF.out.symm, (below_bx w _).trans (hb1.mono (by simp))⟩
    · have hne : ((m : Int) == (n : Int)) = false := by simp; omega
      have HF := Lib.hid (show stOk bs ls m = false by simp [stOk, HL.out, hmn])
      clear hmn
      go_enter Tryd.func10, Tryd.ntmps10
      go_wp2_with fail
      refine (netValid_any bs _ n c ls _ hn (HR.out.below (below_bx w _))).mono ?_
      rintro e w1 ⟨rfl, hb1⟩
      rw [HV.out]
      obtain ⟨p0, p1, _, _⟩ := ((IsBlk.new w 25 #[.int .i64 bs, .slice A n c]).keep hb1).two
      go_wp2
      go_ret
      exact ⟨retB HF.out.symm, (below_bx w _).trans (hb1.mono (by simp))⟩
  · rw [Bool.not_eq_true] at hv
    have HV := Lib.hid hv
    have HF := Lib.hid (show stOk bs ls m = false by simp [stOk, hv])
    clear hv
    go_enter Tryd.func10, Tryd.ntmps10
    go_wp2_with fail
    refine (netValid_any bs _ n c ls _ hn (HR.out.below (below_bx w _))).mono ?_
    rintro e w1 ⟨rfl, hb1⟩
    rw [HV.out]
    go_wp2
    go_ret
    exact ⟨retB HF.out.symm, (below_bx w _).trans (hb1.mono (by simp))⟩

theorem specStateValid_any (bs : Int) (A : Option Addr) (n c : Nat) (ls : List L3) (B : Option Addr) (m d : Nat) (w : World) (hn : n ≤ 1048576) (hr : RowL w A n ls) (hm : m ≤ 9223372036854775807) :
    Calls Tryd.prog 11 #[.agg #[.int .i64 bs, .slice A n c], .slice B m d] w fun e w' => e = .returned (.bool (stOk bs ls m)) ∧ Below w.heap.size w w' := by
  have HR := Lib.hid hr
  have HL := Lib.hid hr.1
  clear hr
  by_cases hv : netOk bs ls = true
  · have HV := Lib.hid hv
    clear hv
    by_cases hmn : m = n
    · subst hmn
      have HF := Lib.hid (show stOk bs ls m = true by simp [stOk, HV.out, HL.out])
      go_enter Tryd.func11, Tryd.ntmps11
      go_wp2_with fail
      refine (specNetValid_any bs _ m c ls _ hn (HR.out.below (below_bx w _))).mono ?_
      rintro e w1 ⟨rfl, hb1⟩
      rw [HV.out]
      obtain ⟨p0, p1, _, _⟩ := ((IsBlk.new w 25 #[.int .i64 bs, .slice A m c]).keep hb1).two
      go_wp2
      go_ret
      exact ⟨retB HF.out.symm, (below_bx w _).trans (hb1.mono (by simp))⟩
    · have hne : ((m : Int) == (n : Int)) = false := by simp; omega
      have HF := Lib.hid (show stOk bs ls m = false by simp [stOk, HL.out, hmn])
      clear hmn
      go_enter Tryd.func11, Tryd.ntmps11
      go_wp2_with fail
      refine (specNetValid_any bs _ n c ls _ hn (HR.out.below (below_bx w _))).mono ?_
      rintro e w1 ⟨rfl, hb1⟩
      rw [HV.out]
      obtain ⟨p0, p1, _, _⟩ := ((IsBlk.new w 25 #[.int .i64 bs, .slice A n c]).keep hb1).two
      go_wp2
      go_ret
      exact ⟨retB HF.out.symm, (below_bx w _).trans (hb1.mono (by simp))⟩
  · rw [Bool.not_eq_true] at hv
    have HV := Lib.hid hv
    have HF := Lib.hid (show stOk bs ls m = false by simp [stOk, hv])
    clear hv
    go_enter Tryd.func11, Tryd.ntmps11
    go_wp2_with fail
    refine (specNetValid_any bs _ n c ls _ hn (HR.out.below (below_bx w _))).mono ?_
    rintro e w1 ⟨rfl, hb1⟩
    rw [HV.out]
    go_wp2
    go_ret
    exact ⟨retB HF.out.symm, (below_bx w _).trans (hb1.mono (by simp))⟩

theorem pow_bd {k : Nat} (h : k ≤ 10) : (1 : Int) ≤ 2 ^ k ∧ (2 : Int) ^ k ≤ 1024 := by
  rcases (show k = 0 ∨ k = 1 ∨ k = 2 ∨ k = 3 ∨ k = 4 ∨ k = 5 ∨ k = 6 ∨ k = 7 ∨ k = 8 ∨ k = 9 ∨ k = 10 by omega) with rfl | rfl | rfl | rfl | rfl | rfl | rfl | rfl | rfl | rfl | rfl <;> decide

theorem stateNumber_any (A : Option Addr) (n c : Nat) (ts : List Bool) (w : World) (hn : n ≤ 9223372036854775807) (hr : RowT w A n ts) :
    Calls Tryd.prog 15 #[.slice A n c] w fun e w' => e = .returned (.int .i64 (stNumF ts)) ∧ w = w' := by
  have HR := Lib.hid hr
  have HL := Lib.hid hr.len
  clear hr
  by_cases h10 : n ≤ 10
  · have HF := Lib.hid (show stNumF ts = numF ts by rw [stNumF, if_pos (by rw [HL.out]; exact h10)])
    go_enter Tryd.func15, Tryd.ntmps15
    go_wp2
    go_loop [3, 11] (fun s i => ∃ k : Nat, k ≤ n ∧ i = .int .i64 k ∧ s = .int .i64 (numF (ts.take k))) (fun _ i => n - (intOf i).toNat)
    case atStart => exact ⟨0, by omega, rfl, rfl⟩
    case round =>
      obtain ⟨k, hk, rfl, rfl⟩ := hrel
      by_cases hlt : k < n
      · obtain ⟨b, off, t, rfl, hb, hkt, g0⟩ := HR.out.at_ hlt
        have hsn := numF_snoc (ts.take k) t
        have hlen : (ts.take k).length = k := by rw [List.length_take]; have := HL.out; omega
        have htk : ts.take (k + 1) = ts.take k ++ [t] := by rw [List.take_add_one, hkt]; rfl
        rw [← htk, hlen] at hsn
        have hbd := numF_bd (ts.take k)
        rw [hlen] at hbd
        have hp := pow_bd (show k ≤ 10 by omega)
        have h0 := hbd.1
        have h1 : numF (ts.take k) ≤ 1024 := by omega
        have HS := Lib.hid hsn
        have hmin : min k 64 = k := by omega
        clear hsn hlen htk hkt hbd
        cases t
        · go_wp2
          go_round
          case rel => exact ⟨k + 1, by omega, by go_num, by rw [HS.out]; simp⟩
          case measure => simp [intOf]; omega
        · have hp1 := hp.1
          have hp2 := hp.2
          clear hp
          have hk64 : (k : Int) ≤ 64 := by omega
          go_wp2
          go_round
          case rel => exact ⟨k + 1, by omega, by go_num, by rw [HS.out]; simp⟩
          case measure => simp [intOf]; omega
      · go_wp2
        go_ret
        obtain rfl : k = n := by omega
        refine ⟨retI ?_, rfl⟩
        rw [HF.out, ← HL.out, List.take_length]
  · have HF := Lib.hid (show stNumF ts = -1 by rw [stNumF, if_neg (by rw [HL.out]; exact h10)])
    go_enter Tryd.func15, Tryd.ntmps15
    go_wp2
    go_ret
    exact ⟨retI HF.out.symm, rfl⟩

theorem specStateNumber_any (A : Option Addr) (n c : Nat) (ts : List Bool) (w : World) (hn : n ≤ 9223372036854775807) (hr : RowT w A n ts) :
    Calls Tryd.prog 16 #[.slice A n c] w fun e w' => e = .returned (.int .i64 (stNumF ts)) ∧ w = w' := by
  have HR := Lib.hid hr
  have HL := Lib.hid hr.len
  clear hr
  by_cases h10 : n ≤ 10
  · have HF := Lib.hid (show stNumF ts = numF ts by rw [stNumF, if_pos (by rw [HL.out]; exact h10)])
    go_enter Tryd.func16, Tryd.ntmps16
    go_wp2
    go_loop [3, 4] (fun s i => ∃ k : Nat, k ≤ n ∧ i = .int .i64 ((k : Int) - 1) ∧ s = .int .i64 (numF (ts.drop k))) (fun _ i => (intOf i + 1).toNat)
    case atStart => exact ⟨n, by omega, rfl, by rw [← HL.out, List.drop_length]; rfl⟩
    case round =>
      obtain ⟨k, hk, rfl, rfl⟩ := hrel
      by_cases hlt : 0 < k
      · obtain ⟨j, rfl⟩ : ∃ j, k = j + 1 := ⟨k - 1, by omega⟩
        obtain ⟨b, off, t, rfl, hb, hkt, g0⟩ := HR.out.at_ (show j < n by omega)
        have hd : ts.drop j = t :: ts.drop (j + 1) := by
          obtain ⟨hlt', he⟩ := List.getElem?_eq_some_iff.1 hkt
          rw [← he]; exact List.drop_eq_getElem_cons hlt'
        have hbd := numF_bd (ts.drop (j + 1))
        have hp := pow_bd (show (ts.drop (j + 1)).length ≤ 10 by rw [List.length_drop]; have := HL.out; omega)
        have h0 := hbd.1
        have h1 : numF (ts.drop (j + 1)) ≤ 1024 := by omega
        have HS := Lib.hid (show numF (ts.drop j) = 2 * numF (ts.drop (j + 1)) + (if t = true then 1 else 0) by rw [hd, numF])
        have hj : ((j + 1 : Nat) : Int) - 1 = (j : Int) := by omega
        rw [hj]
        clear hd hkt hbd hp hj
        generalize numF (ts.drop (j + 1)) = s at *
        cases t
        all_goals
          go_wp2
          go_round
          case rel => exact ⟨j, by omega, by first | rfl | go_num, by rw [HS.out]; first | rfl | go_num | simp⟩
          case measure => simp [intOf]
      · obtain rfl : k = 0 := by omega
        go_wp2
        go_ret
        refine ⟨retI ?_, rfl⟩
        rw [HF.out]
  · have HF := Lib.hid (show stNumF ts = -1 by rw [stNumF, if_neg (by rw [HL.out]; exact h10)])
    go_enter Tryd.func16, Tryd.ntmps16
    go_wp2
    go_ret
    exact ⟨retI HF.out.symm, rfl⟩
end Go.Proofs.YtcgbigbbonlgfaaDoor
