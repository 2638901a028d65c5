/- Busbars: BarsValid, of the program and of the model. -/
import Derived.Test.YtafgfhjlkdjngaaDoorBr1
import Derived.Test.YtafgfhjlkdjngaaDoorBPA
import Derived.Test.YtafgfhjlkdjngaaDoorBCA
import Derived.OwnWalk
import Derived.Outline
namespace Go.Proofs.YtafgfhjlkdjngaaDoor
open Go.ChangeShapes Go.WideShapes Go.ChangeAt Go.RowKit

def vR (v : Value) (c : Bool) : Value := .agg #[v, .bool c]
theorem upto_all {ss : List Int} {n : Nat} {c : Bool} (hn : ss.length = n) (h1 : 1 ≤ n) (h2 : n ≤ 6) (h : ∀ j, j < n → ∀ s, ss[j]? = some s → sideOk c s = true) : brsOk (ss, c) = true :=
  brs_mk (by simp only; omega) (by simp only; omega) (fun k s hk => h k (by have := (List.getElem?_eq_some_iff.1 hk).1; simp only at this; omega) s hk)
theorem side_stop {ss : List Int} {c : Bool} {k : Nat} {s : Int} (hk : ss[k]? = some s) (h : sideOk c s = false) : brsOk (ss, c) = false := by
  rw [Bool.eq_false_iff]; intro h1
  rw [brs_side h1 hk] at h; cases h
theorem len_stop {ss : List Int} {n : Nat} {c : Bool} (hn : ss.length = n) (h : ¬ (1 ≤ n ∧ n ≤ 6)) : brsOk (ss, c) = false := by
  rw [Bool.eq_false_iff]; intro h1
  have := brs_len h1; simp only at this; omega

set_option maxHeartbeats 4000000 in
theorem barsValid_any (A : Option Addr) (n c : Nat) (ss : List Int) (cp : Bool) (w : World) (hn : n ≤ 1048576) (hr : RowZ w A n ss) :
    Calls Tryd.prog 19 #[.agg #[.slice A n c, .bool cp]] w fun e w' => e = .returned (.bool (brsOk (ss, cp))) ∧ Below w.heap.size w w' := by
  have HR := Lib.hid hr
  have HL := Lib.hid hr.len
  clear hr
  by_cases hin : 1 ≤ n ∧ n ≤ 6
  · have HI := Lib.hid (show inB (n : Int) 1 6 = true by simp [inB]; omega)
    go_enter Tryd.func19, Tryd.ntmps19
    go_wp2_with fail
    refine (within_any _ _ _ _).mono ?_
    rintro e w' ⟨rfl, rfl⟩
    rw [HI.out]
    go_wp2
    go_loop [13] (fun i => ∃ k : Nat, k ≤ n ∧ i = .int .i64 k ∧ ∀ j, j < k → ∀ s, ss[j]? = some s → sideOk cp s = true) (fun i => n - (intOf i).toNat)
    case atStart => exact ⟨0, by omega, rfl, by intro j hj; omega⟩
    case round =>
      obtain ⟨k, hk, rfl, hall⟩ := hrel
      have HA := Lib.hid hall
      clear hall
      by_cases hlt : k < n
      · obtain ⟨b, off, z, rfl, hb, hz, g0⟩ := HR.out.at_ hlt
        rw [← (below_bx w (.cells #[.slice (some ⟨b, off, none⟩) n c, .bool cp] 25)).cell (p := ⟨b, off + k, none⟩) hb] at g0
        have HZ := Lib.hid hz
        clear hz
        obtain ⟨p0, p1, -⟩ := (IsBlk.new w 25 #[.slice (some ⟨b, off, none⟩) n c, .bool cp]).two
        by_cases h3 : inB z 1 3 = true
        · by_cases hz3 : z = 3
          · subst hz3
            cases cp
            · go_wp2_with fail
              refine (within_any _ _ _ _).mono ?_
              rintro e w' ⟨rfl, rfl⟩
              rw [h3]
              go_wp2
              go_ret
              exact ⟨retB (side_stop HZ.out (by decide)).symm, below_bx _ _⟩
            · go_wp2_with fail
              refine (within_any _ _ _ _).mono ?_
              rintro e w' ⟨rfl, rfl⟩
              rw [h3]
              go_wp2
              go_round
              case rel => exact ⟨k + 1, by omega, by go_num, upto_succ HA.out HZ.out (by decide)⟩
              case measure => simp [intOf]; omega
          · have hne : (z == 3) = false := by simpa using hz3
            have HS := Lib.hid (show sideOk cp z = true by rw [sideOk, h3, hne]; rfl)
            clear hz3
            go_wp2_with fail
            refine (within_any _ _ _ _).mono ?_
            rintro e w' ⟨rfl, rfl⟩
            rw [h3]
            go_wp2
            go_round
            case rel => exact ⟨k + 1, by omega, by go_num, upto_succ HA.out HZ.out HS.out⟩
            case measure => simp [intOf]; omega
        · rw [Bool.not_eq_true] at h3
          have HS := Lib.hid (show sideOk cp z = false by rw [sideOk, h3]; rfl)
          go_wp2_with fail
          refine (within_any _ _ _ _).mono ?_
          rintro e w' ⟨rfl, rfl⟩
          rw [h3]
          go_wp2
          go_ret
          exact ⟨retB (side_stop HZ.out HS.out).symm, below_bx _ _⟩
      · obtain rfl : k = n := by omega
        go_wp2
        go_ret
        exact ⟨retB (upto_all HL.out hin.1 hin.2 HA.out).symm, below_bx _ _⟩
  · have HI := Lib.hid (show inB (n : Int) 1 6 = false by rw [Bool.eq_false_iff]; intro h; simp [inB] at h; omega)
    go_enter Tryd.func19, Tryd.ntmps19
    go_wp2_with fail
    refine (within_any _ _ _ _).mono ?_
    rintro e w' ⟨rfl, rfl⟩
    rw [HI.out]
    go_wp2
    go_ret
    exact ⟨retB (len_stop HL.out hin).symm, below_bx _ _⟩

set_option maxHeartbeats 4000000 in
theorem specBarsValid_any (A : Option Addr) (n c : Nat) (ss : List Int) (cp : Bool) (w : World) (hn : n ≤ 1048576) (hr : RowZ w A n ss) :
    Calls Tryd.prog 17 #[.agg #[.slice A n c, .bool cp]] w fun e w' => e = .returned (.bool (brsOk (ss, cp))) ∧ Below w.heap.size w w' := by
  have HR := Lib.hid hr
  have HL := Lib.hid hr.len
  clear hr
  go_enter Tryd.func17, Tryd.ntmps17
  go_wp2
  go_loop [3] (fun i => ∃ k : Nat, k ≤ n ∧ i = .int .i64 k ∧ ∀ j, j < k → ∀ s, ss[j]? = some s → sideOk cp s = true) (fun i => n - (intOf i).toNat)
  case atStart => exact ⟨0, by omega, rfl, by intro j hj; omega⟩
  case round =>
    obtain ⟨k, hk, rfl, hall⟩ := hrel
    have HA := Lib.hid hall
    clear hall
    by_cases hlt : k < n
    · obtain ⟨b, off, z, rfl, hb, hz, g0⟩ := HR.out.at_ hlt
      rw [← (below_bx w (.cells #[.slice (some ⟨b, off, none⟩) n c, .bool cp] 25)).cell (p := ⟨b, off + k, none⟩) hb] at g0
      have HZ := Lib.hid hz
      clear hz
      obtain ⟨p0, p1, -⟩ := (IsBlk.new w 25 #[.slice (some ⟨b, off, none⟩) n c, .bool cp]).two
      by_cases h3 : inB z 1 3 = true
      · by_cases hz3 : z = 3
        · subst hz3
          cases cp
          · go_wp2_with fail
            refine (l1In_any _ _ _ _).mono ?_
            rintro e w' ⟨rfl, rfl⟩
            rw [h3]
            go_wp2
            go_ret
            exact ⟨retB (side_stop HZ.out (by decide)).symm, below_bx _ _⟩
          · go_wp2_with fail
            refine (l1In_any _ _ _ _).mono ?_
            rintro e w' ⟨rfl, rfl⟩
            rw [h3]
            go_wp2
            go_round
            case rel => exact ⟨k + 1, by omega, by go_num, upto_succ HA.out HZ.out (by decide)⟩
            case measure => simp [intOf]; omega
        · have hne : (z == 3) = false := by simpa using hz3
          have HS := Lib.hid (show sideOk cp z = true by rw [sideOk, h3, hne]; rfl)
          clear hz3
          go_wp2_with fail
          refine (l1In_any _ _ _ _).mono ?_
          rintro e w' ⟨rfl, rfl⟩
          rw [h3]
          go_wp2
          go_round
          case rel => exact ⟨k + 1, by omega, by go_num, upto_succ HA.out HZ.out HS.out⟩
          case measure => simp [intOf]; omega
      · rw [Bool.not_eq_true] at h3
        have HS := Lib.hid (show sideOk cp z = false by rw [sideOk, h3]; rfl)
        go_wp2_with fail
        refine (l1In_any _ _ _ _).mono ?_
        rintro e w' ⟨rfl, rfl⟩
        rw [h3]
        go_wp2
        go_ret
        exact ⟨retB (side_stop HZ.out HS.out).symm, below_bx _ _⟩
    · obtain rfl : k = n := by omega
      obtain ⟨p0, p1, -⟩ := (IsBlk.new w 25 #[.slice A k c, .bool cp]).two
      go_wp2_with fail
      refine (l1In_any _ _ _ _).mono ?_
      rintro e w' ⟨rfl, rfl⟩
      go_wp2
      go_ret
      refine ⟨retB ?_, below_bx _ _⟩
      by_cases hin : 1 ≤ k ∧ k ≤ 6
      · rw [upto_all HL.out hin.1 hin.2 HA.out]; simp [inB]; omega
      · rw [len_stop HL.out hin, Bool.eq_false_iff]; intro h; simp [inB] at h; omega
end Go.Proofs.YtafgfhjlkdjngaaDoor
