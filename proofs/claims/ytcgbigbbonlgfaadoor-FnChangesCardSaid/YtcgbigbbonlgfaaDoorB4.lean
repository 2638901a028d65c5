/- StateOf, of the program and of the model. -/
import Derived.Test.YtcgbigbbonlgfaaDoorA1
import Derived.Test.YtcgbigbbonlgfaaDoorB1
import Derived.Test.YtcgbigbbonlgfaaDoorB2
import Derived.Maps.AppendAt
import Derived.Laws.BitsLemmas
import Derived.Laws.Shifts
import Derived.Outline
namespace Go.Proofs.YtcgbigbbonlgfaaDoor
open Go.ChangeShapes Go.WideShapes Go.ChangeAt Go.RowKit

theorem and1 (x : Int) (h0 : 0 ≤ x) (h1 : x < 9223372036854775808) : bits .and .i64 x 1 = x % 2 :=
  bits_mask .i64 63 (by decide) (fun n h0 h1 => by rw [IntKind.wrap_i64]; omega) 1 (by decide) x h0 (by omega)
theorem bit_at (m k : Nat) : ((((m / 2 ^ k : Nat) : Int) % 2) == 1) = decide (m / 2 ^ k % 2 = 1) := by
  generalize m / 2 ^ k = q
  rw [Bool.eq_iff_iff]; simp; omega
theorem div_cast (m k : Nat) : (m : Int) / 2 ^ k = ((m / 2 ^ k : Nat) : Int) := by
  rw [Int.natCast_ediv, Int.natCast_pow]; rfl

theorem stOf_out {m l : Int} (h : ¬ (0 ≤ l ∧ l ≤ 10)) : stOfB m l = false ∧ stOfF m l = [] := by
  have : stOfB m l = false := by
    rw [Bool.eq_false_iff]; intro h2; simp only [stOfB, Bool.and_eq_true, decide_eq_true_eq] at h2; exact h ⟨h2.1.1.1, h2.1.1.2⟩
  exact ⟨this, by rw [stOfF, if_neg (by rw [this]; simp)]⟩
theorem stOf_far {m : Int} {l : Nat} (h : ¬ (0 ≤ m ∧ m < 2 ^ l)) : stOfB m l = false ∧ stOfF m l = [] := by
  have : stOfB m l = false := by
    rw [Bool.eq_false_iff]; intro h2; simp only [stOfB, Bool.and_eq_true, decide_eq_true_eq, Int.toNat_natCast] at h2; exact h ⟨h2.1.2, h2.2⟩
  exact ⟨this, by rw [stOfF, if_neg (by rw [this]; simp)]⟩
theorem stOf_in {m l : Nat} (h : l ≤ 10) (h2 : (m : Int) < 2 ^ l) : stOfB m l = true ∧ stOfF m l = bitsF m l := by
  have : stOfB m l = true := by simp [stOfB, h2]; omega
  exact ⟨this, by rw [stOfF, if_pos this]; rfl⟩

theorem stateOf_any (m l : Int) (w : World) :
    Calls Tryd.prog 17 #[.int .i64 m, .int .i64 l] w fun e w' => ∃ v, e = .returned (.tuple #[v, .bool (stOfB m l)]) ∧ OwnT w' w.heap.size v (stOfF m l) ∧ Below w.heap.size w w' := by
  by_cases hl : 0 ≤ l ∧ l ≤ 10
  · obtain ⟨l, rfl⟩ := Int.eq_ofNat_of_zero_le hl.1
    have hl10 : l ≤ 10 := by omega
    have hp := pow_bd hl10
    have hp1 := hp.1
    have hp2 := hp.2
    have hmin : min l 64 = l := by omega
    have HI := Lib.hid (show inB (l : Int) 0 10 = true by simp [inB]; omega)
    clear hl hp
    by_cases hm : 0 ≤ m ∧ m < 2 ^ l
    · obtain ⟨m, rfl⟩ := Int.eq_ofNat_of_zero_le hm.1
      have HJ := Lib.hid (show inB (m : Int) 0 ((2 : Int) ^ l - 1) = true by simp [inB]; omega)
      have HS := Lib.hid (stOf_in hl10 hm.2)
      have hm2 : (m : Int) ≤ 1024 := by omega
      clear hm
      go_enter Tryd.func17, Tryd.ntmps17
      go_wp2_with fail
      refine (within_any _ _ _ _).mono ?_
      rintro e w' ⟨rfl, rfl⟩
      rw [HI.out]
      go_wp2_with fail
      refine (within_any _ _ _ _).mono ?_
      rintro e w' ⟨rfl, rfl⟩
      rw [HJ.out]
      go_wp2
      go_loopw [20] (fun i wr => ∃ k : Nat, k ≤ l ∧ i = .int .i64 k ∧ Below w.heap.size w wr ∧ ∃ cu : Array Value, IsBlk wr w.heap.size 64 cu ∧ cu.size = 10 ∧ cu.toList.take k = (bitsF m k).map Value.bool) (fun i _ => l - (intOf i).toNat)
      case atStart => exact ⟨0, by omega, rfl, below_bx _ _, _, IsBlk.new w _ _, rfl, rfl⟩
      case round =>
        obtain ⟨k, hk, rfl, hbel, cu, hblk, hsz, htk⟩ := hrel
        by_cases hlt : k < l
        · have hkc : k < cu.size := by omega
          have c0 : wr.cell? ⟨w.heap.size, k, none⟩ = some cu[k] := (hblk.cell k).trans (Array.getElem?_eq_getElem hkc)
          have f0 : wr.frozen? ⟨w.heap.size, k, none⟩ = false := hblk.thaw k
          generalize cu[k] = u at c0
          have HB := Lib.hid hblk
          have HS2 := Lib.hid hsz
          have HK := Lib.hid htk
          have hmk : min k 64 = k := by omega
          have hq : m / 2 ^ k ≤ m := Nat.div_le_self _ _
          have hd := div_cast m k
          have hb := bit_at m k
          have HQ := Lib.hid (bitsF_succ m k)
          generalize m / 2 ^ k = q at *
          have ha := and1 (q : Int) (by omega) (by omega)
          generalize decide (q % 2 = 1) = bt at *
          clear hblk hsz htk
          go_wp2
          go_roundw
          case rel =>
            refine ⟨k + 1, by omega, by go_num, hbel.setCell (Nat.le_refl _) _, _, HB.out.put k _, by simp [HS2.out], ?_⟩
            rw [take_set1 _ _ _ hkc, HK.out, HQ.out, List.map_append]; rfl
          case measure => simp [intOf]; omega
        · have HB := Lib.hid hblk
          have HS2 := Lib.hid hsz
          have HK := Lib.hid htk
          clear hblk hsz htk
          have hl11 : (l : Int) ≤ 10 := by omega
          go_wp2

          go_ret2
          obtain rfl : k = l := by omega
          exact ⟨_, by rw [HS.out.1]; rfl, by rw [HS.out.2]; exact OwnT.mk (bitsF_len _ _) (Nat.le_refl _) HB.out (by omega) (by have := HS2.out; omega) HK.out, hbel⟩
    · have HS := Lib.hid (stOf_far hm)
      have HJ := Lib.hid (show inB m 0 ((2 : Int) ^ l - 1) = false by rw [Bool.eq_false_iff]; intro h; simp [inB] at h; omega)
      clear hm
      go_enter Tryd.func17, Tryd.ntmps17
      go_wp2_with fail
      refine (within_any _ _ _ _).mono ?_
      rintro e w' ⟨rfl, rfl⟩
      rw [HI.out]
      go_wp2_with fail
      refine (within_any _ _ _ _).mono ?_
      rintro e w' ⟨rfl, rfl⟩
      rw [HJ.out]
      go_wp2
      go_ret2
      exact ⟨_, by rw [HS.out.1]; rfl, by rw [HS.out.2]; exact OwnT.nil, Below.refl _ _⟩
  · have HS := Lib.hid (stOf_out (m := m) hl)
    have HI := Lib.hid (show inB l 0 10 = false by rw [Bool.eq_false_iff]; intro h; simp [inB] at h; omega)
    clear hl
    go_enter Tryd.func17, Tryd.ntmps17
    go_wp2_with fail
    refine (within_any _ _ _ _).mono ?_
    rintro e w' ⟨rfl, rfl⟩
    rw [HI.out]
    go_wp2
    go_ret2
    exact ⟨_, by rw [HS.out.1]; rfl, by rw [HS.out.2]; exact OwnT.nil, Below.refl _ _⟩

theorem boolInfo' : (Tryd.prog.info? 4).map (fun i => (i.zero, i.size, i.bytes)) = some (some (.bool false), 1, 1) := by kernel_rfl
theorem specStateOf_any (m l : Int) (w : World) :
    Calls Tryd.prog 20 #[.int .i64 m, .int .i64 l] w fun e w' => ∃ v, e = .returned (.tuple #[v, .bool (stOfB m l)]) ∧ OwnT w' w.heap.size v (stOfF m l) ∧ Below w.heap.size w w' := by
  obtain ⟨i0, hi, hz0, hz1, hz2⟩ := info_parts boolInfo'
  have HI0 := Lib.hid hi
  clear hi
  by_cases hl : 0 ≤ l ∧ l ≤ 10
  · obtain ⟨l, rfl⟩ := Int.eq_ofNat_of_zero_le hl.1
    have hl10 : l ≤ 10 := by omega
    have hp := pow_bd hl10
    have hp1 := hp.1
    have hp2 := hp.2
    have hmin : min l 64 = l := by omega
    have HI := Lib.hid (show inB (l : Int) 0 10 = true by simp [inB]; omega)
    clear hl hp
    by_cases hm : 0 ≤ m ∧ m < 2 ^ l
    · obtain ⟨m, rfl⟩ := Int.eq_ofNat_of_zero_le hm.1
      have HJ := Lib.hid (show inB (m : Int) 0 ((2 : Int) ^ l - 1) = true by simp [inB]; omega)
      have HS := Lib.hid (stOf_in hl10 hm.2)
      have hm2 : (m : Int) ≤ 1024 := by omega
      clear hm
      go_enter Tryd.func20, Tryd.ntmps20
      go_wp2_with fail
      refine (l1In_any _ _ _ _).mono ?_
      rintro e w' ⟨rfl, rfl⟩
      rw [HI.out]
      go_wp2_with fail
      refine (l1In_any _ _ _ _).mono ?_
      rintro e w' ⟨rfl, rfl⟩
      rw [HJ.out]
      go_wp2
      go_loopw [0, 6, 7] (fun s v i wr => ∃ k : Nat, k ≤ l ∧ i = .int .i64 k ∧ s = .int .i64 ((m / 2 ^ k : Nat) : Int) ∧ Below w.heap.size w wr ∧ wr.ownsRow w.heap.size 4 1 v k ((bitsF m k).map Value.bool)) (fun _ _ i _ => l - (intOf i).toNat)
      case atStart =>
        refine ⟨0, by omega, rfl, by simp, below_bx _ _, ?_⟩
        exact World.ownsRow_lit (base := w.heap.size) (size := 1) (e := 4) w #[] 0 (by omega) (by decide) rfl
      case round =>
        obtain ⟨k, hk, rfl, rfl, hbel, hown⟩ := hrel
        have HO := Lib.hid hown
        clear hown
        by_cases hlt : k < l
        · have hq : m / 2 ^ k ≤ m := Nat.div_le_self _ _
          have hb := bit_at m k
          have HQ := Lib.hid (bitsF_succ m k)
          have HD := Lib.hid (show m / 2 ^ (k + 1) = m / 2 ^ k / 2 by rw [Nat.pow_succ, Nat.div_div_eq_div_mul])
          generalize m / 2 ^ k = q at *
          generalize decide (q % 2 = 1) = bt at *
          have hz : w.heap.size ≤ wr.heap.size := hbel.size
          have hq0 : (0 : Int) ≤ (q : Int) := by omega
          have hq1 : (q : Int) ≤ 1024 := by omega
          go_wp2_with (
            at_builtin
            refine wpList_append_own _ rfl _ _ _ rfl w.heap.size 4 i0 (.bool false) 1 1 Tryd.underlying26 HI0.out hz0 hz1 hz2 rfl (by decide) _ _ _ rfl (World.ownsRow.alloc HO.out _) ⟨wr.heap.size, 0, none⟩ 1 1 [.bool bt] rfl rfl ?c1 ?c2 ?c3 ?c4 ?c5 ?_
            case c1 => exact cell_one_new _ _ _
            case c2 => intro u hu; simp at hu; subst hu; rfl
            case c3 => simp only [maxLen]; omega
            case c4 => omega
            case c5 => simp; omega
            intro v' w3 hown' hgrow _
            have hb3 : Below w.heap.size w w3 := (hbel.alloc hbel.size _).grown hgrow (by have := hbel.size; simp; omega) (fun q hq => (World.ownsRow.lt HO.out q hq).1))
          go_roundw
          case rel => exact ⟨k + 1, by omega, by go_num, by rw [HD.out]; go_num, hb3, by rw [HQ.out, List.map_append]; exact hown'⟩
          case measure => simp [intOf]; omega
        · go_wp2
          go_ret2
          obtain rfl : k = l := by omega
          exact ⟨_, by rw [HS.out.1]; rfl, by rw [HS.out.2]; exact OwnT.of_own HO.out, hbel⟩
    · have HS := Lib.hid (stOf_far hm)
      have HJ := Lib.hid (show inB m 0 ((2 : Int) ^ l - 1) = false by rw [Bool.eq_false_iff]; intro h; simp [inB] at h; omega)
      clear hm
      go_enter Tryd.func20, Tryd.ntmps20
      go_wp2_with fail
      refine (l1In_any _ _ _ _).mono ?_
      rintro e w' ⟨rfl, rfl⟩
      rw [HI.out]
      go_wp2_with fail
      refine (l1In_any _ _ _ _).mono ?_
      rintro e w' ⟨rfl, rfl⟩
      rw [HJ.out]
      go_wp2
      go_ret2
      exact ⟨_, by rw [HS.out.1]; rfl, by rw [HS.out.2]; exact .inl ⟨_, _, rfl, rfl⟩, below_bx _ _⟩
  · have HS := Lib.hid (stOf_out (m := m) hl)
    have HI := Lib.hid (show inB l 0 10 = false by rw [Bool.eq_false_iff]; intro h; simp [inB] at h; omega)
    clear hl
    go_enter Tryd.func20, Tryd.ntmps20
    go_wp2_with fail
    refine (l1In_any _ _ _ _).mono ?_
    rintro e w' ⟨rfl, rfl⟩
    rw [HI.out]
    go_wp2
    go_ret2
    exact ⟨_, by rw [HS.out.1]; rfl, by rw [HS.out.2]; exact .inl ⟨_, _, rfl, rfl⟩, below_bx _ _⟩
end Go.Proofs.YtcgbigbbonlgfaaDoor
