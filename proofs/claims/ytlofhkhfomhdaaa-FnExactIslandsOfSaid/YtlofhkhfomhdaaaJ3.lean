/- Slices of slices of numbers in the exact laws: comparison, marks. -/
import Derived.Test.YtlofhkhfomhdaaaJ0
import Derived.Test.YtlofhkhfomhdaaaA11
namespace Go.Proofs.Ytlofhkhfomhdaaa
open Go.ChangeShapes Go.WideShapes Go.ChangeAt Go.RowKit

/-- How many numbers the first k rows have together. -/
def tot (xss : List (List Int)) (k : Nat) : Nat := ((xss.take k).map List.length).sum
theorem tot_succ {xss : List (List Int)} {k : Nat} {zs : List Int} (h : xss[k]? = some zs) : tot xss (k + 1) = tot xss k + zs.length := by
  rw [tot, List.take_add_one, h]; simp [tot]
theorem tot_le (xss : List (List Int)) (k : Nat) : tot xss k ≤ tot xss xss.length := by
  rcases Nat.lt_or_ge k xss.length with h | h
  · have e : xss = xss.take k ++ xss.drop k := (List.take_append_drop k xss).symm
    have h2 : tot xss xss.length = tot xss k + ((xss.drop k).map List.length).sum := by
      unfold tot
      rw [List.take_length]
      conv => lhs; rw [e]
      rw [List.map_append, List.sum_append]
    omega
  · unfold tot
    rw [List.take_of_length_le h, List.take_length]
    exact Nat.le_refl _
theorem len_le_tot {xss : List (List Int)} {k : Nat} {zs : List Int} (h : xss[k]? = some zs) : zs.length ≤ tot xss xss.length := by
  have h1 := tot_succ h
  have h2 := tot_le xss (k + 1)
  omega
/-- The rows of which the first k are numbered on from k0. -/
def mixSS (k0 : Int) (xss : List (List Int)) (k : Nat) : List (List Int) := (List.range xss.length).map fun j => if j < k then fromI (k0 + tot xss j) (xss.getD j []).length else xss.getD j []
theorem mixSS_len (k0 : Int) (xss : List (List Int)) (k : Nat) : (mixSS k0 xss k).length = xss.length := by simp [mixSS]
theorem mixSS_get {k0 : Int} {xss : List (List Int)} {k j : Nat} {zs : List Int} (h : xss[j]? = some zs) : (mixSS k0 xss k)[j]? = some (if j < k then fromI (k0 + tot xss j) zs.length else zs) := by
  have hl : j < xss.length := (List.getElem?_eq_some_iff.1 h).1
  have e : xss.getD j [] = zs := by rw [List.getD_eq_getElem?_getD, h]; rfl
  rw [mixSS, List.getElem?_map, List.getElem?_range hl, Option.map_some, e]
theorem ext_rows {α : Type} {a b : List α} (hl : a.length = b.length) (h : ∀ j, j < a.length → a[j]? = b[j]?) : a = b := by
  apply List.ext_getElem?
  intro j
  rcases Nat.lt_or_ge j a.length with h1 | h1
  · exact h j h1
  · rw [List.getElem?_eq_none h1, List.getElem?_eq_none (by omega)]
theorem mixSS_zero (k0 : Int) (xss : List (List Int)) : mixSS k0 xss 0 = xss := by
  apply ext_rows (mixSS_len _ _ _)
  intro j hj
  rw [mixSS_len] at hj
  have h : xss[j]? = some xss[j] := List.getElem?_eq_getElem hj
  rw [mixSS_get h, h]; simp
theorem mixSS_set {k0 : Int} {xss : List (List Int)} {k : Nat} {zs : List Int} (h : xss[k]? = some zs) : (mixSS k0 xss k).set k (fromI (k0 + tot xss k) zs.length) = mixSS k0 xss (k + 1) := by
  have hk : k < xss.length := (List.getElem?_eq_some_iff.1 h).1
  apply ext_rows (by rw [List.length_set, mixSS_len, mixSS_len])
  intro j hj
  rw [List.length_set, mixSS_len] at hj
  have hj' : xss[j]? = some xss[j] := List.getElem?_eq_getElem hj
  by_cases e : k = j
  · subst e
    rw [List.getElem?_set_self (by rw [mixSS_len]; exact hk), mixSS_get h, if_pos (by omega)]
  · rw [List.getElem?_set_ne e, mixSS_get hj', mixSS_get hj']
    congr 1
    by_cases hjk : j < k
    · rw [if_pos hjk, if_pos (by omega)]
    · rw [if_neg hjk, if_neg (by omega)]

theorem eqIntS_q (v v' : Value) (xs : List Int) (w : World) (hn : xs.length ≤ 1048576) (hr : RowI w v xs) (hr' : RowI w v' xs) :
    Calls Try.prog 16 #[v, v'] w fun e w' => e = .returned (.bool true) ∧ ∃ m, w' = w.drewN m := by
  obtain ⟨A, c, rfl, HA⟩ := hr
  obtain ⟨A', c', rfl, HA'⟩ := hr'
  generalize hn' : xs.length = n at *
  have HL := Lib.hid hn'
  have HC := Lib.hid HA
  have HC' := Lib.hid HA'
  clear HA HA' hn'
  go_enter Try.func16, Try.ntmps16
  go_wp2
  go_loopw [5] (fun i wr => ∃ k m : Nat, k ≤ n ∧ i = .int .i64 k ∧ wr = w.drewN m) (fun i _ => n - (intOf i).toNat)
  case atStart => exact ⟨0, 0, by omega, rfl, rfl⟩
  case round =>
    obtain ⟨k, m, hk, rfl, rfl⟩ := hrel
    by_cases hlt : k < n
    · obtain ⟨g, rfl, hb, HD⟩ := HC.out (by omega)
      obtain ⟨g', rfl, hb', HD'⟩ := HC'.out (by omega)
      have hkl : xs[k]? = some (xs[k]'(by have := HL.out; omega)) := List.getElem?_eq_getElem _
      generalize (xs[k]'(by have := HL.out; omega)) = x at hkl
      have g0 : w.cell? ⟨g, k, none⟩ = some (.int .i64 x) := by have := HD k x hkl; rwa [Nat.zero_add] at this
      have g0' : w.cell? ⟨g', k, none⟩ = some (.int .i64 x) := by have := HD' k x hkl; rwa [Nat.zero_add] at this
      clear hkl HD HD'
      have i0 : (0 : Int) ≤ (k : Int) := by omega
      have i1 : (k : Int) < (n : Int) := by omega
      go_wp2
      go_quiet (fail)
      rename_i nq
      go_wp2
      go_roundw
      case rel => exact ⟨k + 1, m + nq, by omega, by go_num, rfl⟩
      case measure => simp [intOf]; omega
    · go_wp2
      go_ret
      exact ⟨rfl, m, rfl⟩

theorem eqIntSS_own {v v' : Value} {xss : List (List Int)} {w : World} {b b' : Nat} (hn : tot xss xss.length ≤ 1048576) (hl : xss.length ≤ 1048576) (h : OwnSS w b v xss) (h' : OwnSS w b' v' xss) :
    Calls Try.prog 27 #[v, v'] w fun e w' => e = .returned (.bool true) ∧ Below w.heap.size w w' := by
  have HX := Lib.hid h
  have HY := Lib.hid h'
  obtain ⟨A, c, rfl⟩ := h.form
  obtain ⟨A', c', rfl⟩ := h'.form
  clear h h'
  go_enter Try.func27, Try.ntmps27
  go_wp2
  go_loopw [5] (fun i wr => ∃ k m : Nat, k ≤ xss.length ∧ i = .int .i64 k ∧ wr = w.drewN m) (fun i _ => xss.length - (intOf i).toNat)
  case atStart => exact ⟨0, 0, by omega, rfl, rfl⟩
  case round =>
    obtain ⟨k, m, hk, rfl, hw⟩ := hrel
    have HW := Lib.hid hw
    clear hw
    by_cases hlt : k < xss.length
    · obtain ⟨g, cap, u, zs, hA, _, _, hz, g0, hu, _⟩ := (show OwnSS wr b _ xss by rw [HW.out]; exact HX.out.drewN m).at_ hlt
      obtain ⟨g', cap', u', zs', hA', _, _, hz', g0', hu', _⟩ := (show OwnSS wr b' _ xss by rw [HW.out]; exact HY.out.drewN m).at_ hlt
      rw [hz] at hz'
      injection hz' with hz'
      subst hz'
      injection hA with hA hA1 hA2
      injection hA' with hA' hA1' hA2'
      subst hA hA'
      have HU := Lib.hid (hu.row)
      have HU' := Lib.hid (hu'.row)
      have HLZ := Lib.hid (Nat.le_trans (len_le_tot hz) hn)
      have hs := hu.sl
      have hs' := hu'.sl
      obtain ⟨Au, cu, rfl, _⟩ := hs
      obtain ⟨Au', cu', rfl, _⟩ := hs'
      clear hz hu hu' hA1 hA1' hA2 hA2'
      have i0 : (0 : Int) ≤ (k : Int) := by omega
      have i1 : (k : Int) < (xss.length : Int) := by omega
      go_wp2
      go_quiet ((go_at_call 16; exact Calls.quiet_of (eqIntS_q _ _ zs _ HLZ.out HU.out HU'.out)))
      rename_i nq
      go_wp2
      go_roundw
      case rel => exact ⟨k + 1, m + nq, by omega, by go_num, by rw [HW.out, World.drewN_drewN]⟩
      case measure => simp [intOf]; omega
    · go_wp2
      go_ret
      exact ⟨rfl, by rw [HW.out]; exact below_drewN (Below.refl _ _) m⟩

theorem markIntSS_own {v : Value} {xss : List (List Int)} {w : World} {base : Nat} (hn : tot xss xss.length ≤ 1048576) (hl : xss.length ≤ 1048576) (h : OwnSS w base v xss) (hbase : base ≤ w.heap.size) :
    Calls Try.prog 28 #[v, .int .i64 1] w fun e w' => e = .returned (.int .i64 (1 + tot xss xss.length)) ∧ OwnSS w' base v (mixSS 1 xss xss.length) ∧ Below base w w' := by
  have HX := Lib.hid h
  obtain ⟨A, c, rfl⟩ := h.form
  clear h
  go_enter Try.func28, Try.ntmps28
  go_wp2
  go_loopw [5, 1] (fun i j wr => ∃ k : Nat, k ≤ xss.length ∧ i = .int .i64 k ∧ j = .int .i64 (1 + tot xss k) ∧ OwnSS wr base (.slice A xss.length c) (mixSS 1 xss k) ∧ Below base w wr) (fun i _ _ => xss.length - (intOf i).toNat)
  case atStart => exact ⟨0, by omega, rfl, by simp [tot], by rw [mixSS_zero]; exact HX.out, Below.refl _ _⟩
  case round =>
    obtain ⟨k, hk, rfl, rfl, hown, hbel⟩ := hrel
    by_cases hlt : k < xss.length
    · obtain ⟨zs, hz⟩ : ∃ zs, xss[k]? = some zs := ⟨_, List.getElem?_eq_getElem hlt⟩
      obtain ⟨g, cap, u, zs2, hA, hbg, _, hz2, g0, hu, hput⟩ := hown.at_ (k := k) (by rw [mixSS_len]; exact hlt)
      rw [mixSS_get hz, if_neg (by omega)] at hz2
      injection hz2 with hz2
      subst hz2
      injection hA with hA hA1 hA2
      subst hA
      have HP := Lib.hid hput
      have HU := Lib.hid hu
      have hlz := Nat.le_trans (len_le_tot hz) hn
      have hts := tot_succ hz
      have htl := tot_le xss k
      have HM := Lib.hid (mixSS_set (k0 := 1) hz)
      have HTS := Lib.hid hts
      have hlow : ∀ q, u.ownBlock = some q → base ≤ q := fun q hq => (OwnI.lt hu q hq).1
      have HLOW := Lib.hid hlow
      have hzw := hbel.size
      clear hput hown hz hu hA1 hA2 hts hlow
      have i0 : (0 : Int) ≤ (k : Int) := by omega
      have i1 : (k : Int) < (xss.length : Int) := by omega
      go_wp2_with fail
      refine (markIntS_gen u zs base (1 + tot xss k) (by omega) (by omega) _ hlz HU.out).mono ?_
      rintro e w2 ⟨rfl, hO, hg⟩
      have S2 := Lib.hid (HP.out w2 _ hg hO)
      have hb2 := hbel.grown hg (by omega) (fun q hq => HLOW.out q hq)
      clear hO
      go_wp2
      go_roundw
      case rel => exact ⟨k + 1, by omega, by go_num, by rw [HTS.out]; go_num, by rw [← HM.out]; exact S2.out, hb2⟩
      case measure => simp [intOf]; omega
    · go_wp2
      go_ret
      obtain rfl : k = xss.length := by omega
      exact ⟨rfl, hown, hbel⟩

theorem heldIntSS_own {v : Value} {xss : List (List Int)} {w : World} {base : Nat} (hn : tot xss xss.length ≤ 1048576) (hl : xss.length ≤ 1048576) (h : OwnSS w base v (mixSS 1 xss xss.length)) :
    Calls Try.prog 29 #[v, .int .i64 1] w fun e w' => e = .returned (.int .i64 (1 + tot xss xss.length)) ∧ w = w' := by
  have HX := Lib.hid h
  obtain ⟨A, c, rfl⟩ := h.form
  rw [mixSS_len] at *
  clear h
  go_enter Try.func29, Try.ntmps29
  go_wp2
  go_loop [5, 1] (fun i j => ∃ k : Nat, k ≤ xss.length ∧ i = .int .i64 k ∧ j = .int .i64 (1 + tot xss k)) (fun i _ => xss.length - (intOf i).toNat)
  case atStart => exact ⟨0, by omega, rfl, by simp [tot]⟩
  case round =>
    obtain ⟨k, hk, rfl, rfl⟩ := hrel
    by_cases hlt : k < xss.length
    · obtain ⟨zs, hz⟩ : ∃ zs, xss[k]? = some zs := ⟨_, List.getElem?_eq_getElem hlt⟩
      obtain ⟨g, cap, u, zs2, hA, hbg, _, hz2, g0, hu, _⟩ := HX.out.at_ (k := k) (by rw [mixSS_len]; exact hlt)
      rw [mixSS_get hz, if_pos hlt] at hz2
      injection hz2 with hz2
      subst hz2
      injection hA with hA hA1 hA2
      subst hA
      have HU := Lib.hid hu
      have hlz := Nat.le_trans (len_le_tot hz) hn
      have htl := tot_le xss k
      have HTS := Lib.hid (tot_succ hz)
      clear hz hu hA1 hA2
      have i0 : (0 : Int) ≤ (k : Int) := by omega
      have i1 : (k : Int) < (xss.length : Int) := by omega
      have hpos : ¬ ((1 : Int) + (tot xss k : Int) + (zs.length : Int) < 0) := by omega
      go_wp2_with fail
      refine (heldIntS_gen u zs.length base (1 + tot xss k) (by omega) (by omega) _ hlz HU.out).mono ?_
      rintro e w' ⟨rfl, rfl⟩
      go_wp2
      go_round
      case rel => exact ⟨k + 1, by omega, by go_num, by rw [HTS.out]; go_num⟩
      case measure => simp [intOf]; omega
    · go_wp2
      go_ret
      obtain rfl : k = xss.length := by omega
      exact ⟨rfl, rfl⟩
end Go.Proofs.Ytlofhkhfomhdaaa
