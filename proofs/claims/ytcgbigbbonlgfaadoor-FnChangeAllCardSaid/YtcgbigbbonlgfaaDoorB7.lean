/- Changes of the model; ChangeAll, of the program and of the model. -/
import Derived.Test.YtcgbigbbonlgfaaDoorB5
import Derived.Test.YtcgbigbbonlgfaaDoorB6
import Derived.BigRegion
import Derived.Lib.SliceRun
import Derived.StillTailTactics
import Derived.Deep.DeepCutAuto
namespace Go.Proofs.YtcgbigbbonlgfaaDoor
open Go.ChangeShapes Go.WideShapes Go.ChangeAt Go.RowKit

theorem specChanges_any (A : Option Addr) (n c : Nat) (xs : List Bool) (B : Option Addr) (m d : Nat) (ys : List Bool) (w : World) (hn : n ≤ 1048576) (hr : RowT w A n xs) (hm : m ≤ 1048576) (hr' : RowT w B m ys) :
    Calls Tryd.prog 27 #[.slice A n c, .slice B m d] w fun e w' => ∃ v, e = .returned v ∧ OwnI 3 w' w.heap.size v (chF xs ys) ∧ Below w.heap.size w w' := by
  have HX := Lib.hid hr
  have HY := Lib.hid hr'
  have HLX := Lib.hid hr.len
  have HLY := Lib.hid hr'.len
  obtain ⟨i0, hi, hz0, hz1, hz2⟩ := info_parts intInfo6
  have HI := Lib.hid hi
  clear hr hr' hi
  go_enter Tryd.func27, Tryd.ntmps27
  go_wp2
  go_loopw [5, 6] (fun v i wr => ∃ k : Nat, k ≤ n ∧ (k = 0 ∨ n = m) ∧ i = .int .i64 k ∧ OwnI 3 wr w.heap.size v (chTo xs ys k) ∧ Below w.heap.size w wr) (fun _ i _ => n - (intOf i).toNat)
  case atStart =>
    refine ⟨0, by omega, .inl rfl, rfl, ?_, below_bx _ _⟩
    have := World.ownsRow_lit (base := w.heap.size) (size := 1) (e := 3) w #[] 0 (by omega) (by decide) rfl
    simpa [OwnI, chTo] using this
  case round =>
    obtain ⟨k, hk, hkm, rfl, hown, hbel⟩ := hrel
    have HO := Lib.hid hown
    have HKM := Lib.hid hkm
    clear hown hkm
    by_cases hlt : k < n
    · by_cases hnm : n = m
      · subst hnm
        obtain ⟨b, off, x, rfl, hb, hkx, g0⟩ := HX.out.at_ hlt
        obtain ⟨b', off', y, rfl, hb', hky, g0'⟩ := HY.out.at_ hlt
        rw [← hbel.cell (p := ⟨b, off + k, none⟩) hb] at g0
        rw [← hbel.cell (p := ⟨b', off' + k, none⟩) hb'] at g0'
        have i0' : (0 : Int) ≤ (k : Int) := by omega
        have i1 : (k : Int) < (n : Int) := by omega
        have hlen : (chTo xs ys k).length ≤ k := chTo_len xs ys k
        by_cases hxy : x = y
        · subst hxy
          have HC := Lib.hid (chTo_no hkx hky rfl)
          clear hkx hky
          go_wp2
          go_quiet (fail)
          go_wp2
          go_roundw
          case rel => exact ⟨k + 1, by omega, .inr (by simp), by go_num, by rw [HC.out]; exact HO.out.drewN _, below_drewN hbel _⟩
          case measure => simp [intOf]; omega
        · have HC := Lib.hid (chTo_yes hkx hky (by simpa using hxy))
          have hyx : y = !x := by cases x <;> cases y <;> simp_all
          subst hyx
          clear hkx hky hxy
          cases x
          all_goals
            go_wp2
            go_quiet (fail)
            rename_i nq
            go_wp2_with (
              at_builtin
              refine wpList_append_own _ rfl _ _ _ rfl w.heap.size 3 i0 (.int .i64 0) 1 8 Tryd.underlying43 HI.out hz0 hz1 hz2 rfl (by decide) _ _ _ rfl (World.ownsRow.alloc (HO.out.drewN nq) _) ⟨wr.heap.size, 0, none⟩ 1 1 [.int .i64 (k : Int)] rfl rfl ?c1 ?c2 ?c3 ?c4 ?c5 ?_
              case c1 => exact cell_one_new _ _ _
              case c2 => intro u hu; simp at hu; subst hu; rfl
              case c3 => simp only [maxLen]; omega
              case c4 => omega
              case c5 => have := hbel.size; simp; omega
              intro v' w3 hown' hgrow _
              have hb3 : Below w.heap.size w w3 := ((below_drewN hbel nq).alloc hbel.size _).grown hgrow (by have := hbel.size; simp; omega) (fun q hq => (World.ownsRow.lt HO.out q hq).1))
            go_roundw
            case rel => exact ⟨k + 1, by omega, .inr (by simp), by go_num, by rw [HC.out]; simpa [OwnI] using hown', hb3⟩
            case measure => simp [intOf]; omega
      · have HF := Lib.hid (show chF xs ys = [] by rw [chF, if_neg (by rw [HLX.out, HLY.out]; exact hnm)])
        have hne : ((n : Int) == (m : Int)) = false := by simp; omega
        have hk0 : k = 0 := by
          rcases HKM.out with h | h
          · exact h
          · exact absurd h hnm
        subst hk0
        clear hnm
        go_wp2
        go_ret
        exact ⟨_, rfl, by rw [HF.out]; exact HO.out, hbel⟩
    · go_wp2
      go_ret
      obtain rfl : k = n := by omega
      refine ⟨_, rfl, ?_, hbel⟩
      have HFin : chF xs ys = chTo xs ys k := by
        rw [chF, HLX.out, HLY.out]
        rcases HKM.out with h | h
        · subst h; split <;> rfl
        · rw [if_pos h]
      rw [HFin]; exact HO.out

/-- What ChangeAll answers. -/
def caF (ts : List Bool) (ls : List Int) : List Bool := (chAll ts ls).getD []
def caB (ts : List Bool) (ls : List Int) : Bool := (chAll ts ls).isSome
theorem caF_len (ts : List Bool) (ls : List Int) : (caF ts ls).length ≤ ts.length := by
  rw [caF]; rcases h : chAll ts ls with _ | us
  · simp
  · have := chAll_len h; simp; omega

theorem clone_any (A : Option Addr) (n c : Nat) (ts : List Bool) (w : World) (hn : n ≤ 1048576) (hr : RowT w A n ts) :
    Calls Tryd.prog 44 #[.slice A n c] w fun e w' => ∃ v, e = .returned v ∧ OwnT w' w.heap.size v ts ∧ Below w.heap.size w w' := by
  obtain ⟨i0, hi, hz0, hz1, hz2⟩ := info_parts boolInfo5
  have HI0 := Lib.hid hi
  have HL := hr.1
  have HO0 := Lib.hid (World.ownsRow_lit (base := w.heap.size) (size := 1) (e := 4) w #[] 0 (by omega) (by decide) rfl)
  clear hi
  rcases A with _ | ad
  · have hn0 : n = 0 := by
      rcases Nat.eq_zero_or_pos n with h0 | h0
      · exact h0
      · obtain ⟨_, _, h, _⟩ := hr.2 h0; cases h
    subst hn0
    have hts : ts = [] := List.eq_nil_of_length_eq_zero (by simpa using HL)
    subst hts
    have he : ∀ w : World, (binOp .eql 26 (.slice none 0 c) (.slice none 0 0)).run Tryd.prog w = .ok (.bool true) w := fun w => Lib.run_eql_slice_nil w 26 4 none 0 c 0 0 Tryd.underlying26
    clear hr HL
    go_enter Tryd.func44, Tryd.ntmps44
    go_wp2
    go_ret
    exact ⟨_, rfl, OwnT.nil, Below.refl _ _⟩
  · have HC := Lib.hid (src_cells (hr.below (below_bx w (.cells #[] 4))))
    have HL1 := Lib.hid (show (ts.map Value.bool).length = n * 1 by rw [HL, Nat.mul_one])
    have he : ∀ w : World, (binOp .eql 26 (.slice (some ad) n c) (.slice none 0 0)).run Tryd.prog w = .ok (.bool false) w := fun w => Lib.run_eql_slice_nil w 26 4 (some ad) n c 0 0 Tryd.underlying26
    clear hr HL
    go_enter Tryd.func44, Tryd.ntmps44
    go_wp2_with (
      at_builtin
      refine wpList_append_own _ rfl _ _ _ rfl w.heap.size 4 i0 (.bool false) 1 1 Tryd.underlying26 HI0.out hz0 hz1 hz2 rfl (by decide) _ _ _ rfl HO0.out ad n c (ts.map Value.bool) rfl HL1.out ?c1 ?c2 ?c3 ?c4 ?c5 ?_
      case c1 => exact HC.out
      case c2 => exact bool_one ts
      case c3 => simp only [maxLen]; omega
      case c4 => omega
      case c5 => simp
      intro v' w3 hown' hgrow _
      have hb3 : Below w.heap.size w w3 := (below_bx w _).grown hgrow (by simp) (fun q hq => (World.ownsRow.lt HO0.out q hq).1))
    go_ret
    exact ⟨_, rfl, OwnT.of_own (by simpa using hown'), hb3⟩

theorem OwnT.at_ {w : World} {base : Nat} {v : Value} {ts : List Bool} {k : Nat} (h : OwnT w base v ts) (hk : k < ts.length) :
    ∃ g cap, v = .slice (some ⟨g, 0, none⟩) ts.length cap ∧ base ≤ g ∧ g < w.heap.size ∧ w.cell? ⟨g, k, none⟩ = some (.bool (ts.getD k false)) ∧ w.frozen? ⟨g, k, none⟩ = false ∧ ∀ t, OwnT (w.setCell ⟨g, k, none⟩ (.bool t)) base v (ts.set k t) := by
  rcases h with ⟨A, c, _, h⟩ | ⟨h0, g, cap, te, cur, h1, h2, h3, h4, h5, h6⟩
  · subst h; simp at hk
  · refine ⟨g, cap, h1, h2, h3.lt, ?_, h3.thaw k, fun t => ?_⟩
    · rw [h3.cell k, ← Array.getElem?_toList]
      have h7 : (cur.toList.take ts.length)[k]? = some (.bool (ts.getD k false)) := by
        rw [h6, List.getElem?_map, List.getD_eq_getElem?_getD, List.getElem?_eq_getElem hk]; rfl
      rwa [List.getElem?_take_of_lt hk] at h7
    · rw [h1]
      have hl : (ts.set k t).length = ts.length := by simp
      refine OwnT.mk (cur := cur.setIfInBounds k (.bool t)) hl h2 (h3.put k _) h4 (by simpa using h5) ?_
      rw [Array.toList_setIfInBounds, List.take_set, h6, List.map_set]

theorem changeAll_any (A : Option Addr) (n c : Nat) (ts : List Bool) (B : Option Addr) (m d : Nat) (ls : List Int) (w : World) (hn : n ≤ 1048576) (hr : RowT w A n ts) (hm : m ≤ 1048576) (hr' : RowZ w B m ls) :
    Calls Tryd.prog 28 #[.slice A n c, .slice B m d] w fun e w' => ∃ v, e = .returned (.tuple #[v, .bool (caB ts ls)]) ∧ OwnT w' w.heap.size v (caF ts ls) ∧ Below w.heap.size w w' := by
  have HX := Lib.hid hr
  have HY := Lib.hid hr'
  have HLX := Lib.hid hr.len
  have HLY := Lib.hid hr'.len
  clear hr hr'
  go_enter Tryd.func28, Tryd.ntmps28
  go_wp2_with fail
  refine (clone_any A n c ts _ hn HX.out).mono ?_
  rintro e w1 ⟨v, rfl, hO, hb1⟩
  have HO := Lib.hid hO
  clear hO
  go_wp2_with fail
  go_loopw [13] (fun i wr => ∃ k : Nat, k ≤ m ∧ i = .int .i64 k ∧ Below w.heap.size w wr ∧ ∃ us, chAll ts (ls.take k) = some us ∧ us.length = n ∧ OwnT wr w.heap.size v us) (fun i _ => m - (intOf i).toNat)
  case atStart => exact ⟨0, by omega, rfl, hb1, ts, rfl, HLX.out, HO.out⟩
  case round =>
    obtain ⟨k, hk, rfl, hbel, us, hus, hul, hown⟩ := hrel
    have HU := Lib.hid hus
    have HUL := Lib.hid hul
    have HOW := Lib.hid hown
    clear hus hul hown
    by_cases hlt : k < m
    · obtain ⟨b, off, l, rfl, hb, hkl, g0⟩ := HY.out.at_ hlt
      rw [← hbel.cell (p := ⟨b, off + k, none⟩) hb] at g0
      by_cases hin : 0 ≤ l ∧ l < n
      · obtain ⟨j, rfl⟩ := Int.eq_ofNat_of_zero_le hin.1
        have hj : j < n := by omega
        have HS := Lib.hid (chAll_step hkl HU.out (by rw [HUL.out]; exact hin))
        have HI := Lib.hid (show inB (j : Int) 0 ((n : Int) - 1) = true by simp [inB]; omega)
        obtain ⟨g, cap, rfl, hg, hgs, c0, f0, hP⟩ := HOW.out.at_ (show j < us.length by rw [HUL.out]; exact hj)
        have HP := Lib.hid hP
        have hju : j < us.length := by rw [HUL.out]; exact hj
        have HFl := Lib.hid (show flipAt us (j : Int) = us.set j (!us.getD j false) from rfl)
        generalize us.getD j false = bt at *
        clear hkl hP hin
        go_wp2_with fail
        refine (within_any _ _ _ _).mono ?_
        rintro e w' ⟨rfl, rfl⟩
        rw [HI.out]
        go_wp2
        go_roundw
        case rel => exact ⟨k + 1, by omega, by go_num, hbel.setCell hg _, _, HS.out, by rw [flipAt_len]; exact HUL.out, by rw [HFl.out]; exact HP.out _⟩
        case measure => simp [intOf]; omega
      · have HF := Lib.hid (chAll_stop hkl HU.out (by rw [HUL.out]; exact hin))
        have HI := Lib.hid (show inB l 0 ((n : Int) - 1) = false by rw [Bool.eq_false_iff]; intro h; simp [inB] at h; omega)
        clear hkl hin
        go_wp2_with fail
        refine (within_any _ _ _ _).mono ?_
        rintro e w' ⟨rfl, rfl⟩
        rw [HI.out]
        go_wp2
        go_ret2
        exact ⟨_, by rw [caB, HF.out]; rfl, by rw [caF, HF.out]; exact OwnT.nil, hbel⟩
    · obtain rfl : k = m := by omega
      have HF := Lib.hid (show chAll ts ls = some us by have := HU.out; rwa [← HLY.out, List.take_length] at this)
      go_wp2
      go_ret2
      exact ⟨_, by rw [caB, HF.out]; rfl, by rw [caF, HF.out]; exact HOW.out, hbel⟩

theorem specChangeAll_any (A : Option Addr) (n c : Nat) (ts : List Bool) (B : Option Addr) (m d : Nat) (ls : List Int) (w : World) (hn : n ≤ 1048576) (hr : RowT w A n ts) (hm : m ≤ 1048576) (hr' : RowZ w B m ls) :
    Calls Tryd.prog 31 #[.slice A n c, .slice B m d] w fun e w' => ∃ v, e = .returned (.tuple #[v, .bool (caB ts ls)]) ∧ OwnT w' w.heap.size v (caF ts ls) ∧ Below w.heap.size w w' := by
  have HX := Lib.hid hr
  have HY := Lib.hid hr'
  have HLX := Lib.hid hr.len
  have HLY := Lib.hid hr'.len
  clear hr hr'
  go_enter Tryd.func31, Tryd.ntmps31
  go_wp2_with fail
  refine (l2Copy_any A n c ts _ hn HX.out).mono ?_
  rintro e w1 ⟨v, rfl, hO, hb1⟩
  have HO := Lib.hid hO
  clear hO
  go_wp2_with fail
  go_loopw [7] (fun i wr => ∃ k : Nat, k ≤ m ∧ i = .int .i64 k ∧ Below w.heap.size w wr ∧ ∃ us, chAll ts (ls.take k) = some us ∧ us.length = n ∧ OwnT wr w.heap.size v us) (fun i _ => m - (intOf i).toNat)
  case atStart => exact ⟨0, by omega, rfl, hb1, ts, rfl, HLX.out, HO.out⟩
  case round =>
    obtain ⟨k, hk, rfl, hbel, us, hus, hul, hown⟩ := hrel
    have HU := Lib.hid hus
    have HUL := Lib.hid hul
    have HOW := Lib.hid hown
    clear hus hul hown
    by_cases hlt : k < m
    · obtain ⟨b, off, l, rfl, hb, hkl, g0⟩ := HY.out.at_ hlt
      rw [← hbel.cell (p := ⟨b, off + k, none⟩) hb] at g0
      by_cases hin : 0 ≤ l ∧ l < n
      · obtain ⟨j, rfl⟩ := Int.eq_ofNat_of_zero_le hin.1
        have hj : j < n := by omega
        have HS := Lib.hid (chAll_step hkl HU.out (by rw [HUL.out]; exact hin))
        have HI := Lib.hid (show inB (j : Int) 0 ((n : Int) - 1) = true by simp [inB]; omega)
        obtain ⟨g, cap, rfl, hg, hgs, c0, f0, hP⟩ := HOW.out.at_ (show j < us.length by rw [HUL.out]; exact hj)
        have HP := Lib.hid hP
        have hju : j < us.length := by rw [HUL.out]; exact hj
        have HFl := Lib.hid (show flipAt us (j : Int) = us.set j (!us.getD j false) from rfl)
        generalize us.getD j false = bt at *
        clear hkl hP hin
        go_wp2_with fail
        refine (l1In_any _ _ _ _).mono ?_
        rintro e w' ⟨rfl, rfl⟩
        rw [HI.out]
        go_upto_region 7 with fail
        have k0' : (0 : Int) ≤ (k : Int) := by omega
        have k1' : (k : Int) < (m : Int) := by omega
        have j0' : (0 : Int) ≤ (j : Int) := by omega
        have j1' : (j : Int) < (us.length : Int) := by omega
        go_still_tail 14, (by kernel_rfl)
        change wpList _ _ _ _ _ wr.drew
        have f1 : wr.drew.frozen? ⟨g, j, none⟩ = false := f0
        have c1 : wr.drew.cell? ⟨g, j, none⟩ = some (.bool bt) := c0
        go_wp2
        go_roundw
        case rel => exact ⟨k + 1, by omega, by go_num, by first | exact (hbel.setCell hg _).drew | exact hbel.drew.setCell hg _, _, HS.out, by rw [flipAt_len]; exact HUL.out, by rw [HFl.out]; exact HP.out _⟩
        case measure => simp [intOf]; omega
      · have HF := Lib.hid (chAll_stop hkl HU.out (by rw [HUL.out]; exact hin))
        have HI := Lib.hid (show inB l 0 ((n : Int) - 1) = false by rw [Bool.eq_false_iff]; intro h; simp [inB] at h; omega)
        clear hkl hin
        go_wp2_with fail
        refine (l1In_any _ _ _ _).mono ?_
        rintro e w' ⟨rfl, rfl⟩
        rw [HI.out]
        go_wp2
        go_ret2
        exact ⟨_, by rw [caB, HF.out]; rfl, by rw [caF, HF.out]; exact .inl ⟨_, _, rfl, rfl⟩, hbel.alloc hbel.size _⟩
    · obtain rfl : k = m := by omega
      have HF := Lib.hid (show chAll ts ls = some us by have := HU.out; rwa [← HLY.out, List.take_length] at this)
      go_wp2
      go_ret2
      exact ⟨_, by rw [caB, HF.out]; rfl, by rw [caF, HF.out]; exact HOW.out, hbel⟩
end Go.Proofs.YtcgbigbbonlgfaaDoor
