/- Changes of the model; ChangeAll, of the program and of the model. -/
import Derived.Test.YtfedffekbemcoaaDoorBCC
import Derived.BigRegion
import Derived.Lib.SliceRun
import Derived.StillTailTactics
import Derived.Deep.DeepCutAuto
namespace Go.Proofs.YtfedffekbemcoaaDoor
open Go.ChangeShapes Go.WideShapes Go.ChangeAt Go.RowKit

theorem specChanges_any (A : Option Addr) (n c : Nat) (xs : List Bool) (B : Option Addr) (m d : Nat) (ys : List Bool) (w : World) (hn : n ≤ 1048576) (hr : RowT w A n xs) (hm : m ≤ 1048576) (hr' : RowT w B m ys) :
    Calls Tryd.prog 56 #[.slice A n c, .slice B m d] w fun e w' => ∃ v, e = .returned v ∧ OwnI 3 w' w.heap.size v (chF xs ys) ∧ Below w.heap.size w w' := by
  have HX := Lib.hid hr
  have HY := Lib.hid hr'
  have HLX := Lib.hid hr.len
  have HLY := Lib.hid hr'.len
  obtain ⟨i0, hi, hz0, hz1, hz2⟩ := info_parts intInfo6
  have HI := Lib.hid hi
  clear hr hr' hi
  go_enter Tryd.func56, Tryd.ntmps56
  go_wp2
  go_loopw [5, 6] (fun v i wr => ∃ k : Nat, k ≤ n ∧ (k = 0 ∨ n = m) ∧ i = .int .i64 k ∧ OwnI 3 wr w.heap.size v (chTo xs ys k) ∧ Below w.heap.size w wr) (fun _ i _ => n - (intOf i).toNat)
  case atStart =>
    refine ⟨0, by omega, .inl rfl, rfl, ?_, below_bx _ _⟩
    have := World.ownsRow_lit (base := w.heap.size) (size := 1) (e := 3) w #[] 0 (by omega) (by decide) rfl
    simpa [OwnI, chTo] using this
  case round =>
    obtain ⟨k, hk, hkm, rfl, hown, hbel⟩ := hrel
    have HO := Lib.hid hown
    have HKM := Lib.hid hkm
    clear hown hkm
    by_cases hlt : k < n
    · by_cases hnm : n = m
      · subst hnm
        obtain ⟨b, off, x, rfl, hb, hkx, g0⟩ := HX.out.at_ hlt
        obtain ⟨b', off', y, rfl, hb', hky, g0'⟩ := HY.out.at_ hlt
        rw [← hbel.cell (p := ⟨b, off + k, none⟩) hb] at g0
        rw [← hbel.cell (p := ⟨b', off' + k, none⟩) hb'] at g0'
        have i0' : (0 : Int) ≤ (k : Int) := by omega
        have i1 : (k : Int) < (n : Int) := by omega
        have hlen : (chTo xs ys k).length ≤ k := chTo_len xs ys k
        by_cases hxy : x = y
        · subst hxy
          have HC := Lib.hid (chTo_no hkx hky rfl)
          clear hkx hky
          go_wp2
          go_quiet (fail)
          go_wp2
          go_roundw
          case rel => exact ⟨k + 1, by omega, .inr (by simp), by go_num, by rw [HC.out]; exact HO.out.drewN _, below_drewN hbel _⟩
          case measure => simp [intOf]; omega
        · have HC := Lib.hid (chTo_yes hkx hky (by simpa using hxy))
          have hyx : y = !x := by cases x <;> cases y <;> simp_all
          subst hyx
          clear hkx hky hxy
          cases x
          all_goals
            go_wp2
            go_quiet (fail)
            rename_i nq
            go_wp2_with (
              at_builtin
              refine wpList_append_own _ rfl _ _ _ rfl w.heap.size 3 i0 (.int .i64 0) 1 8 Tryd.underlying47 HI.out hz0 hz1 hz2 rfl (by decide) _ _ _ rfl (World.ownsRow.alloc (HO.out.drewN nq) _) ⟨wr.heap.size, 0, none⟩ 1 1 [.int .i64 (k : Int)] rfl rfl ?c1 ?c2 ?c3 ?c4 ?c5 ?_
              case c1 => exact cell_one_new _ _ _
              case c2 => intro u hu; simp at hu; subst hu; rfl
              case c3 => simp only [maxLen]; omega
              case c4 => omega
              case c5 => have := hbel.size; simp; omega
              intro v' w3 hown' hgrow _
              have hb3 : Below w.heap.size w w3 := ((below_drewN hbel nq).alloc hbel.size _).grown hgrow (by have := hbel.size; simp; omega) (fun q hq => (World.ownsRow.lt HO.out q hq).1))
            go_roundw
            case rel => exact ⟨k + 1, by omega, .inr (by simp), by go_num, by rw [HC.out]; simpa [OwnI] using hown', hb3⟩
            case measure => simp [intOf]; omega
      · have HF := Lib.hid (show chF xs ys = [] by rw [chF, if_neg (by rw [HLX.out, HLY.out]; exact hnm)])
        have hne : ((n : Int) == (m : Int)) = false := by simp; omega
        have hk0 : k = 0 := by
          rcases HKM.out with h | h
          · exact h
          · exact absurd h hnm
        subst hk0
        clear hnm
        go_wp2
        go_ret
        exact ⟨_, rfl, by rw [HF.out]; exact HO.out, hbel⟩
    · go_wp2
      go_ret
      obtain rfl : k = n := by omega
      refine ⟨_, rfl, ?_, hbel⟩
      have HFin : chF xs ys = chTo xs ys k := by
        rw [chF, HLX.out, HLY.out]
        rcases HKM.out with h | h
        · subst h; split <;> rfl
        · rw [if_pos h]
      rw [HFin]; exact HO.out

/-- What ChangeAll answers. -/
def caF (ts : List Bool) (ls : List Int) : List Bool := (chAll ts ls).getD []
def caB (ts : List Bool) (ls : List Int) : Bool := (chAll ts ls).isSome
theorem caF_len (ts : List Bool) (ls : List Int) : (caF ts ls).length ≤ ts.length := by
  rw [caF]; rcases h : chAll ts ls with _ | us
  · simp
  · have := chAll_len h; simp; omega

theorem clone_any (A : Option Addr) (n c : Nat) (ts : List Bool) (w : World) (hn : n ≤ 1048576) (hr : RowT w A n ts) :
    Calls Tryd.prog 58 #[.slice A n c] w fun e w' => ∃ v, e = .returned v ∧ OwnT w' w.heap.size v ts ∧ Below w.heap.size w w' := by
  obtain ⟨i0, hi, hz0, hz1, hz2⟩ := info_parts boolInfo5
  have HI0 := Lib.hid hi
  have HL := hr.1
  have HO0 := Lib.hid (World.ownsRow_lit (base := w.heap.size) (size := 1) (e := 4) w #[] 0 (by omega) (by decide) rfl)
  clear hi
  rcases A with _ | ad
  · have hn0 : n = 0 := by
      rcases Nat.eq_zero_or_pos n with h0 | h0
      · exact h0
      · obtain ⟨_, _, h, _⟩ := hr.2 h0; cases h
    subst hn0
    have hts : ts = [] := List.eq_nil_of_length_eq_zero (by simpa using HL)
    subst hts
    have he : ∀ w : World, (binOp .eql 35 (.slice none 0 c) (.slice none 0 0)).run Tryd.prog w = .ok (.bool true) w := fun w => Lib.run_eql_slice_nil w 35 4 none 0 c 0 0 Tryd.underlying35
    clear hr HL
    go_enter Tryd.func58, Tryd.ntmps58
    go_wp2
    go_ret
    exact ⟨_, rfl, OwnT.nil, Below.refl _ _⟩
  · have HC := Lib.hid (src_cells (hr.below (below_bx w (.cells #[] 4))))
    have HL1 := Lib.hid (show (ts.map Value.bool).length = n * 1 by rw [HL, Nat.mul_one])
    have he : ∀ w : World, (binOp .eql 35 (.slice (some ad) n c) (.slice none 0 0)).run Tryd.prog w = .ok (.bool false) w := fun w => Lib.run_eql_slice_nil w 35 4 (some ad) n c 0 0 Tryd.underlying35
    clear hr HL
    go_enter Tryd.func58, Tryd.ntmps58
    go_wp2_with (
      at_builtin
      refine wpList_append_own _ rfl _ _ _ rfl w.heap.size 4 i0 (.bool false) 1 1 Tryd.underlying35 HI0.out hz0 hz1 hz2 rfl (by decide) _ _ _ rfl HO0.out ad n c (ts.map Value.bool) rfl HL1.out ?c1 ?c2 ?c3 ?c4 ?c5 ?_
      case c1 => exact HC.out
      case c2 => exact bool_one ts
      case c3 => simp only [maxLen]; omega
      case c4 => omega
      case c5 => simp
      intro v' w3 hown' hgrow _
      have hb3 : Below w.heap.size w w3 := (below_bx w _).grown hgrow (by simp) (fun q hq => (World.ownsRow.lt HO0.out q hq).1))
    go_ret
    exact ⟨_, rfl, OwnT.of_own (by simpa using hown'), hb3⟩

theorem OwnT.at_ {w : World} {base : Nat} {v : Value} {ts : List Bool} {k : Nat} (h : OwnT w base v ts) (hk : k < ts.length) :
    ∃ g cap, v = .slice (some ⟨g, 0, none⟩) ts.length cap ∧ base ≤ g ∧ g < w.heap.size ∧ w.cell? ⟨g, k, none⟩ = some (.bool (ts.getD k false)) ∧ w.frozen? ⟨g, k, none⟩ = false ∧ ∀ t, OwnT (w.setCell ⟨g, k, none⟩ (.bool t)) base v (ts.set k t) := by
  rcases h with ⟨A, c, _, h⟩ | ⟨h0, g, cap, te, cur, h1, h2, h3, h4, h5, h6⟩
  · subst h; simp at hk
  · refine ⟨g, cap, h1, h2, h3.lt, ?_, h3.thaw k, fun t => ?_⟩
    · rw [h3.cell k, ← Array.getElem?_toList]
      have h7 : (cur.toList.take ts.length)[k]? = some (.bool (ts.getD k false)) := by
        rw [h6, List.getElem?_map, List.getD_eq_getElem?_getD, List.getElem?_eq_getElem hk]; rfl
      rwa [List.getElem?_take_of_lt hk] at h7
    · rw [h1]
      have hl : (ts.set k t).length = ts.length := by simp
      refine OwnT.mk (cur := cur.setIfInBounds k (.bool t)) hl h2 (h3.put k _) h4 (by simpa using h5) ?_
      rw [Array.toList_setIfInBounds, List.take_set, h6, List.map_set]


end Go.Proofs.YtfedffekbemcoaaDoor
