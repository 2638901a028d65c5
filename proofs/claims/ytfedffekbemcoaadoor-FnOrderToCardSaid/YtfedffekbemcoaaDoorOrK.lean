/- Switching orders: the drawings of an order, of a text; sameSteps. -/
import Derived.Test.YtfedffekbemcoaaDoorOrC
import Derived.Test.YtfedffekbemcoaaDoorOrE
import Derived.Test.YtfedffekbemcoaaDoorSP4
import Derived.Deep.RegionWith
import Derived.BigQuiet
namespace Go.Proofs.YtfedffekbemcoaaDoor
open Go.ChangeShapes Go.WideShapes Go.ChangeAt Go.RowKit

/-- An order that was drawn: a list of the call's own. -/
def DrawnO (w w' : World) (x : Ending) : Prop := ∃ v us, x = .returned v ∧ OwnP w' w.heap.size v us ∧ us.length ≤ 13 ∧ Below w.heap.size w w'
theorem drawOrderValid_any (A : Option Addr) (n c : Nat) (code : List Int) (w : World) (hr : RowB w A n code) (hnc : n ≤ c) (hc : c ≤ 9223372036854775807) :
    Calls Tryd.prog 11 #[.slice A n c] w fun x w' => DrawnO w w' x := by
  go_enter Tryd.func11, Tryd.ntmps11
  go_wp2_with fail
  refine (open_any A n c code _ hr hnc hc).mono ?_
  rintro x w1 ⟨rfl, hb1, hr1, hs1⟩
  go_wp2_with fail
  refine (order_any w.heap.size 2 0 (by decide) (by decide) _ (by omega) hr1).mono ?_
  rintro x w2 ⟨v, us, rfl, hO, hl, _, _, hg2⟩
  go_wp2
  go_ret
  exact ⟨v, us, rfl, hO.more (by omega), hl, hb1.grown hg2 hb1.size (fun k e => by injection e with e; omega)⟩
theorem drawOrderText_any (A : Option Addr) (n c : Nat) (code : List Int) (w : World) (hr : RowB w A n code) (hnc : n ≤ c) (hc : c ≤ 9223372036854775807) :
    Calls Tryd.prog 15 #[.slice A n c] w fun x w' => DrawnO w w' x := by
  go_enter Tryd.func15, Tryd.ntmps15
  go_wp2_with fail
  refine (open_any A n c code _ hr hnc hc).mono ?_
  rintro x w1 ⟨rfl, hb1, hr1, hs1⟩
  go_wp2_with fail
  refine (order_any w.heap.size 5 0 (by decide) (by decide) _ (by omega) hr1).mono ?_
  rintro x w2 ⟨v, us, rfl, hO, hl, _, _, hg2⟩
  go_wp2
  go_ret
  exact ⟨v, us, rfl, hO.more (by omega), hl, hb1.grown hg2 hb1.size (fun k e => by injection e with e; omega)⟩
theorem drawOrderBack_any (A : Option Addr) (n c : Nat) (code : List Int) (w : World) (hr : RowB w A n code) (hnc : n ≤ c) (hc : c ≤ 9223372036854775807) :
    Calls Tryd.prog 32 #[.slice A n c] w fun x w' => DrawnO w w' x := by
  go_enter Tryd.func32, Tryd.ntmps32
  go_wp2_with fail
  refine (open_any A n c code _ hr hnc hc).mono ?_
  rintro x w1 ⟨rfl, hb1, hr1, hs1⟩
  go_wp2_with fail
  refine (order_any w.heap.size 6 0 (by decide) (by decide) _ (by omega) hr1).mono ?_
  rintro x w2 ⟨v, us, rfl, hO, hl, _, _, hg2⟩
  go_wp2
  go_ret
  exact ⟨v, us, rfl, hO.more (by omega), hl, hb1.grown hg2 hb1.size (fun k e => by injection e with e; omega)⟩

/-! Texts -/
def StrEndO (w : World) (e : Ending) (w' : World) : Prop := ∃ s : ByteArray, e = .returned (.string s) ∧ s.size ≤ 100000 ∧ Below w.heap.size w w'
theorem strP5 {w : World} {g : Nat} {t : TypeId} {a b c d e : ByteArray} (h : IsBlk w g t #[.string a, .string b, .string c, .string d, .string e]) (ha : a.size ≤ 8) (hb : b.size ≤ 8) (hc : c.size ≤ 8) (hd : d.size ≤ 8) (he : e.size ≤ 8) {j : Int} (h0 : 0 ≤ j) (h1 : j < 5) :
    ∃ u, w.cell? ⟨g, j.toNat, none⟩ = some (.string u) ∧ u.size ≤ 8 := by
  rcases (show j = 0 ∨ j = 1 ∨ j = 2 ∨ j = 3 ∨ j = 4 by omega) with rfl | rfl | rfl | rfl | rfl
  · exact ⟨a, h.cell 0, ha⟩
  · exact ⟨b, h.cell 1, hb⟩
  · exact ⟨c, h.cell 2, hc⟩
  · exact ⟨d, h.cell 3, hd⟩
  · exact ⟨e, h.cell 4, he⟩
theorem strP3 {w : World} {g : Nat} {t : TypeId} {a b c : ByteArray} (h : IsBlk w g t #[.string a, .string b, .string c]) (ha : a.size ≤ 8) (hb : b.size ≤ 8) (hc : c.size ≤ 8) {j : Int} (h0 : 0 ≤ j) (h1 : j < 3) :
    ∃ u, w.cell? ⟨g, j.toNat, none⟩ = some (.string u) ∧ u.size ≤ 8 := by
  rcases (show j = 0 ∨ j = 1 ∨ j = 2 by omega) with rfl | rfl | rfl
  · exact ⟨a, h.cell 0, ha⟩
  · exact ⟨b, h.cell 1, hb⟩
  · exact ⟨c, h.cell 2, hc⟩
set_option maxRecDepth 100000 in
set_option maxHeartbeats 4000000 in
theorem drawReadOrder_any (A : Option Addr) (n c : Nat) (code : List Int) (w : World) (hr : RowB w A n code) (hnc : n ≤ c) (hc : c ≤ 9223372036854775807) :
    Calls Tryd.prog 20 #[.slice A n c] w (StrEndO w) := by
  go_enter Tryd.func20, Tryd.ntmps20
  go_wp2_with fail
  refine (open_any A n c code _ hr hnc hc).mono ?_
  rintro e w1 ⟨rfl, hb1, hr1, hs1⟩
  have HS1 := Lib.hid hs1
  clear hs1
  go_wp2_with fail
  refine (order_any w.heap.size 0 0 (by decide) (by decide) _ (by rw [HS1.out]; omega) hr1).mono ?_
  rintro e w2 ⟨v, us, rfl, hO, hl, hok, hr2, hg2⟩
  have HV := Lib.hid (hok (by omega))
  have a2 := hb1.grown hg2 hb1.size (fun q hq => by injection hq with hq; omega)
  obtain ⟨A', c', rfl, hrow⟩ := hO.row
  clear hO hok
  go_wp2_with fail
  refine (specOrderText_any A' us.length c' us _ (by omega) hrow).mono ?_
  rintro e w3 ⟨rfl, hb3⟩
  have a3 : Below w.heap.size w w3 := a2.trans (hb3.mono a2.size)
  have R3 := Lib.hid (hr2.keep hb3)
  have hz1 : (textO us).size ≤ 100 := by
    have h2 := listO_size HV.out
    rw [textO_bytes HV.out, bytesO_size]; omega
  have hz0 : 0 < (textO us).size := by
    rw [textO_bytes HV.out, bytesO_size]
    exact List.length_pos_iff.2 (listO_pos us)
  clear hrow hr1 hr2 hg2 hb1 hb3 a2
  generalize textO us = t at *
  go_wp2_with fail
  refine (pick_any w.heap.size 4 _ (by omega) (by omega) _ R3.out).mono ?_
  rintro e w4 ⟨va, rfl, ha0, ha1, _, hr4, hg4⟩
  have a4 := a3.grown hg4 a3.size (fun q hq => by injection hq with hq; omega)
  have R4 := Lib.hid hr4
  clear hr4 hg4
  rcases (show va = 0 ∨ va = 1 ∨ (¬ va = 0 ∧ ¬ va = 1 ∧ (va == 0) = false ∧ (va == 1) = false) by simp only [beq_eq_false_iff_ne]; omega) with rfl | rfl | ⟨h1, h2, h3, h4⟩
  · go_wp2_with fail
    refine (pick_any w.heap.size 5 _ (by omega) (by omega) _ (R4.out.alloc _)).mono ?_
    rintro e w5 ⟨j, rfl, hj0, hj1', _, hr5, hg5⟩
    have hj1 : j < 5 := hj1' (by omega)
    have hRlt : w.heap.size < w4.heap.size := R4.out.lt
    have hB : IsBlk w5 w4.heap.size 9 #[.string ⟨#[59]⟩, .string ⟨#[59, 111, 110, 32, 49]⟩, .string ⟨#[32]⟩, .string ⟨#[59, 111, 102, 102, 32, 49, 48]⟩, .string ⟨#[59, 111, 110, 32, 48, 49]⟩] := (hg5.block _ (by simp) (by simp; omega)).trans (IsBlk.new w4 9 _)
    obtain ⟨u, hu, hus⟩ := strP5 hB (by decide) (by decide) (by decide) (by decide) (by decide) hj0 hj1
    have a5 : Below w.heap.size w w5 := (a4.alloc a4.size _).grown hg5 (by simp; omega) (fun q hq => by injection hq with hq; omega)
    have hsum : ¬ 9223372036854775807 < t.size + u.size := by omega
    clear hB hr5 hg5 hj1'
    go_wp2
    go_ret
    exact ⟨t ++ u, rfl, by rw [ByteArray.size_append]; omega, a5⟩
  · go_wp2_with fail
    refine (pick_any w.heap.size (t.size : Int) _ (by omega) (by omega) _ R4.out).mono ?_
    rintro e w5 ⟨k, rfl, hk0, hk1', _, hr5, hg5⟩
    have hk1 : k < (t.size : Int) := hk1' (by omega)
    have a5 : Below w.heap.size w w5 := a4.grown hg5 a4.size (fun q hq => by injection hq with hq; omega)
    have hRlt : w.heap.size < w5.heap.size := hr5.lt
    obtain ⟨m, rfl⟩ := Int.eq_ofNat_of_zero_le hk0
    have D5 := Lib.hid (show Rd w5.drew w.heap.size _ from hr5)
    have T5 := Lib.hid (show Rd (w5.alloc (.cells #[.string ⟨#[]⟩, .string ⟨#[57]⟩, .string ⟨#[111]⟩] 9)).drew w.heap.size _ from hr5.alloc _)
    clear hr5 hg5 hk1'
    go_wp2_with fail
    have wk : IntKind.i64.wrap ((m : Int) + 1) = (m : Int) + 1 := IntWalk.i64_in _ (by omega)
    have hm1 : (m : Int) ≤ (t.size : Int) := by omega
    have hm2 : (m : Int) + 1 ≤ (t.size : Int) := by omega
    have hm3 : (0 : Int) ≤ (m : Int) + 1 := by omega
    have hm4 : ((m : Int) + 1).toNat = m + 1 := by omega
    have hsum1 : ∀ u : ByteArray, u.size ≤ 8 → ¬ 9223372036854775807 < (t.extract 0 m).size + u.size ∧ ¬ 9223372036854775807 < (t.extract 0 m).size + u.size + (t.extract (m + 1) t.size).size := by
      intro u hu
      rw [ByteArray.size_extract, ByteArray.size_extract]
      omega
    have HSum := Lib.hid hsum1
    have hE : IsBlk (w5.alloc (.cells #[.string ⟨#[]⟩, .string ⟨#[57]⟩, .string ⟨#[111]⟩] 9)).drew w5.heap.size 9 #[.string ⟨#[]⟩, .string ⟨#[57]⟩, .string ⟨#[111]⟩] := IsBlk.new w5 9 _
    have HB := Lib.hid hE
    have E5 := Lib.hid (show (0 : Int) + 50 + 1 + 1 ≤ 1000000 by omega)
    clear hsum1 hE
    go_region_with (first
      | (go_at_call 50; (with_reducible refine (pick_any w.heap.size 3 _ E5.out (by decide) _ T5.out).mono ?_); rintro e w7 ⟨j, rfl, hj0, hj1', _, hr7, hg7⟩; have hj1 : j < 3 := hj1' (by decide); obtain ⟨u, hu, hus⟩ := strP3 ((hg7.block _ (by simp) (by simp; omega)).trans HB.out) (by decide) (by decide) (by decide) hj0 hj1; obtain ⟨hq1, hq2⟩ := HSum.out u hus; have hq3 : ¬ 9223372036854775807 < min m t.size + u.size := (by omega); have hq4 : ¬ 9223372036854775807 < m + u.size := (by omega); have hq5 : ¬ 9223372036854775807 < min m t.size + u.size + (t.size - (m + 1)) := (by omega); have hq6 : ¬ 9223372036854775807 < m + u.size + (t.size - (m + 1)) := (by omega); have hq7 : ¬ 9223372036854775807 < min m t.size + u.size + (min t.size t.size - (m + 1)) := (by omega); have HJ := Lib.hid hus; have hB7 : Below w.heap.size w w7 := ((a5.alloc a5.size _).drew).grown hg7 (by simp; omega) (fun q hq => by injection hq with hq; omega); clear hr7 hg7 hj1' hus)
      | (go_at_call 50; (with_reducible refine (pick_any w.heap.size 3 _ E5.out (by decide) _ D5.out).mono ?_); rintro e w7 ⟨j, rfl, hj0, hj1', _, hr7, hg7⟩; have hj1 : j < 3 := hj1' (by decide); obtain ⟨u, hu, hus⟩ := strP3 (IsBlk.new w7 9 #[.string ⟨#[]⟩, .string ⟨#[57]⟩, .string ⟨#[111]⟩]) (by decide) (by decide) (by decide) hj0 hj1; obtain ⟨hq1, hq2⟩ := HSum.out u hus; have hq3 : ¬ 9223372036854775807 < min m t.size + u.size := (by omega); have hq4 : ¬ 9223372036854775807 < m + u.size := (by omega); have hq5 : ¬ 9223372036854775807 < min m t.size + u.size + (t.size - (m + 1)) := (by omega); have hq6 : ¬ 9223372036854775807 < m + u.size + (t.size - (m + 1)) := (by omega); have hq7 : ¬ 9223372036854775807 < min m t.size + u.size + (min t.size t.size - (m + 1)) := (by omega); have HJ := Lib.hid hus; have hB7 : Below w.heap.size w w7 := (a5.drew).grown hg7 (by simp; omega) (fun q hq => by injection hq with hq; omega); clear hr7 hg7 hj1' hus))
    all_goals go_wp2
    all_goals go_ret
    all_goals clear wk hm4
    all_goals
      have hus := HJ.out
      refine ⟨_, rfl, ?_, by first | exact hB7 | exact hB7.alloc hB7.size _⟩
      rw [ByteArray.size_append, ByteArray.size_append, ByteArray.size_extract, ByteArray.size_extract]
      omega
  · go_wp2
    go_ret
    exact ⟨t, rfl, by omega, a4⟩

theorem sameSteps_same (A A' : Option Addr) (n c c' : Nat) (us : List TP) (w : World) (hn : n ≤ 1048576) (hr : RowP w A n us) (hr' : RowP w A' n us) :
    Calls Tryd.prog 19 #[.slice A n c, .slice A' n c'] w fun e w' => e = .returned (.bool true) ∧ Below w.heap.size w w' := by
  have HR := Lib.hid hr
  have HR' := Lib.hid hr'
  clear hr hr'
  go_enter Tryd.func19, Tryd.ntmps19
  go_wp2
  go_loopw [5] (fun i wr => ∃ k : Nat, k ≤ n ∧ i = .int .i64 k ∧ Below w.heap.size w wr) (fun i _ => n - (intOf i).toNat)
  case atStart => exact ⟨0, by omega, rfl, Below.refl _ _⟩
  case round =>
    obtain ⟨k, hk, rfl, hbel⟩ := hrel
    by_cases hlt : k < n
    · obtain ⟨b, off, u, rfl, hb, hku, g0, g1⟩ := HR.out.at_ hlt
      obtain ⟨b', off', u', rfl, hb', hku', g0', g1'⟩ := HR'.out.at_ hlt
      rw [← hbel.cell (p := ⟨b, off + k * 2, none⟩) hb] at g0
      rw [← hbel.cell (p := ⟨b, off + k * 2 + 1, none⟩) hb] at g1
      rw [← hbel.cell (p := ⟨b', off' + k * 2, none⟩) hb'] at g0'
      rw [← hbel.cell (p := ⟨b', off' + k * 2 + 1, none⟩) hb'] at g1'
      obtain rfl : u' = u := by rw [hku] at hku'; injection hku' with h; exact h.symm
      clear hku hku'
      obtain ⟨x, t⟩ := u'
      simp only at g0 g1 g0' g1'
      have i0 : (0 : Int) ≤ (k : Int) := by omega
      have i1 : (k : Int) < (n : Int) := by omega
      go_wp2
      go_quiet (fail)
      go_wp2
      go_roundw
      case rel => exact ⟨k + 1, by omega, by go_num, below_drewN hbel _⟩
      case measure => simp [intOf]; omega
    · go_wp2
      go_ret
      exact ⟨rfl, hbel⟩
theorem sameSteps_own {v v' : Value} {us : List TP} {w : World} {b b' : Nat} (hn : us.length ≤ 1048576) (h : OwnP w b v us) (h' : OwnP w b' v' us) :
    Calls Tryd.prog 19 #[v, v'] w fun e w' => e = .returned (.bool true) ∧ Below w.heap.size w w' := by
  obtain ⟨A, c, rfl, h1⟩ := h.row
  obtain ⟨A', c', rfl, h2⟩ := h'.row
  exact sameSteps_same A A' _ c c' us w hn h1 h2
end Go.Proofs.YtfedffekbemcoaaDoor
