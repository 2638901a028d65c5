/- FnReadNet: the drawing of a text. -/
import Derived.Test.YtciciidndjkdiaaDoorR13
import Derived.Deep.RegionWith
namespace Go.Proofs.YtciciidndjkdiaaDoor
open Go.ChangeShapes Go.WideShapes Go.ChangeAt Go.RowKit

theorem dec_last (n : Nat) : ∃ D d, Lib.decDigits n = D ++ [d] ∧ 48 ≤ d.toNat := by
  by_cases h : n < 10
  · exact ⟨[], UInt8.ofNat (48 + n), by rw [Lib.decDigits, dif_pos h]; rfl, by rw [digit_nat h]; omega⟩
  · exact ⟨Lib.decDigits (n / 10), UInt8.ofNat (48 + n % 10), by rw [Lib.decDigits, dif_neg h], by rw [digit_nat (Nat.mod_lt _ (by decide))]; omega⟩
theorem listOf_last (bs : Int) (ls : List L3) : ∃ D d, listOf bs ls = D ++ [d] ∧ 48 ≤ d.toNat := by
  rcases List.eq_nil_or_concat ls with rfl | ⟨init, l, rfl⟩
  · obtain ⟨D, d, h, hd⟩ := dec_last bs.toNat
    exact ⟨D, d, by rw [listOf, h]; simp, hd⟩
  · obtain ⟨D, d, h, hd⟩ := dec_last l.2.2.toNat
    refine ⟨listOf bs init ++ 32 :: (Lib.decDigits l.1.toNat ++ 45 :: (Lib.decDigits l.2.1.toNat ++ 58 :: D)), d, ?_, hd⟩
    rw [listOf, List.concat_eq_append, List.flatMap_append, List.flatMap_singleton, wordOf, h, listOf]
    simp
theorem readF_space (s : ByteArray) : readF (s ++ ⟨#[32]⟩) = none := by
  rcases h : readF (s ++ ⟨#[32]⟩) with _ | c
  · first | exact h | rfl
  · obtain ⟨h1, h2⟩ := readF_some h
    have h3 := textF_list h1
    obtain ⟨D, d, h4, hd⟩ := listOf_last c.1 c.2
    rw [h2, h4] at h3
    have h5 : s.data.toList ++ [32] = D ++ [d] := by simpa using h3
    have h6 := List.append_inj_right' h5 rfl
    injection h6 with h6
    subst h6
    simp at hd

/-- Some text that is not too long. -/
def StrEnd (w : World) (e : Ending) (w' : World) : Prop := ∃ s : ByteArray, e = .returned (.string s) ∧ s.size ≤ 100000 ∧ Below w.heap.size w w'
theorem str5 {w : World} {g : Nat} {t : TypeId} {a b c d e : ByteArray} (h : IsBlk w g t #[.string a, .string b, .string c, .string d, .string e]) (ha : a.size ≤ 8) (hb : b.size ≤ 8) (hc : c.size ≤ 8) (hd : d.size ≤ 8) (he : e.size ≤ 8) {j : Int} (h0 : 0 ≤ j) (h1 : j < 5) :
    ∃ u, w.cell? ⟨g, j.toNat, none⟩ = some (.string u) ∧ u.size ≤ 8 := by
  rcases (show j = 0 ∨ j = 1 ∨ j = 2 ∨ j = 3 ∨ j = 4 by omega) with rfl | rfl | rfl | rfl | rfl
  · exact ⟨a, h.cell 0, ha⟩
  · exact ⟨b, h.cell 1, hb⟩
  · exact ⟨c, h.cell 2, hc⟩
  · exact ⟨d, h.cell 3, hd⟩
  · exact ⟨e, h.cell 4, he⟩
theorem str4 {w : World} {g : Nat} {t : TypeId} {a b c d : ByteArray} (h : IsBlk w g t #[.string a, .string b, .string c, .string d]) (ha : a.size ≤ 8) (hb : b.size ≤ 8) (hc : c.size ≤ 8) (hd : d.size ≤ 8) {j : Int} (h0 : 0 ≤ j) (h1 : j < 4) :
    ∃ u, w.cell? ⟨g, j.toNat, none⟩ = some (.string u) ∧ u.size ≤ 8 := by
  rcases (show j = 0 ∨ j = 1 ∨ j = 2 ∨ j = 3 by omega) with rfl | rfl | rfl | rfl
  · exact ⟨a, h.cell 0, ha⟩
  · exact ⟨b, h.cell 1, hb⟩
  · exact ⟨c, h.cell 2, hc⟩
  · exact ⟨d, h.cell 3, hd⟩

set_option maxRecDepth 100000 in
set_option maxHeartbeats 4000000 in
theorem drawReadNet_any (A : Option Addr) (n c : Nat) (code : List Int) (w : World) (hr : RowB w A n code) (hnc : n ≤ c) (hc : c ≤ 9223372036854775807) :
    Calls Tryd.prog 14 #[.slice A n c] w (StrEnd w) := by
  go_enter Tryd.func14, Tryd.ntmps14
  go_wp2_with fail
  refine (open_any A n c code _ hr hnc hc).mono ?_
  rintro e w1 ⟨rfl, hb1, hr1, hs1⟩
  have HS1 := Lib.hid hs1
  clear hs1
  go_wp2_with fail
  refine (net_full w.heap.size 0 0 (by decide) (by decide) _ (by rw [HS1.out]; omega) hr1).mono ?_
  rintro e w2 ⟨bs, v, ls, rfl, ho, hl, hb0, hb9, hr2, hg2, hok⟩
  have HV := Lib.hid (hok (by omega))
  clear hok
  have a2 := hb1.grown hg2 hb1.size (fun q hq => by injection hq with hq; omega)
  obtain ⟨A', c', rfl, hrow⟩ := ho.row
  clear ho
  go_wp2_with fail
  refine (specNetText_any bs A' ls.length c' ls _ (by omega) hrow).mono ?_
  rintro e w3 ⟨rfl, hb3⟩
  have a3 : Below w.heap.size w w3 := a2.trans (hb3.mono a2.size)
  have R3 := Lib.hid (hr2.keep hb3)
  have hz1 : (textF bs ls).size ≤ 10400 := by
    have h2 := textTo_size HV.out ls.length
    have h3 := (netOk_len HV.out).2.2
    rw [textF, if_pos HV.out]; omega
  have hz0 : 0 < (textF bs ls).size := by
    have h1 := textF_list HV.out
    have h2 : (listOf bs ls).length = (textF bs ls).size := by rw [← h1, sized]
    rw [← h2, listOf, List.length_append, Lib.decDigits_length]
    have := Lib.nDigits_pos bs.toNat
    omega
  clear hrow hr1 hr2 hg2 hb1 hb3
  generalize textF bs ls = t at *
  go_wp2_with fail
  refine (pick_any w.heap.size 4 _ (by omega) (by omega) _ R3.out).mono ?_
  rintro e w4 ⟨va, rfl, ha0, ha1, _, hr4, hg4⟩
  have a4 := a3.grown hg4 a3.size (fun q hq => by injection hq with hq; omega)
  have R4 := Lib.hid hr4
  clear hr4 hg4
  rcases (show va = 0 ∨ va = 1 ∨ (¬ va = 0 ∧ ¬ va = 1 ∧ (va == 0) = false ∧ (va == 1) = false) by simp only [beq_eq_false_iff_ne]; omega) with rfl | rfl | ⟨h1, h2, h3, h4⟩
  · go_wp2_with fail
    refine (pick_any w.heap.size 5 _ (by omega) (by omega) _ (R4.out.alloc _)).mono ?_
    rintro e w5 ⟨j, rfl, hj0, hj1', _, hr5, hg5⟩
    have hj1 : j < 5 := hj1' (by omega)
    have hRlt : w.heap.size < w4.heap.size := R4.out.lt
    have hB : IsBlk w5 w4.heap.size 9 #[.string ⟨#[32]⟩, .string ⟨#[32, 48, 45, 49, 58, 55]⟩, .string ⟨#[32, 48, 45, 49, 58, 48, 55]⟩, .string ⟨#[32, 49, 45, 48]⟩, .string ⟨#[45]⟩] := (hg5.block _ (by simp) (by simp; omega)).trans (IsBlk.new w4 9 _)
    obtain ⟨u, hu, hus⟩ := str5 hB (by decide) (by decide) (by decide) (by decide) (by decide) hj0 hj1
    have a5 : Below w.heap.size w w5 := (a4.alloc a4.size _).grown hg5 (by simp; omega) (fun q hq => by injection hq with hq; omega)
    have hsum : ¬ 9223372036854775807 < t.size + u.size := by omega
    clear hB hr5 hg5 hj1'
    go_wp2
    go_ret
    exact ⟨t ++ u, rfl, by rw [ByteArray.size_append]; omega, a5⟩
  · go_wp2_with fail
    refine (pick_any w.heap.size (t.size : Int) _ (by omega) (by omega) _ R4.out).mono ?_
    rintro e w5 ⟨k, rfl, hk0, hk1', _, hr5, hg5⟩
    have hk1 : k < (t.size : Int) := hk1' (by omega)
    have a5 : Below w.heap.size w w5 := a4.grown hg5 a4.size (fun q hq => by injection hq with hq; omega)
    have hRlt : w.heap.size < w5.heap.size := hr5.lt
    obtain ⟨m, rfl⟩ := Int.eq_ofNat_of_zero_le hk0
    have D5 := Lib.hid (show Rd w5.drew w.heap.size _ from hr5)
    have T5 := Lib.hid (show Rd (w5.alloc (.cells #[.string ⟨#[]⟩, .string ⟨#[48]⟩, .string ⟨#[57]⟩, .string ⟨#[120]⟩] 9)).drew w.heap.size _ from hr5.alloc _)
    clear hr5 hg5 hk1'
    go_wp2_with fail
    have wk : IntKind.i64.wrap ((m : Int) + 1) = (m : Int) + 1 := IntWalk.i64_in _ (by omega)
    have hm1 : (m : Int) ≤ (t.size : Int) := by omega
    have hm2 : (m : Int) + 1 ≤ (t.size : Int) := by omega
    have hm3 : (0 : Int) ≤ (m : Int) + 1 := by omega
    have hm4 : ((m : Int) + 1).toNat = m + 1 := by omega
    have hsum1 : ∀ u : ByteArray, u.size ≤ 8 → ¬ 9223372036854775807 < (t.extract 0 m).size + u.size ∧ ¬ 9223372036854775807 < (t.extract 0 m).size + u.size + (t.extract (m + 1) t.size).size := by
      intro u hu
      rw [ByteArray.size_extract, ByteArray.size_extract]
      omega
    have HSum := Lib.hid hsum1
    have hE : IsBlk (w5.alloc (.cells #[.string ⟨#[]⟩, .string ⟨#[48]⟩, .string ⟨#[57]⟩, .string ⟨#[120]⟩] 9)).drew w5.heap.size 9 #[.string ⟨#[]⟩, .string ⟨#[48]⟩, .string ⟨#[57]⟩, .string ⟨#[120]⟩] := IsBlk.new w5 9 _
    have HB := Lib.hid hE
    have E5 := Lib.hid (show (0 : Int) + 100 + 1 + 1 ≤ 1000000 by omega)
    clear hsum1 hE
    go_region_with (first
      | (go_at_call 33; (with_reducible refine (pick_any w.heap.size 4 _ E5.out (by decide) _ T5.out).mono ?_); rintro e w7 ⟨j, rfl, hj0, hj1', _, hr7, hg7⟩; have hj1 : j < 4 := hj1' (by decide); obtain ⟨u, hu, hus⟩ := str4 ((hg7.block _ (by simp) (by simp; omega)).trans HB.out) (by decide) (by decide) (by decide) (by decide) hj0 hj1; obtain ⟨hq1, hq2⟩ := HSum.out u hus; have hB7 := (a5.alloc a5.size _).drew.grown hg7 (by simp; omega) (fun q hq => by injection hq with hq; omega); have HJ := Lib.hid hus; clear hr7 hg7)
      | (go_at_call 33; (with_reducible refine (pick_any w.heap.size 4 _ E5.out (by decide) _ D5.out).mono ?_); rintro e w7 ⟨j, rfl, hj0, hj1', _, hr7, hg7⟩; have hj1 : j < 4 := hj1' (by decide); obtain ⟨u, hu, hus⟩ := str4 (IsBlk.new w7 9 #[.string ⟨#[]⟩, .string ⟨#[48]⟩, .string ⟨#[57]⟩, .string ⟨#[120]⟩]) (by decide) (by decide) (by decide) (by decide) hj0 hj1; obtain ⟨hq1, hq2⟩ := HSum.out u hus; have hB7 := a5.drew.grown hg7 (by simp; omega) (fun q hq => by injection hq with hq; omega); have HJ := Lib.hid hus; clear hr7 hg7))
    all_goals go_wp2
    all_goals go_ret
    all_goals clear wk hm4
    all_goals
      have hus := HJ.out
      refine ⟨_, rfl, ?_, by first | exact hB7 | exact hB7.alloc hB7.size _⟩
      rw [ByteArray.size_append, ByteArray.size_append, ByteArray.size_extract, ByteArray.size_extract]
      omega
  · go_wp2
    go_ret
    exact ⟨t, rfl, by omega, a4⟩
end Go.Proofs.YtciciidndjkdiaaDoor
