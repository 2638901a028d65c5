/- Texts joined: Comparisons of the exact laws, at equal values: they answer true; Marks and marks held, of slices of ints and of lines; equal slices of ints; Conversions, comparisons and marks of the exact laws at slices of truths, and of numbers that come in; Slices of numbers in the exact laws: conversion, marks from any number on; Changes, of the program and of the model; Copies of states, and SwitchLine, of the program and of the model. -/
import Derived.Test.YtpmkeagdoehbhaaDoorBCA
import Derived.Deep.RegionWith
import Derived.OwnWalk
import Derived.Deep.QuietTactic
import Derived.BigQuiet
import Derived.Test.YtpmkeagdoehbhaaDoorBPA
import Derived.Laws.MakeOwn
import Derived.Maps.AppendAt
import Derived.Outline
import Derived.Laws.CopyOwn

/- Comparisons of the exact laws, at equal values: they answer true. -/
namespace Go.Proofs.YtpmkeagdoehbhaaDoor
open Go.ChangeShapes Go.WideShapes Go.ChangeAt Go.RowKit

end Go.Proofs.YtpmkeagdoehbhaaDoor

/- Marks and marks held, of slices of ints and of lines; equal slices of ints. -/
namespace Go.Proofs.YtpmkeagdoehbhaaDoor
open Go.ChangeShapes Go.WideShapes Go.ChangeAt Go.RowKit

/-- A slice of ints that is read: nil and empty, or a row at a block's head. -/
def RowI (w : World) (v : Value) (xs : List Int) : Prop :=
  ∃ A c, v = .slice A xs.length c ∧ (0 < xs.length → ∃ g, A = some ⟨g, 0, none⟩ ∧ g < w.heap.size ∧ ∀ k x, xs[k]? = some x → w.cell? ⟨g, 0 + k, none⟩ = some (.int .i64 x))
theorem OwnI.row {e : TypeId} {w : World} {base : Nat} {v : Value} {xs : List Int} (h : OwnI e w base v xs) : RowI w v xs := by
  rcases h.2 with ⟨rfl, h0⟩ | ⟨g, cap, cur, rfl, hb, hg, hn, hc, hsz, ht⟩
  · exact ⟨none, 0, by rw [h0], fun hp => absurd hp (by omega)⟩
  · refine ⟨some ⟨g, 0, none⟩, cap, rfl, fun _ => ⟨g, rfl, (Array.getElem?_eq_some_iff.1 hg).1, fun k x hk => ?_⟩⟩
    have hlt : k < xs.length := (List.getElem?_eq_some_iff.1 hk).1
    rw [cell_of_row w g _ cur e (0, 0) hg, Nat.zero_add, ← Array.getElem?_toList]
    have : (cur.toList.take (xs.length * 1))[k]? = some (.int .i64 x) := by rw [ht, List.getElem?_map, hk]; rfl
    rwa [List.getElem?_take_of_lt (by omega)] at this

theorem take_put (cu : Array Value) (k : Nat) (u : Value) (h : k < cu.size) : (cu.setIfInBounds k u).toList.take (k + 1) = cu.toList.take k ++ [u] := by
  have hl : k < cu.toList.length := by simpa using h
  rw [Array.toList_setIfInBounds, List.take_add_one, List.take_set_of_le (Nat.le_refl _), List.getElem?_set_self hl]; rfl

/-- The numbers from k on. -/
def fromI (k : Int) (n : Nat) : List Int := (List.range n).map fun j => k + Int.ofNat j
theorem fromI_succ (k : Int) (n : Nat) : fromI k (n + 1) = fromI k n ++ [k + (n : Int)] := by rw [fromI, List.range_succ, List.map_append]; rfl
theorem fromI_get {k : Int} {n j : Nat} (h : j < n) : (fromI k n)[j]? = some (k + (j : Int)) := by rw [fromI, List.getElem?_map, List.getElem?_range h]; rfl
theorem fromI_len (k : Int) (n : Nat) : (fromI k n).length = n := by simp [fromI]

end Go.Proofs.YtpmkeagdoehbhaaDoor

/- Conversions, comparisons and marks of the exact laws at slices of truths, and of numbers that come in. -/
namespace Go.Proofs.YtpmkeagdoehbhaaDoor
open Go.ChangeShapes Go.WideShapes Go.ChangeAt Go.RowKit

theorem take_set1 (cu : Array Value) (k : Nat) (u : Value) (h : k < cu.size) : (cu.setIfInBounds k u).toList.take (k + 1) = cu.toList.take k ++ [u] := by
  have hl : k < cu.toList.length := by simpa using h
  rw [Array.toList_setIfInBounds, List.take_add_one, List.take_set_of_le (Nat.le_refl _), List.getElem?_set_self hl]; rfl



/-- What marks write. -/
def marksT (k0 : Int) (n : Nat) : List Bool := (List.range n).map fun (j : Nat) => ((k0 + (j : Int)) % 3 == 0)
theorem marksT_len (k0 : Int) (n : Nat) : (marksT k0 n).length = n := by simp [marksT]
theorem marksT_succ (k0 : Int) (n : Nat) : marksT k0 (n + 1) = marksT k0 n ++ [((k0 + (n : Int)) % 3 == 0)] := by rw [marksT, List.range_succ, List.map_append]; rfl
theorem marksT_get {k0 : Int} {n j : Nat} (h : j < n) : (marksT k0 n)[j]? = some ((k0 + (j : Int)) % 3 == 0) := by rw [marksT, List.getElem?_map, List.getElem?_range h]; rfl
end Go.Proofs.YtpmkeagdoehbhaaDoor

/- Slices of numbers in the exact laws: conversion, marks from any number on; Changes, of the program and of the model. -/
namespace Go.Proofs.YtpmkeagdoehbhaaDoor
open Go.ChangeShapes Go.WideShapes Go.ChangeAt Go.RowKit

theorem intInfo6 : (Tryd.prog.info? 3).map (fun i => (i.zero, i.size, i.bytes)) = some (some (.int .i64 0), 1, 8) := by kernel_rfl
theorem OwnI.mk_ {w : World} {base g n cap : Nat} {cur : Array Value} {zs : List Int} (hn : zs.length = n) (hb : base ≤ g) (hg : IsBlk w g 3 cur) (hc : n ≤ cap) (hm : cap ≤ maxLen) (hs : cur.size = cap) (ht : cur.toList.take n = zs.map (Value.int .i64)) : OwnI 3 w base (.slice (some ⟨g, 0, none⟩) n cap) zs := by
  subst hn
  exact ⟨by simp, .inr ⟨g, cap, cur, rfl, hb, hg, hc, hm, by omega, by rw [Nat.mul_one]; exact ht⟩⟩


end Go.Proofs.YtpmkeagdoehbhaaDoor

/- Copies of states, and SwitchLine, of the program and of the model. -/
namespace Go.Proofs.YtpmkeagdoehbhaaDoor
open Go.ChangeShapes Go.WideShapes Go.ChangeAt Go.RowKit

def swB (bs : Int) (ls : List L3) (ts : List Bool) (line : Int) : Bool := stOk bs ls ts.length && decide (0 ≤ line) && decide (line < (ts.length : Int))
def swF (bs : Int) (ls : List L3) (ts : List Bool) (line : Int) (to : Bool) : List Bool :=
  if stOk bs ls ts.length = true then (if 0 ≤ line ∧ line < (ts.length : Int) then ts.set line.toNat to else ts) else []
theorem stOk_len {bs : Int} {ls : List L3} {m : Nat} (h : stOk bs ls m = true) : m = ls.length ∧ m ≤ 10 := by
  simp only [stOk, Bool.and_eq_true, decide_eq_true_eq] at h
  exact ⟨h.2, by have := (netOk_len h.1).2.2; omega⟩
theorem swF_len (bs : Int) (ls : List L3) (ts : List Bool) (line : Int) (to : Bool) : (swF bs ls ts line to).length ≤ 10 := by
  rw [swF]; split
  · rename_i h
    have := (stOk_len h).2
    split <;> simp <;> omega
  · simp
theorem bool_one (ts : List Bool) : ∀ u ∈ ts.map Value.bool, u.oneCell' = true := by
  intro u hu
  obtain ⟨t, _, rfl⟩ := List.mem_map.1 hu
  rfl
theorem add_none (b off j : Nat) : (⟨b, off, none⟩ : Addr).add j = ⟨b, off + j, none⟩ := by unfold Addr.add; split <;> simp_all
theorem src_cells {w : World} {ad : Addr} {n : Nat} {ts : List Bool} (h : RowT w (some ad) n ts) : ∀ j u, (ts.map Value.bool)[j]? = some u → w.cell? (ad.add j) = some u := by
  intro j u hj
  have hn : 0 < n := by have := (List.getElem?_eq_some_iff.1 hj).1; have := h.1; omega
  obtain ⟨b, off, e, _, hc⟩ := h.2 hn
  injection e with e
  rw [e, add_none]; exact hc j u hj
theorem splice_take (cur cs : List Value) : ((splice cur 0 cs).toArray).toList.take cs.length = cs := by simp [splice]
theorem splice_size (cur cs : List Value) (h : cs.length ≤ cur.length) : ((splice cur 0 cs).toArray).size = cur.length := by simp [splice]; omega
theorem boolInfo5 : (Tryd.prog.info? 4).map (fun i => (i.zero, i.size, i.bytes)) = some (some (.bool false), 1, 1) := by kernel_rfl
theorem boolSize : (Tryd.prog.info? 4).map (·.size) = some 1 := by kernel_rfl

theorem l2Copy_any (A : Option Addr) (n c : Nat) (ts : List Bool) (w : World) (hn : n ≤ 1048576) (hr : RowT w A n ts) :
    Calls Tryd.prog 93 #[.slice A n c] w fun e w' => ∃ v, e = .returned v ∧ OwnT w' w.heap.size v ts ∧ Below w.heap.size w w' := by
  obtain ⟨i0, hi, hz0, hz1, hz2⟩ := info_parts boolInfo5
  have HI0 := Lib.hid hi
  have HL := hr.1
  have hown0 := World.ownsRow_lit (base := w.heap.size) (size := 1) (e := 4) w #[] 0 (by omega) (by decide) rfl
  have HO0 := Lib.hid hown0
  clear hi hown0
  rcases A with _ | ad
  · have hn0 : n = 0 := by
      rcases Nat.eq_zero_or_pos n with h0 | h0
      · exact h0
      · obtain ⟨_, _, h, _⟩ := hr.2 h0; cases h
    subst hn0
    have hts : ts = [] := List.eq_nil_of_length_eq_zero (by simpa using HL)
    subst hts
    clear hr HL
    go_enter Tryd.func93, Tryd.ntmps93
    go_wp2
    go_ret
    exact ⟨_, rfl, .inl ⟨_, _, rfl, rfl⟩, below_bx _ _⟩
  · have HC := Lib.hid (src_cells (hr.below (below_bx w (.cells #[] 4))))
    have HL1 := Lib.hid (show (ts.map Value.bool).length = n * 1 by rw [HL, Nat.mul_one])
    clear hr HL
    go_enter Tryd.func93, Tryd.ntmps93
    go_wp2_with (
      at_builtin
      refine wpList_append_own _ rfl _ _ _ rfl w.heap.size 4 i0 (.bool false) 1 1 Tryd.underlying26 HI0.out hz0 hz1 hz2 rfl (by decide) _ _ _ rfl HO0.out ad n c (ts.map Value.bool) rfl HL1.out ?c1 ?c2 ?c3 ?c4 ?c5 ?_
      case c1 => exact HC.out
      case c2 => exact bool_one ts
      case c3 => simp only [maxLen]; omega
      case c4 => omega
      case c5 => simp
      intro v' w3 hown' hgrow _
      have hb3 : Below w.heap.size w w3 := (below_bx w _).grown hgrow (by simp) (fun q hq => (World.ownsRow.lt HO0.out q hq).1))
    go_ret
    exact ⟨_, rfl, OwnT.of_own (by simpa using hown'), hb3⟩

theorem OwnT.put_ {w : World} {base : Nat} {v : Value} {ts : List Bool} {k : Nat} {t : Bool} (h : OwnT w base v ts) (hk : k < ts.length) :
    ∃ g cap, v = .slice (some ⟨g, 0, none⟩) ts.length cap ∧ base ≤ g ∧ g < w.heap.size ∧ ts.length ≤ cap ∧ (∃ u, w.cell? ⟨g, k, none⟩ = some u) ∧ w.frozen? ⟨g, k, none⟩ = false ∧ Hid (OwnT (w.setCell ⟨g, k, none⟩ (.bool t)) base v (ts.set k t)) := by
  rcases h with ⟨A, c, _, h⟩ | ⟨h0, g, cap, te, cur, h1, h2, h3, h4, h5, h6⟩
  · subst h; simp at hk
  · refine ⟨g, cap, h1, h2, h3.lt, h4, ⟨cur[k]'(by omega), (h3.cell k).trans (Array.getElem?_eq_getElem (by omega))⟩, h3.thaw k, ?_⟩
    rw [h1]
    have hl : (ts.set k t).length = ts.length := by simp
    refine Lib.hid (OwnT.mk (cur := cur.setIfInBounds k (.bool t)) hl h2 (h3.put k _) h4 (by simpa using h5) ?_)
    rw [Array.toList_setIfInBounds, List.take_set, h6, List.map_set]

theorem specSwitchLine_any (bs : Int) (A : Option Addr) (n c : Nat) (ls : List L3) (B : Option Addr) (m d : Nat) (ts : List Bool) (line : Int) (to : Bool) (w : World) (hn : n ≤ 1048576) (hr : RowL w A n ls) (hm : m ≤ 1048576) (hrt : RowT w B m ts) :
    Calls Tryd.prog 87 #[.agg #[.int .i64 bs, .slice A n c], .slice B m d, .int .i64 line, .bool to] w fun e w' => ∃ v, e = .returned (.tuple #[v, .bool (swB bs ls ts line)]) ∧ OwnT w' w.heap.size v (swF bs ls ts line to) ∧ Below w.heap.size w w' := by
  have HR := Lib.hid hr
  have HT := Lib.hid hrt
  have HL := Lib.hid hrt.len
  clear hr hrt
  by_cases hs : stOk bs ls m = true
  · have HS := Lib.hid hs
    have hm10 := (stOk_len hs).2
    clear hs
    by_cases hin : 0 ≤ line ∧ line < m
    · obtain ⟨k, rfl⟩ := Int.eq_ofNat_of_zero_le hin.1
      have hk : k < m := by omega
      have HF := Lib.hid (show swF bs ls ts k to = ts.set k to by rw [swF, HL.out, if_pos HS.out, if_pos (by omega)]; rfl)
      have HB := Lib.hid (show swB bs ls ts k = true by rw [swB, HL.out, HS.out]; simp; omega)
      have HI := Lib.hid (show inB (k : Int) 0 ((m : Int) - 1) = true by simp [inB]; omega)
      clear hin
      go_enter Tryd.func87, Tryd.ntmps87
      go_wp2_with fail
      refine (specStateValid_any bs A n c ls B m d _ hn (HR.out.below (below_bx w _)) (by omega)).mono ?_
      rintro e w1 ⟨rfl, hb1⟩
      rw [HS.out]
      have a1 : Below w.heap.size w w1 := (below_bx w _).trans (hb1.mono (by simp))
      go_wp2_with fail
      refine (l2Copy_any B m d ts _ hm (HT.out.below a1)).mono ?_
      rintro e w2 ⟨v, rfl, hO, hb2⟩
      have a2 : Below w.heap.size w w2 := a1.trans (hb2.mono a1.size)
      obtain ⟨g, cap, rfl, hg, hgs, hc, ⟨u, c0⟩, f0, hP⟩ := OwnT.put_ (t := to) (hO.more a1.size) (show k < ts.length by rw [HL.out]; exact hk)
      have hkL : k < ts.length := by rw [HL.out]; exact hk
      clear hO
      go_wp2_with fail
      refine (l1In_any _ _ _ _).mono ?_
      rintro e w' ⟨rfl, rfl⟩
      rw [HI.out]
      go_wp2
      go_ret2
      refine ⟨_, by rw [HB.out]; rfl, by rw [HF.out]; exact hP.out, a2.setCell hg _⟩
    · have HF := Lib.hid (show swF bs ls ts line to = ts by rw [swF, HL.out, if_pos HS.out, if_neg hin])
      have HB := Lib.hid (show swB bs ls ts line = false by rw [Bool.eq_false_iff]; intro h; simp only [swB, HL.out, Bool.and_eq_true, decide_eq_true_eq] at h; exact hin ⟨h.1.2, h.2⟩)
      have HI := Lib.hid (show inB line 0 ((m : Int) - 1) = false by rw [Bool.eq_false_iff]; intro h; simp [inB] at h; omega)
      clear hin
      go_enter Tryd.func87, Tryd.ntmps87
      go_wp2_with fail
      refine (specStateValid_any bs A n c ls B m d _ hn (HR.out.below (below_bx w _)) (by omega)).mono ?_
      rintro e w1 ⟨rfl, hb1⟩
      rw [HS.out]
      have a1 : Below w.heap.size w w1 := (below_bx w _).trans (hb1.mono (by simp))
      go_wp2_with fail
      refine (l2Copy_any B m d ts _ hm (HT.out.below a1)).mono ?_
      rintro e w2 ⟨v, rfl, hO, hb2⟩
      have a2 : Below w.heap.size w w2 := a1.trans (hb2.mono a1.size)
      have HO := Lib.hid (hO.more a1.size)
      clear hO
      go_wp2_with fail
      refine (l1In_any _ _ _ _).mono ?_
      rintro e w' ⟨rfl, rfl⟩
      rw [HI.out]
      go_wp2
      go_ret2
      exact ⟨_, by rw [HB.out]; rfl, by rw [HF.out]; exact HO.out, a2⟩
  · rw [Bool.not_eq_true] at hs
    have HS := Lib.hid hs
    have HF := Lib.hid (show swF bs ls ts line to = [] by rw [swF, HL.out, if_neg (by rw [hs]; simp)])
    have HB := Lib.hid (show swB bs ls ts line = false by rw [swB, HL.out, hs]; rfl)
    clear hs
    go_enter Tryd.func87, Tryd.ntmps87
    go_wp2_with fail
    refine (specStateValid_any bs A n c ls B m d _ hn (HR.out.below (below_bx w _)) (by omega)).mono ?_
    rintro e w1 ⟨rfl, hb1⟩
    rw [HS.out]
    have a1 : Below w.heap.size w w1 := (below_bx w _).trans (hb1.mono (by simp))
    go_wp2
    go_ret2
    exact ⟨_, by rw [HB.out]; rfl, by rw [HF.out]; exact .inl ⟨_, _, rfl, rfl⟩, a1.alloc a1.size _⟩

theorem switchLine_any (bs : Int) (A : Option Addr) (n c : Nat) (ls : List L3) (B : Option Addr) (m d : Nat) (ts : List Bool) (line : Int) (to : Bool) (w : World) (hn : n ≤ 1048576) (hr : RowL w A n ls) (hm : m ≤ 1048576) (hrt : RowT w B m ts) :
    Calls Tryd.prog 40 #[.agg #[.int .i64 bs, .slice A n c], .slice B m d, .int .i64 line, .bool to] w fun e w' => ∃ v, e = .returned (.tuple #[v, .bool (swB bs ls ts line)]) ∧ OwnT w' w.heap.size v (swF bs ls ts line to) ∧ Below w.heap.size w w' := by
  have HR := Lib.hid hr
  have HT := Lib.hid hrt
  have HL := Lib.hid hrt.len
  clear hr hrt
  by_cases hs : stOk bs ls m = true
  · have HS := Lib.hid hs
    have hm10 := (stOk_len hs).2
    clear hs
    go_enter Tryd.func40, Tryd.ntmps40
    go_wp2_with fail
    refine (stateValid_any bs A n c ls B m d _ hn (HR.out.below (below_bx w _)) (by omega)).mono ?_
    rintro e w1 ⟨rfl, hb1⟩
    rw [HS.out]
    have a1 : Below w.heap.size w w1 := (below_bx w _).trans (hb1.mono (by simp))
    have hb2 : Below w.heap.size w (w1.alloc (.cells #[.bool false, .bool false, .bool false, .bool false, .bool false, .bool false, .bool false, .bool false, .bool false, .bool false] 92)) := a1.alloc a1.size _
    have HT2 := Lib.hid (HT.out.below hb2)
    have HA1 := Lib.hid a1.size
    have HB2 := Lib.hid hb2
    have HK1 := Lib.hid (show (w1.alloc (.cells #[.bool false, .bool false, .bool false, .bool false, .bool false, .bool false, .bool false, .bool false, .bool false, .bool false] 92)).heap[w1.heap.size]? = some (.cells ([.bool false, .bool false, .bool false, .bool false, .bool false, .bool false, .bool false, .bool false, .bool false, .bool false] : List Value).toArray 92 (0, 0)) from IsBlk.new w1 92 #[.bool false, .bool false, .bool false, .bool false, .bool false, .bool false, .bool false, .bool false, .bool false, .bool false])
    have HLm := Lib.hid (show (ts.map Value.bool).length = m by rw [List.length_map]; exact HL.out)
    clear hb2
    go_wp2_with (
      with_reducible refine wpList_copy_splice rfl (.tmp 16) (.tmp 17) 26 26 rfl 4 Tryd.underlying26 boolSize (some ⟨w1.heap.size, 0, none⟩) B 10 10 m d rfl rfl w1.heap.size 0 [.bool false, .bool false, .bool false, .bool false, .bool false, .bool false, .bool false, .bool false, .bool false, .bool false] 92 HK1.out (ts.map Value.bool) ?c1 ?c2 ?c3 (bool_one ts) w.heap.size w HB2.out HA1.out ?_
      case c1 => rw [HLm.out]; exact (Nat.min_eq_left hm10).symm
      case c2 =>
        intro hp
        rw [HLm.out] at hp
        obtain ⟨b, off, e, _, _⟩ := HT2.out.2 hp
        exact ⟨rfl, _, e, src_cells (e ▸ HT2.out)⟩
      case c3 => rw [HLm.out]; simpa using hm10
      intro w2 HC2 a2)
    have hkk : ∃ arr : Array Value, IsBlk w2 w1.heap.size 92 arr ∧ arr.size = 10 ∧ arr.toList.take m = ts.map Value.bool :=
      ⟨_, HC2.out, splice_size _ _ (by rw [HLm.out]; simpa using hm10), by have := splice_take [.bool false, .bool false, .bool false, .bool false, .bool false, .bool false, .bool false, .bool false, .bool false, .bool false] (ts.map Value.bool); rw [HLm.out] at this; exact this⟩
    obtain ⟨arr, hk2, hsz, htk⟩ := hkk
    clear HC2
    have hw1 : w.heap.size ≤ w1.heap.size := HA1.out
    have hm11 : (m : Int) ≤ 10 := by omega
    by_cases hin : 0 ≤ line ∧ line < m
    · obtain ⟨k, rfl⟩ := Int.eq_ofNat_of_zero_le hin.1
      have hk : k < m := by omega
      have HF := Lib.hid (show swF bs ls ts k to = ts.set k to by rw [swF, HL.out, if_pos HS.out, if_pos (by omega)]; rfl)
      have HB := Lib.hid (show swB bs ls ts k = true by rw [swB, HL.out, HS.out]; simp; omega)
      have HI := Lib.hid (show inB (k : Int) 0 ((m : Int) - 1) = true by simp [inB]; omega)
      have c0 : w2.cell? ⟨w1.heap.size, k, none⟩ = some (arr[k]'(by omega)) := (hk2.cell k).trans (Array.getElem?_eq_getElem (by omega))
      have f0 : w2.frozen? ⟨w1.heap.size, k, none⟩ = false := hk2.thaw k
      generalize (arr[k]'(by omega)) = u at c0
      have hk10 : (k : Int) < 10 := by omega
      have HK2 := Lib.hid hk2
      have HSZ := Lib.hid hsz
      have HTK := Lib.hid htk
      clear hin hk2 hsz htk
      refine (within_any _ _ _ _).mono ?_
      rintro e w' ⟨rfl, rfl⟩
      rw [HI.out]
      go_wp2
      go_ret2
      refine ⟨_, by rw [HB.out]; rfl, ?_, a2.setCell hw1 _⟩
      rw [HF.out]
      refine OwnT.mk (cur := arr.setIfInBounds k (.bool to)) (by simpa using HL.out) hw1 (HK2.out.put k _) (by omega) (by simp [HSZ.out]; omega) ?_
      rw [Array.toList_setIfInBounds, List.take_set, HTK.out, List.map_set]
    · have HF := Lib.hid (show swF bs ls ts line to = ts by rw [swF, HL.out, if_pos HS.out, if_neg hin])
      have HB := Lib.hid (show swB bs ls ts line = false by rw [Bool.eq_false_iff]; intro h; simp only [swB, HL.out, Bool.and_eq_true, decide_eq_true_eq] at h; exact hin ⟨h.1.2, h.2⟩)
      have HI := Lib.hid (show inB line 0 ((m : Int) - 1) = false by rw [Bool.eq_false_iff]; intro h; simp [inB] at h; omega)
      have HK2 := Lib.hid hk2
      have HSZ := Lib.hid hsz
      have HTK := Lib.hid htk
      clear hin hk2 hsz htk
      refine (within_any _ _ _ _).mono ?_
      rintro e w' ⟨rfl, rfl⟩
      rw [HI.out]
      go_wp2
      go_ret2
      refine ⟨_, by rw [HB.out]; rfl, ?_, a2⟩
      rw [HF.out]
      exact OwnT.mk HL.out hw1 HK2.out (by omega) (by rw [HSZ.out]; omega) HTK.out
  · rw [Bool.not_eq_true] at hs
    have HS := Lib.hid hs
    have HF := Lib.hid (show swF bs ls ts line to = [] by rw [swF, HL.out, if_neg (by rw [hs]; simp)])
    have HB := Lib.hid (show swB bs ls ts line = false by rw [swB, HL.out, hs]; rfl)
    clear hs
    go_enter Tryd.func40, Tryd.ntmps40
    go_wp2_with fail
    refine (stateValid_any bs A n c ls B m d _ hn (HR.out.below (below_bx w _)) (by omega)).mono ?_
    rintro e w1 ⟨rfl, hb1⟩
    rw [HS.out]
    have a1 : Below w.heap.size w w1 := (below_bx w _).trans (hb1.mono (by simp))
    go_wp2
    go_ret2
    exact ⟨_, by rw [HB.out]; rfl, by rw [HF.out]; exact OwnT.nil, a1⟩
end Go.Proofs.YtpmkeagdoehbhaaDoor
