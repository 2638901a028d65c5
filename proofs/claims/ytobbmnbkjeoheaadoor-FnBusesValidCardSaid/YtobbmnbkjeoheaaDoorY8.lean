/- FnBusesValid: the walk. -/
import Derived.Test.YtobbmnbkjeoheaaDoorD3
import Derived.Test.YtobbmnbkjeoheaaDoorG12
import Derived.Test.YtobbmnbkjeoheaaDoorV2
import Derived.Test.YtobbmnbkjeoheaaDoorY3
namespace Go.Proofs.YtobbmnbkjeoheaaDoor
open Go.ChangeShapes Go.WideShapes Go.ChangeAt Go.RowKit

theorem RowU.drew {w : World} {A : Option Addr} {n : Nat} {us : List TU} (h : RowU w A n us) : RowU w.drew A n us := h
theorem busesOk_more {bs : Int} {ls : List L3} {us : List U2} (h : busesOk bs ls us = true) (u : U2) : busesOk bs ls (us ++ [u]) = false := by
  have := busesOk_len h
  rw [Bool.eq_false_iff]; intro k
  have := busesOk_len k
  simp at this; omega
theorem fU_one (us : List U2) : ∀ u ∈ us.flatMap fU, u.oneCell' = true := by
  intro u hu
  obtain ⟨l, _, h⟩ := List.mem_flatMap.1 hu
  simp [fU] at h
  rcases h with rfl | rfl <;> rfl
theorem busesU_cells {w : World} {A : Option Addr} {n : Nat} {us : List U2} (hr : RowU w A n us) (hn : 0 < n) : ∃ b off, A = some ⟨b, off, none⟩ ∧ b < w.heap.size ∧ ∀ j u, (us.flatMap fU)[j]? = some u → w.cell? ((⟨b, off, none⟩ : Addr).add j) = some u := by
  obtain ⟨b, off, e, hlt, hc⟩ := hr.2 hn
  refine ⟨b, off, e, hlt, fun j u hj => ?_⟩
  have ha : (⟨b, off, none⟩ : Addr).add j = ⟨b, off + j, none⟩ := by unfold Addr.add; split <;> simp_all
  rw [ha]
  have hjl : j < us.length * 2 := by have := (List.getElem?_eq_some_iff.1 hj).1; rwa [flat_len fU_len] at this
  have hk : j / 2 < us.length := by omega
  have hkl : us[j / 2]? = some us[j / 2] := List.getElem?_eq_getElem hk
  generalize us[j / 2] = l at hkl
  have e2 := flat_get (f := fU) fU_len us (j / 2) l (j % 2) hkl (Nat.mod_lt _ (by decide))
  have e3 : j / 2 * 2 + j % 2 = j := by omega
  rw [e3, hj] at e2
  obtain ⟨h0, h1⟩ := hc _ _ hkl
  rcases (show j % 2 = 0 ∨ j % 2 = 1 by omega) with e4 | e4
  · rw [e4] at e2; simp [fU] at e2; rw [e2, show off + j = off + j / 2 * 2 by omega]; exact h0
  · rw [e4] at e2; simp [fU] at e2; rw [e2, show off + j = off + j / 2 * 2 + 1 by omega]; exact h1
theorem srcU {w W : World} {p : Prop} {b off : Nat} {xs : List Value} (h : Below w.heap.size w W ∧ p) (hlt : b < w.heap.size) (hc : ∀ j u, xs[j]? = some u → w.cell? ((⟨b, off, none⟩ : Addr).add j) = some u) : ∀ j u, xs[j]? = some u → W.cell? ((⟨b, off, none⟩ : Addr).add j) = some u := by
  intro j u hj
  have ha : (⟨b, off, none⟩ : Addr).add j = ⟨b, off + j, none⟩ := by unfold Addr.add; split <;> simp_all
  have := hc j u hj
  rw [ha] at this ⊢
  exact (h.1.cell (p := ⟨b, off + j, none⟩) hlt).trans this
theorem own_blkU {w : World} {base g m cap : Nat} {arr : Array Value} {xs : List Value} (h : IsBlk w g 32 arr) (hb : base ≤ g) (hl : xs.length = m * 2) (hc : m ≤ cap) (hm : cap ≤ maxLen) (hs : arr.size = cap * 2) (ht : arr.toList.take (m * 2) = xs) : w.ownsRow base 32 2 (.slice (some ⟨g, 0, none⟩) m cap) m xs :=
  ⟨hl, .inr ⟨g, cap, arr, rfl, hb, h, hc, hm, hs, ht⟩⟩
theorem newsU_blk {w : World} {g : Nat} {t : TypeId} {l : TU} (h : IsBlk w g t (fU l).toArray) : ∀ j u, (fU l)[j]? = some u → w.cell? ((⟨g, 0, none⟩ : Addr).add j) = some u := by
  intro j u hj
  have ha : (⟨g, 0, none⟩ : Addr).add j = ⟨g, j, none⟩ := by unfold Addr.add; split <;> simp_all
  rw [ha, h.cell j, ← hj]; simp
theorem own_rowU {W : World} {base g m c : Nat} {us : List TU} {u : TU} (hown : W.ownsRow base 32 2 (.slice (some ⟨g, 0, none⟩) (m + 1) c) (m + 1) (us.flatMap fU ++ fU u)) (hl : us.length = m) : RowU W (some ⟨g, 0, none⟩) (m + 1) (us ++ [u]) := by
  have h : OwnU W base (.slice (some ⟨g, 0, none⟩) (m + 1) c) (us ++ [u]) := OwnU.snoc (by rw [hl]; exact hown)
  obtain ⟨A, c', e, hr⟩ := h.row
  injection e with e1 e2 e3
  subst e1; rw [List.length_append, List.length_singleton, hl] at hr; exact hr

set_option maxRecDepth 100000 in
set_option maxHeartbeats 2000000 in
theorem busesValid_walk (w : World) (A : Option Addr) (n c : Nat) (code : List Int) (hr : RowB w A n code) (hnc : n ≤ c) (hc : c ≤ 9223372036854775807) :
    Calls Tryd.prog 3 #[.slice A n c] w fun e w' => e = .returned (.bool true) ∧ Below w.heap.size w w' := by
  by_cases hlen : n ≤ 1048576
  · obtain ⟨i0, hi, hz0, hz1, hz2⟩ := info_parts busInfo3
    have HI0 := Lib.hid hi
    clear hi
    go_enter Tryd.func3, Tryd.ntmps3
    go_wp2_with fail
    refine (drawBusesValid_any A n c code _ hr hnc hc).mono ?_
    rintro e w1 ⟨bs, A1, c1, ls, v, us, rfl, hrow, hls, hbs0, hbs9, hO, hus, a1⟩
    have hb0 := below_bx w1 (.cells #[.int .i64 bs, .slice A1 ls.length c1] 25)
    have R1 := Lib.hid (hrow.below hb0)
    have k1 := Lib.hid (IsBlk.new w1 25 #[.int .i64 bs, .slice A1 ls.length c1])
    have b1 : Below w.heap.size w (w1.alloc (.cells #[.int .i64 bs, .slice A1 ls.length c1] 25)) := a1.alloc a1.size _
    obtain ⟨A2, c2, rfl, hrt⟩ := hO.row
    have T1 := Lib.hid (hrt.below hb0)
    clear hrow hr hO hrt hb0
    have h1 : ls.length ≤ 1048576 := by omega
    generalize hm : us.length = m at *
    have HM := Lib.hid hm
    have h2 : m ≤ 1048576 := by omega
    clear hm
    go_wp2_with fail
    refine (busesValid_any bs A1 ls.length c1 ls A2 m c2 us _ h1 R1.out h2 T1.out).mono ?_
    rintro e w2 ⟨rfl, hb2⟩
    have b2 := b1.trans (hb2.mono b1.size)
    have R2 := Lib.hid (R1.out.below hb2)
    have T2 := Lib.hid (T1.out.below hb2)
    have k2 := Lib.hid (k1.out.keep hb2)
    clear R1 k1 T1
    obtain ⟨p0, p1, p2, p3⟩ := k2.out.two
    go_wp2_with fail
    refine (specBusesValid_any bs A1 ls.length c1 ls A2 m c2 us _ h1 R2.out h2 T2.out).mono ?_
    rintro e w3 ⟨rfl, hb3⟩
    have b3 := b2.trans (hb3.mono b2.size)
    have R3 := Lib.hid (R2.out.below hb3)
    have T3 := Lib.hid (T2.out.below hb3)
    have k3 := Lib.hid (k2.out.keep hb3)
    clear R2 k2 T2 p0 p1 p2 p3 b1 b2
    have hX3 : w1.heap.size < w3.heap.size := k3.out.lt
    have HZ := Lib.hid (show busesOk 0 [] [] = false by decide)
    have hrz : ∀ W : World, RowL W none 0 [] := fun W => ⟨rfl, fun h => absurd h (by omega)⟩
    have HRZ := Lib.hid hrz
    clear hrz
    by_cases hs : busesOk bs ls us = true
    · have HV := Lib.hid (busesOk_net hs)
      have HQ := Lib.hid (busesOk_more hs (0, 0))
      have hm1 : 0 < m := by have := busesOk_len hs; have := netOk_len HV.out; have := HM.out; omega
      rw [hs]
      clear hs
      obtain ⟨p0, p1, p2, p3⟩ := k3.out.two
      obtain ⟨b, off, rfl, hbl, hsrc⟩ := busesU_cells T3.out hm1
      have HSRC := Lib.hid hsrc
      have HN := Lib.hid (show (us.flatMap fU).length = m * 2 by rw [flat_len fU_len, HM.out])
      clear hsrc
      go_upto_region 7 with fail
      go_region_held3 (fun w' => Below w3.heap.size w3 w' ∧ w'.cell? ⟨w1.heap.size, 0, none⟩ = some (.int .i64 bs) ∧ w'.cell? ⟨w1.heap.size, 1, none⟩ = some (.slice A1 ls.length c1))
        (first
          | (refine keepS p0 p1 hX3 ?_; repeat (first | with_reducible exact hB9 | with_reducible exact hB8 | with_reducible exact hB7 | with_reducible exact hB34 | with_reducible exact hBz | with_reducible exact Below.refl _ _ | with_reducible refine Below.drew ?_ | (with_reducible refine Below.alloc ?_ (by first | omega | (simp; done) | (simp; omega) | (have := hB34.size; simp at *; omega) | (have := hBz.size; simp at *; omega)) _))))
        (first
          | (rw [if_pos (by rfl)]; refine wp_append_zero (.tmp 29) (.tmp 30) 26 rfl 32 i0 (.agg #[.int .i64 0, .int .i64 0]) 2 16 Tryd.underlying26 HI0.out hz0 hz1 hz2 rfl _ rfl ⟨b, off, none⟩ m c2 (us.flatMap fU) rfl HN.out ?_ (fU_one us) hm1 (by omega) (by decide) ?_
             · exact srcU (by assumption) hbl HSRC.out
             intro cap arr hcap hcm hsz htk)
          | (rw [if_pos (by rfl)]; refine wp_append_lies _ (.tmp 31) (.tmp 33) 26 rfl w3.heap.size 32 i0 (.agg #[.int .i64 0, .int .i64 0]) 2 16 Tryd.underlying26 HI0.out hz0 hz1 hz2 rfl (by decide) _ m (us.flatMap fU) rfl ?_ _ 1 1 (fU (0, 0)) rfl rfl ?_ ?_ (by decide) ?_ ?_ ?_ _ rfl ?_
             · (refine own_blkU ?_ (by (first | omega | (simp; done) | (simp; omega) | (have := hBz.size; simp; omega))) HN.out hcap hcm hsz htk; repeat (first | (with_reducible refine IsBlk.at_ rfl rfl ?_; (simp; done)) | with_reducible refine IsBlk.drew_ ?_ | with_reducible refine IsBlk.alloc ?_ _))
             · (refine newsU_blk (t := 32) ?_; repeat (first | (with_reducible refine IsBlk.at_ rfl rfl ?_; (simp; done)) | with_reducible refine IsBlk.drew_ ?_ | with_reducible refine IsBlk.alloc ?_ _))
             · intro u hu; simp [fU] at hu; rcases hu with rfl | rfl <;> rfl
             · simp only [maxLen]; omega
             · omega
             · (first | omega | (simp; done) | (simp; omega) | (have := hBz.size; simp; omega))
             intro g cap' w34 hown34 hgrow34 hat34 hlt34
             have hB34 : Below w3.heap.size w3 w34 := by
               refine Below.grown ?_ hgrow34 (by (first | omega | (simp; done) | (simp; omega) | (have := hBz.size; simp; omega))) (fun q hq => by cases hq; (first | omega | (simp; done) | (simp; omega) | (have := hBz.size; simp; omega)))
               repeat (first | with_reducible exact hB9 | with_reducible exact hB8 | with_reducible exact hB7 | with_reducible exact hB34 | with_reducible exact hBz | with_reducible exact Below.refl _ _ | with_reducible refine Below.drew ?_ | (with_reducible refine Below.alloc ?_ (by first | omega | (simp; done) | (simp; omega) | (have := hB34.size; simp at *; omega) | (have := hBz.size; simp at *; omega)) _))
             have RU34 := Lib.hid (own_rowU hown34 HM.out)
             clear hown34 hgrow34 hat34 hlt34)
          | (go_at_call 11; refine (netValid_any bs A1 ls.length c1 ls _ h1 (rowS (by assumption) R3.out)).mono ?_; rintro e w5 ⟨rfl, hb5⟩; rw [HV.out]; have hBz := stepS (by assumption) hb5)
          | (go_at_call 9; (with_reducible refine (busesValid_any bs A1 ls.length c1 ls _ (m + 1) _ (us ++ [(0, 0)]) _ h1 (rowS (by assumption) R3.out) (by omega) (by first | exact RU34.out | exact RU34.out.drew)).mono ?_); rintro e w7 ⟨rfl, hb7⟩; rw [HQ.out]; have hB7 := stepS (by assumption) hb7)
          | (go_at_call 9; (with_reducible refine (busesValid_any 0 none 0 0 [] none 0 0 [] _ (by omega) (HRZ.out _) (by omega) RowU.none_).mono ?_); rintro e w8 ⟨rfl, hb8⟩; rw [HZ.out]; have hB8 := stepS (by assumption) hb8)
          | (go_at_call 12; refine (alive_any _).mono ?_; rintro e w9 ⟨rfl, hb9⟩; have hB9 := stepS (by assumption) hb9))
      all_goals go_wp2
      all_goals go_ret
      all_goals exact ⟨rfl, b3.trans (hB9.mono b3.size)⟩
    · rw [Bool.not_eq_true] at hs
      have HS := Lib.hid hs
      rw [hs]
      clear hs
      go_upto_region 7 with fail
      refine wp_region_noPanic ?_
      refine wp_region_any (by kernel_rfl) ?_
      change wpAny _ _ _ _ _ _ _ (World.drew _)
      refine wpAny_take (i := 0) (v := .bool false) rfl (by kernel_rfl) (by kernel_rfl) (by kernel_rfl) (fun _ _ _ h => (h : False).elim) (Or.inl ⟨by kernel_rfl, fun w => by go_simp⟩) ?_
      refine wpAny_take (i := 1) (v := .bool true) rfl (by kernel_rfl) (by kernel_rfl) (by kernel_rfl) (fun _ _ _ h => (h : False).elim) (Or.inl ⟨by kernel_rfl, fun w => by go_simp⟩) ?_
      refine wpAny_take (i := 2) (v := .bool true) rfl (by kernel_rfl) (by kernel_rfl) (by kernel_rfl) (fun _ _ _ h => (h : False).elim) (Or.inl ⟨by kernel_rfl, fun w => by go_simp⟩) ?_
      refine wpAny_take (i := 3) (v := undef) rfl (by kernel_rfl) (by kernel_rfl) (by kernel_rfl) (fun _ _ _ h => (h : False).elim) (Or.inr ⟨by kernel_rfl, rfl⟩) ?_
      refine wpAny_take (i := 4) (v := undef) rfl (by kernel_rfl) (by kernel_rfl) (by kernel_rfl) (fun _ _ _ h => (h : False).elim) (Or.inr ⟨by kernel_rfl, rfl⟩) ?_
      refine wpAny_take (i := 5) (v := undef) rfl (by kernel_rfl) (by kernel_rfl) (by kernel_rfl) (fun _ _ _ h => (h : False).elim) (Or.inr ⟨by kernel_rfl, rfl⟩) ?_
      refine wpAny_take (i := 6) (v := undef) rfl (by kernel_rfl) (by kernel_rfl) (by kernel_rfl) (fun _ _ _ h => (h : False).elim) (Or.inr ⟨by kernel_rfl, rfl⟩) ?_
      refine wpAny_take (i := 7) (v := undef) rfl (by kernel_rfl) (by kernel_rfl) (by kernel_rfl) (fun _ _ _ h => (h : False).elim) (Or.inr ⟨by kernel_rfl, rfl⟩) ?_
      refine wpAny_take (i := 8) (v := undef) rfl (by kernel_rfl) (by kernel_rfl) (by kernel_rfl) (fun _ _ _ h => (h : False).elim) (Or.inr ⟨by kernel_rfl, rfl⟩) ?_
      refine wpAny_take (i := 9) (v := undef) rfl (by kernel_rfl) (by kernel_rfl) (by kernel_rfl) (fun _ _ _ h => (h : False).elim) (Or.inr ⟨by kernel_rfl, rfl⟩) ?_
      refine wpAny_take (i := 10) (v := undef) rfl (by kernel_rfl) (by kernel_rfl) (by kernel_rfl) (fun _ _ _ h => (h : False).elim) (Or.inr ⟨by kernel_rfl, rfl⟩) ?_
      refine wpAny_take (i := 11) (v := undef) rfl (by kernel_rfl) (by kernel_rfl) (by kernel_rfl) (fun _ _ _ h => (h : False).elim) (Or.inr ⟨by kernel_rfl, rfl⟩) ?_
      refine wpAny_take (i := 12) (v := undef) rfl (by kernel_rfl) (by kernel_rfl) (by kernel_rfl) (fun _ _ _ h => (h : False).elim) (Or.inr ⟨by kernel_rfl, rfl⟩) ?_
      refine wpAny_take (i := 13) (v := undef) rfl (by kernel_rfl) (by kernel_rfl) (by kernel_rfl) (fun _ _ _ h => (h : False).elim) (Or.inr ⟨by kernel_rfl, rfl⟩) ?_
      refine wpAny_take (i := 14) (v := undef) rfl (by kernel_rfl) (by kernel_rfl) (by kernel_rfl) (fun _ _ _ h => (h : False).elim) (Or.inr ⟨by kernel_rfl, rfl⟩) ?_
      refine wpAny_take (i := 15) (v := undef) rfl (by kernel_rfl) (by kernel_rfl) (by kernel_rfl) (fun _ _ _ h => (h : False).elim) (Or.inr ⟨by kernel_rfl, rfl⟩) ?_
      refine wpAny_take (i := 16) (v := .bool true) rfl (by kernel_rfl) (by kernel_rfl) (by kernel_rfl) (fun _ _ _ h => (h : False).elim) (Or.inl ⟨by kernel_rfl, fun w => by go_simp⟩) ?_
      refine wpAny_take (i := 17) (v := .bool true) rfl (by kernel_rfl) (by kernel_rfl) (by kernel_rfl) (fun _ _ _ h => (h : False).elim) (Or.inl ⟨by kernel_rfl, fun w => by go_simp⟩) ?_
      refine wpAny_take (i := 18) (v := .agg #[.int .i64 0, .slice none 0 0]) rfl (by kernel_rfl) (by kernel_rfl) (by kernel_rfl) (fun _ _ _ h => (h : False).elim) (Or.inl ⟨by kernel_rfl, fun w => by go_simp⟩) ?_
      refine wpAny_ready (rs := [19]) (by kernel_rfl) (by simp) ?_
      refine AllReady.cons rfl (fun K hK => ?_) AllReady.nil
      go_simp
      refine (busesValid_any 0 none 0 0 [] none 0 0 [] _ (by omega) (HRZ.out _) (by omega) RowU.none_).mono ?_
      rintro e w8 ⟨rfl, hb8⟩
      rw [HZ.out]
      have hB8 := (Below.refl w3.heap.size w3).drew.trans (hb8.mono (Nat.le_refl _))
      go_simp
      refine hK _ _ ?_
      clear hK K
      refine wpAny_take (i := 20) (v := .bool true) rfl (by kernel_rfl) (by kernel_rfl) (by kernel_rfl) (fun _ _ _ h => (h : False).elim) (Or.inl ⟨by kernel_rfl, fun w => by go_simp⟩) ?_
      refine wpAny_take (i := 21) (v := .bool true) rfl (by kernel_rfl) (by kernel_rfl) (by kernel_rfl) (fun _ _ _ h => (h : False).elim) (Or.inl ⟨by kernel_rfl, fun w => by go_simp⟩) ?_
      refine wpAny_take (i := 22) (v := .bool true) rfl (by kernel_rfl) (by kernel_rfl) (by kernel_rfl) (fun _ _ _ h => (h : False).elim) (Or.inl ⟨by kernel_rfl, fun w => by go_simp⟩) ?_
      refine wpAny_ready (rs := [23]) (by kernel_rfl) (by simp) ?_
      refine AllReady.cons rfl (fun K hK => ?_) AllReady.nil
      go_simp
      refine (alive_any _).mono ?_
      rintro e w9 ⟨rfl, hb9'⟩
      have hB9 := hB8.trans (hb9'.mono hB8.size)
      go_simp
      refine hK _ _ ?_
      clear hK K
      refine wpAny_take (i := 24) (v := .bool true) rfl (by kernel_rfl) (by kernel_rfl) (by kernel_rfl) (fun _ _ _ h => (h : False).elim) (Or.inl ⟨by kernel_rfl, fun w => by go_simp⟩) ?_
      refine wpAny_take (i := 25) (v := .bool true) rfl (by kernel_rfl) (by kernel_rfl) (by kernel_rfl) (fun _ _ _ h => (h : False).elim) (Or.inl ⟨by kernel_rfl, fun w => by go_simp⟩) ?_
      refine wpAny_done (by kernel_rfl) ?_ _
      refine NoPanic.normal ?_
      go_wp2
      go_ret
      exact ⟨rfl, b3.trans (hB9.mono b3.size)⟩
  · have hl2 : (1048576 : Int) < (n : Int) := by omega
    go_enter Tryd.func3, Tryd.ntmps3
    go_wp2
    go_ret
    exact ⟨rfl, Below.refl _ _⟩
end Go.Proofs.YtobbmnbkjeoheaaDoor
