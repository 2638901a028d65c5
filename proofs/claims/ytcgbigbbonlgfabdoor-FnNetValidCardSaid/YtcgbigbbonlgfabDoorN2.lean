/- FnNetValid: the walk. -/
import Derived.Test.YtcgbigbbonlgfabDoorN1
import Derived.StillTactics
import Derived.Outline
namespace Go.Proofs.YtcgbigbbonlgfabDoor
open Go.ChangeShapes Go.WideShapes Go.ChangeAt Go.RowKit

/-- A slice of lines in a block of lines, with its room. -/
theorem IsBlk.lines {w : World} {g m : Nat} {t : TypeId} {arr : Array Value} {ls : List L3} (h : IsBlk w g t arr) (hl : ls.length = m) (ht : arr.toList.take (m * 3) = ls.flatMap fL) : RowL w (some ⟨g, 0, none⟩) m ls := by
  refine ⟨hl, fun _ => ⟨g, 0, rfl, h.lt, fun k l hk => ?_⟩⟩
  have hkm : k < m := by have := (List.getElem?_eq_some_iff.1 hk).1; omega
  have one : ∀ j, j < 3 → w.cell? ⟨g, 0 + k * 3 + j, none⟩ = (fL l)[j]? := by
    intro j hj
    rw [h.cell, Nat.zero_add, ← Array.getElem?_toList]
    have e := flat_get (f := fL) fL_len ls k l j hk hj
    rw [← ht, List.getElem?_take_of_lt (by omega)] at e
    exact e
  exact ⟨one 0 (by omega), one 1 (by omega), one 2 (by omega)⟩
theorem lines_cells {w : World} {A : Option Addr} {n : Nat} {ls : List L3} (hr : RowL w A n ls) (hn : 0 < n) : ∃ b off, A = some ⟨b, off, none⟩ ∧ b < w.heap.size ∧ ∀ j u, (ls.flatMap fL)[j]? = some u → w.cell? ((⟨b, off, none⟩ : Addr).add j) = some u := by
  obtain ⟨b, off, e, hlt, hc⟩ := hr.2 hn
  refine ⟨b, off, e, hlt, fun j u hj => ?_⟩
  have ha : (⟨b, off, none⟩ : Addr).add j = ⟨b, off + j, none⟩ := by unfold Addr.add; split <;> simp_all
  rw [ha]
  have hjl : j < ls.length * 3 := by have := (List.getElem?_eq_some_iff.1 hj).1; rwa [flat_len fL_len] at this
  have hk : j / 3 < ls.length := by omega
  have hkl : ls[j / 3]? = some ls[j / 3] := List.getElem?_eq_getElem hk
  generalize ls[j / 3] = l at hkl
  have e2 := flat_get (f := fL) fL_len ls (j / 3) l (j % 3) hkl (Nat.mod_lt _ (by decide))
  have e3 : j / 3 * 3 + j % 3 = j := by omega
  rw [e3, hj] at e2
  obtain ⟨h0, h1, h2⟩ := hc _ _ hkl
  have hm := Nat.mod_lt j (show 3 > 0 by decide)
  rcases (show j % 3 = 0 ∨ j % 3 = 1 ∨ j % 3 = 2 by omega) with e4 | e4 | e4
  · rw [e4] at e2; simp [fL] at e2; rw [e2, show off + j = off + j / 3 * 3 by omega]; exact h0
  · rw [e4] at e2; simp [fL] at e2; rw [e2, show off + j = off + j / 3 * 3 + 1 by omega]; exact h1
  · rw [e4] at e2; simp [fL] at e2; rw [e2, show off + j = off + j / 3 * 3 + 2 by omega]; exact h2
theorem fL_one (ls : List L3) : ∀ u ∈ ls.flatMap fL, u.oneCell' = true := by
  intro u hu
  obtain ⟨l, _, h⟩ := List.mem_flatMap.1 hu
  simp [fL] at h
  rcases h with rfl | rfl | rfl <;> rfl

theorem keep2 {w w' : World} {g : Nat} {u v : Value} (h0 : w.cell? ⟨g, 0, none⟩ = some u) (h1 : w.cell? ⟨g, 1, none⟩ = some v) (hg : g < w.heap.size) (hb : Below w.heap.size w w') :
    w'.cell? ⟨g, 0, none⟩ = some u ∧ w'.cell? ⟨g, 1, none⟩ = some v := ⟨(hb.cell (p := ⟨g, 0, none⟩) hg).trans h0, (hb.cell (p := ⟨g, 1, none⟩) hg).trans h1⟩
theorem src_below {w w' : World} {b off : Nat} {news : List Value} (hc : ∀ j u, news[j]? = some u → w.cell? ((⟨b, off, none⟩ : Addr).add j) = some u) (hlt : b < w.heap.size) (hb : Below w.heap.size w w') : ∀ j u, news[j]? = some u → w'.cell? ((⟨b, off, none⟩ : Addr).add j) = some u := by
  intro j u hj
  have ha : (⟨b, off, none⟩ : Addr).add j = ⟨b, off + j, none⟩ := by unfold Addr.add; split <;> simp_all
  have := hc j u hj
  rw [ha] at this ⊢
  exact (hb.cell (p := ⟨b, off + j, none⟩) hlt).trans this
theorem IsBlk.drew_ {w : World} {g : Nat} {t : TypeId} {cs : Array Value} (h : IsBlk w g t cs) : IsBlk w.drew g t cs := h
theorem own_blk {w : World} {base g m cap : Nat} {arr : Array Value} {xs : List Value} (h : IsBlk w g 30 arr) (hb : base ≤ g) (hl : xs.length = m * 3) (hc : m ≤ cap) (hm : cap ≤ maxLen) (hs : arr.size = cap * 3) (ht : arr.toList.take (m * 3) = xs) : w.ownsRow base 30 3 (.slice (some ⟨g, 0, none⟩) m cap) m xs :=
  ⟨hl, .inr ⟨g, cap, arr, rfl, hb, h, hc, hm, hs, ht⟩⟩
theorem news_blk {w : World} {g : Nat} {t : TypeId} {l : L3} (h : IsBlk w g t (fL l).toArray) : ∀ j u, (fL l)[j]? = some u → w.cell? ((⟨g, 0, none⟩ : Addr).add j) = some u := by
  intro j u hj
  have ha : (⟨g, 0, none⟩ : Addr).add j = ⟨g, j, none⟩ := by unfold Addr.add; split <;> simp_all
  rw [ha, h.cell j, ← hj]; simp

theorem have_then {p q : Prop} (h : p) (k : p → q) : q := k h

/-- A network in new memory: its block, its lines. -/
def NetAt (w0 : World) (m : Nat) (bs : Int) (ls : List L3) (s : Value) (wx : World) : Prop :=
  ∃ g5 g c, s = .pointer (some ⟨g5, 0, none⟩) ∧ w0.heap.size ≤ g5 ∧ m ≤ c ∧ c ≤ 9223372036854775807 ∧ g ≠ g5 ∧ IsBlk wx g5 25 #[.int .i64 bs, .slice (some ⟨g, 0, none⟩) m c] ∧ RowL wx (some ⟨g, 0, none⟩) m ls ∧ Below w0.heap.size w0 wx
theorem own_row {W : World} {base g m c : Nat} {ls : List L3} (hown : W.ownsRow base 30 3 (.slice (some ⟨g, 0, none⟩) m c) m (ls.flatMap fL)) (hl : ls.length = m) : RowL W (some ⟨g, 0, none⟩) m ls := by
  have h : OwnL W base (.slice (some ⟨g, 0, none⟩) m c) ls := by show World.ownsRow _ _ _ _ _ _ _; rw [hl]; exact hown
  obtain ⟨A, c', e, hr⟩ := h.row
  injection e with e1 e2 e3
  subst e1; rw [e2]; exact hr
theorem own_room {W : World} {base g m c : Nat} {xs : List Value} (hown : W.ownsRow base 30 3 (.slice (some ⟨g, 0, none⟩) m c) m xs) (hm : 0 < m) : m ≤ c ∧ c ≤ 9223372036854775807 ∧ g < W.heap.size ∧ ∃ cur, IsBlk W g 30 cur := by
  rcases hown.2 with ⟨h, h0⟩ | ⟨g', cap, cur, e, hb, hg, h4, h5, _⟩
  · omega
  · injection e with e1 e2 e3
    injection e1 with e1; injection e1 with e1
    subst e1 e3
    simp only [maxLen] at h5
    exact ⟨h4, by omega, IsBlk.lt hg, cur, hg⟩
theorem fin9 {w0 W : World} {base g5 g m c : Nat} {bs : Int} {ls : List L3} {u0 u1 : Value} (hK : IsBlk W g5 25 #[u0, u1]) (hown : W.ownsRow base 30 3 (.slice (some ⟨g, 0, none⟩) m c) m (ls.flatMap fL)) (hl : ls.length = m) (hm : 0 < m) (hg5 : w0.heap.size ≤ g5) (hB : Below w0.heap.size w0 W) :
    NetAt w0 m bs ls (.pointer (some ⟨g5, 0, none⟩)) ((W.setCell ⟨g5, 0, none⟩ (.int .i64 bs)).setCell ⟨g5, 1, none⟩ (.slice (some ⟨g, 0, none⟩) m c)) := by
  obtain ⟨h1, h2, h3, cur, hg⟩ := own_room hown hm
  have hne : g ≠ g5 := by
    rintro rfl
    have := hg.symm.trans hK
    injection this with this; injection this with _ this
    exact absurd this (by decide)
  refine ⟨g5, g, c, rfl, hg5, h1, h2, hne, ((hK.put 0 _).put 1 _), ?_, (hB.setCell hg5 _).setCell hg5 _⟩
  have g2 : W.grownBy ((W.setCell ⟨g5, 0, none⟩ (.int .i64 bs)).setCell ⟨g5, 1, none⟩ (.slice (some ⟨g, 0, none⟩) m c)) (some g5) := grown_then (grown_put _ _ _ _) (grown_put _ _ _ _)
  have ho : OwnL W base (.slice (some ⟨g, 0, none⟩) m c) ls := by show World.ownsRow _ _ _ _ _ _ _; rw [hl]; exact hown
  have h := ho.far g2 (fun q hq e => by injection e with e; injection hq with hq; exact hne (hq.trans e.symm))
  obtain ⟨A, c', e, hr⟩ := h.row
  injection e with e1 e2 e3
  subst e1; rw [hl] at hr; exact hr
theorem fin9b {w0 W : World} {base g m c : Nat} {bs : Int} {ls : List L3} (hown : W.ownsRow base 30 3 (.slice (some ⟨g, 0, none⟩) m c) m (ls.flatMap fL)) (hl : ls.length = m) (hm : 0 < m) (hB : Below w0.heap.size w0 W) :
    NetAt w0 m bs ls (.pointer (some ⟨W.heap.size, 0, none⟩)) (W.alloc (.cells #[.int .i64 bs, .slice (some ⟨g, 0, none⟩) m c] 25)) := by
  obtain ⟨h1, h2, h3, _⟩ := own_room hown hm
  exact ⟨_, g, c, rfl, hB.size, h1, h2, by omega, IsBlk.new _ _ _, (own_row hown hl).below (below_bx _ _), hB.alloc hB.size _⟩
theorem NetAt.mk {w0 wx : World} {g5 g c m : Nat} {bs : Int} {ls : List L3} {arr : Array Value} (hg5 : w0.heap.size ≤ g5) (hc : m ≤ c) (hm : c ≤ maxLen) (hK : IsBlk wx g5 25 #[.int .i64 bs, .slice (some ⟨g, 0, none⟩) m c]) (hA : IsBlk wx g 30 arr) (hl : ls.length = m) (ht : arr.toList.take (m * 3) = ls.flatMap fL) (hB : Below w0.heap.size w0 wx) :
    NetAt w0 m bs ls (.pointer (some ⟨g5, 0, none⟩)) wx := by
  have hne : g ≠ g5 := by
    rintro rfl
    have := hA.symm.trans hK
    injection this with this; injection this with _ this
    exact absurd this (by decide)
  exact ⟨g5, g, c, rfl, hg5, hc, by simp only [maxLen] at hm; omega, hne, hK, hA.lines hl ht, hB⟩
theorem NetAt.drew {w0 wx : World} {m : Nat} {bs : Int} {ls : List L3} {s : Value} (h : NetAt w0 m bs ls s wx) : NetAt w0 m bs ls s wx.drew := by
  obtain ⟨g5, g, c, h1, h2, h3, h4, h5, h6, h7, h8⟩ := h
  exact ⟨g5, g, c, h1, h2, h3, h4, h5, h6, h7, h8.drew⟩
theorem RowL.put {w : World} {g q i n : Nat} {ls : List L3} (h : RowL w (some ⟨g, 0, none⟩) n ls) (hne : g ≠ q) (u : Value) : RowL (w.setCell ⟨q, i, none⟩ u) (some ⟨g, 0, none⟩) n ls := by
  refine ⟨h.1, fun hn => ?_⟩
  obtain ⟨b, off, e, hlt, hc⟩ := h.2 hn
  injection e with e; injection e with e1 e2
  subst e1 e2
  have far : ∀ o, (w.setCell ⟨q, i, none⟩ u).cell? ⟨g, o, none⟩ = w.cell? ⟨g, o, none⟩ := fun o => World.cell?_setCell_other _ _ _ _ (fun e => hne (by injection e with e1; exact e1.symm))
  exact ⟨g, 0, rfl, by simpa [World.setCell] using hlt, fun k l hk => by rw [far, far, far]; exact hc k l hk⟩
theorem netOk_snoc (bs : Int) (ls : List L3) : netOk bs (ls ++ [(0, 0, 1)]) = false := by
  rw [Bool.eq_false_iff]; intro h
  exact lineOk_ne (netOk_line h (k := ls.length) (l := (0, 0, 1)) (by simp)) rfl
theorem netOk_take {bs : Int} {ls : List L3} (h : netOk bs ls = true) (k : Nat) : netOk bs (ls.take k) = true := by
  simp only [netOk, Bool.and_eq_true, decide_eq_true_eq] at h ⊢
  refine ⟨⟨h.1.1, by rw [List.length_take]; omega⟩, ?_⟩
  rw [List.all_eq_true]
  intro l hl
  exact List.all_eq_true.1 h.2 l (List.mem_of_mem_take hl)
theorem RowL.less {w : World} {A : Option Addr} {n k : Nat} {ls : List L3} (h : RowL w A n ls) (hk : k ≤ n) : RowL w A k (ls.take k) := by
  refine ⟨by rw [List.length_take]; have := h.1; omega, fun hp => ?_⟩
  obtain ⟨b, off, e, hlt, hc⟩ := h.2 (by omega)
  refine ⟨b, off, e, hlt, fun j l hj => hc j l ?_⟩
  rw [List.getElem?_take] at hj
  split at hj
  · exact hj
  · cases hj

set_option maxRecDepth 100000 in
set_option maxHeartbeats 4000000 in
theorem netValid_walk (w : World) (A : Option Addr) (n c : Nat) (code : List Int) (hr : RowB w A n code) (hnc : n ≤ c) (hc : c ≤ 9223372036854775807) :
    Calls Tryd.prog 3 #[.slice A n c] w fun e w' => e = .returned (.bool true) ∧ Below w.heap.size w w' := by
  by_cases hlen : n ≤ 1048576
  · obtain ⟨i0, hi, hz0, hz1, hz2⟩ := info_parts lineInfo
    have HI0 := Lib.hid hi
    clear hi
    go_enter Tryd.func3, Tryd.ntmps3
    go_wp2_with fail
    refine (drawNetValid_any A n c code _ hr hnc hc).mono ?_
    rintro e w1 ⟨bs, A1, c1, ls, rfl, hrow, hl, a1⟩
    have hb0 := below_bx w1 (.cells #[.int .i64 bs, .slice A1 ls.length c1] 25)
    have R1 := Lib.hid (hrow.below hb0)
    have k1 := Lib.hid (IsBlk.new w1 25 #[.int .i64 bs, .slice A1 ls.length c1])
    have b1 : Below w.heap.size w (w1.alloc (.cells #[.int .i64 bs, .slice A1 ls.length c1] 25)) := a1.alloc a1.size _
    have hX : w.heap.size ≤ w1.heap.size := a1.size
    clear hrow hr hb0
    generalize hm : ls.length = m at *
    have HM := Lib.hid hm
    clear hm
    go_wp2_with fail
    refine (netValid_any bs A1 m c1 ls _ (by omega) R1.out).mono ?_
    rintro e w2 ⟨rfl, hb2⟩
    have b2 := b1.trans (hb2.mono b1.size)
    have R2 := Lib.hid (R1.out.below hb2)
    have k2 := Lib.hid (k1.out.keep hb2)
    clear R1 k1
    obtain ⟨p0, p1, p2, p3⟩ := k2.out.two
    go_wp2_with fail
    refine (specNetValid_any bs A1 m c1 ls _ (by omega) R2.out).mono ?_
    rintro e w3 ⟨rfl, hb3⟩
    have b3 := b2.trans (hb3.mono b2.size)
    have R3 := Lib.hid (R2.out.below hb3)
    have k3 := Lib.hid (k2.out.keep hb3)
    clear R2 k2 p0 p1 p2 p3 b1 b2
    by_cases hv : netOk bs ls = true
    · have HV := Lib.hid hv
      rw [hv]
      clear hv
      obtain ⟨p0, p1, p2, p3⟩ := k3.out.two
      go_upto_region 9 with fail
      by_cases hm0 : m = 0
      · subst hm0
        obtain rfl : ls = [] := List.eq_nil_of_length_eq_zero HM.out
        have hX3 : w1.heap.size < w3.heap.size := k3.out.lt
        go_cut [5] (fun s5 wx => NetAt w3 1 bs [(0, 0, 1)] s5 wx)
        case first =>
          go_region_held3 (fun w' => w'.cell? ⟨w1.heap.size, 0, none⟩ = some (.int .i64 bs) ∧ w'.cell? ⟨w1.heap.size, 1, none⟩ = some (.slice A1 0 c1))
            (first
              | (refine keep2 p0 p1 hX3 ?_; repeat (first | with_reducible exact Below.refl _ _ | with_reducible refine Below.drew ?_ | (with_reducible refine Below.alloc ?_ (by first | omega | (simp; done) | (simp; omega)) _))))
            (first
              | (refine step_append_nothing rfl (.tmp 28) (.tmp 30) 23 rfl 30 i0 Tryd.underlying23 HI0.out _ 0 rfl A1 c1 rfl ?_)
              | (refine step_append_zero rfl (.tmp 31) (.tmp 33) 23 rfl 30 i0 _ 3 24 Tryd.underlying23 HI0.out hz0 hz1 hz2 rfl _ rfl _ 1 1 (fL (0, 0, 1)) rfl rfl ?_ ?_ (by decide) (by decide) (by decide) ?_
                 · (refine news_blk (t := 30) ?_; repeat (first | (with_reducible refine IsBlk.at_ rfl rfl ?_; (simp; done)) | with_reducible refine IsBlk.drew_ ?_ | with_reducible refine IsBlk.alloc ?_ _))
                 · intro u hu; simp [fL] at hu; rcases hu with rfl | rfl | rfl <;> rfl
                 intro cap arr hcap hcm hsz htk))
          all_goals (go_wp2_with fail; go_meet)
          all_goals repeat (with_reducible refine NetAt.drew ?_)
          all_goals first
            | (refine NetAt.mk (g := w3.heap.size + 1 + 1) ?_ hcap hcm ?_ ?_ rfl (by rw [htk]; rfl) ?_
               · (first | omega | (simp; done) | (simp; omega))
               · (repeat (first | (with_reducible refine IsBlk.at_ rfl rfl ?_; (simp; done)) | with_reducible refine IsBlk.drew_ ?_ | with_reducible refine IsBlk.alloc ?_ _))
               · (repeat (first | (with_reducible refine IsBlk.at_ rfl rfl ?_; (simp; done)) | with_reducible refine IsBlk.drew_ ?_ | with_reducible refine IsBlk.alloc ?_ _))
               · (repeat (first | with_reducible exact Below.refl _ _ | with_reducible refine Below.drew ?_ | (with_reducible refine Below.alloc ?_ (by first | omega | (simp; done) | (simp; omega)) _))))
            | (refine NetAt.mk (g := w3.heap.size + 1 + 1 + 1) ?_ hcap hcm ?_ ?_ rfl (by rw [htk]; rfl) ?_
               · (first | omega | (simp; done) | (simp; omega))
               · (repeat (first | (with_reducible refine IsBlk.at_ rfl rfl ?_; (simp; done)) | with_reducible refine IsBlk.drew_ ?_ | with_reducible refine IsBlk.alloc ?_ _))
               · (repeat (first | (with_reducible refine IsBlk.at_ rfl rfl ?_; (simp; done)) | with_reducible refine IsBlk.drew_ ?_ | with_reducible refine IsBlk.alloc ?_ _))
               · (repeat (first | with_reducible exact Below.refl _ _ | with_reducible refine Below.drew ?_ | (with_reducible refine Below.alloc ?_ (by first | omega | (simp; done) | (simp; omega)) _))))
        case rest =>
          obtain ⟨g5, g9, c9, rfl, hg5, hc9, hc9', hne9, hk5, hr9, hb9⟩ := hcut
          have b4 := b3.trans (hb9.mono b3.size)
          have k4 := Lib.hid (k3.out.keep hb9)
          have hX4 : w1.heap.size < wc.heap.size := k4.out.lt
          have K5 := Lib.hid hk5
          have R9 := Lib.hid hr9
          have hl5 : g5 < wc.heap.size := hk5.lt
          clear hk5 hr9 p0 p1 p2 p3
          obtain ⟨p0, p1, p2, p3⟩ := k4.out.two
          go_upto_region 10 with fail
          go_cut [6] (fun s6 wx => NetAt wc 0 bs [] s6 wx)
          case first =>
            go_region_held3 (fun w' => w'.cell? ⟨w1.heap.size, 0, none⟩ = some (.int .i64 bs) ∧ w'.cell? ⟨w1.heap.size, 1, none⟩ = some (.slice A1 0 c1))
              (first
                | (refine keep2 p0 p1 hX4 ?_; repeat (first | with_reducible exact Below.refl _ _ | with_reducible refine Below.drew ?_ | (with_reducible refine Below.alloc ?_ (by first | omega | (simp; done) | (simp; omega)) _))))
              (first
                | (refine step_append_nothing rfl (.tmp 38) (.tmp 40) 23 rfl 30 i0 Tryd.underlying23 HI0.out _ 0 rfl A1 c1 rfl ?_))
            all_goals (go_wp2_with fail; go_meet)
            all_goals repeat (with_reducible refine NetAt.drew ?_)
            all_goals first
              | (refine NetAt.mk (g := wc.heap.size) (arr := #[]) ?_ (Nat.le_refl _) (by decide) ?_ ?_ rfl rfl ?_
                 · (first | omega | (simp; done) | (simp; omega))
                 · (repeat (first | (with_reducible refine IsBlk.at_ rfl rfl ?_; (simp; done)) | with_reducible refine IsBlk.drew_ ?_ | with_reducible refine IsBlk.alloc ?_ _))
                 · (repeat (first | (with_reducible refine IsBlk.at_ rfl rfl ?_; (simp; done)) | with_reducible refine IsBlk.drew_ ?_ | with_reducible refine IsBlk.alloc ?_ _))
                 · (repeat (first | with_reducible exact Below.refl _ _ | with_reducible refine Below.drew ?_ | (with_reducible refine Below.alloc ?_ (by first | omega | (simp; done) | (simp; omega)) _))))
              | (refine NetAt.mk (g := wc.heap.size + 1) (arr := #[]) ?_ (Nat.le_refl _) (by decide) ?_ ?_ rfl rfl ?_
                 · (first | omega | (simp; done) | (simp; omega))
                 · (repeat (first | (with_reducible refine IsBlk.at_ rfl rfl ?_; (simp; done)) | with_reducible refine IsBlk.drew_ ?_ | with_reducible refine IsBlk.alloc ?_ _))
                 · (repeat (first | (with_reducible refine IsBlk.at_ rfl rfl ?_; (simp; done)) | with_reducible refine IsBlk.drew_ ?_ | with_reducible refine IsBlk.alloc ?_ _))
                 · (repeat (first | with_reducible exact Below.refl _ _ | with_reducible refine Below.drew ?_ | (with_reducible refine Below.alloc ?_ (by first | omega | (simp; done) | (simp; omega)) _))))
          case rest =>
            obtain ⟨g6, g10, c10, rfl, hg6, hc10, hc10', hne10, hk6, hr10, hb10⟩ := hcut
            have b5 := b4.trans (hb10.mono b4.size)
            have k5 := Lib.hid (k4.out.keep hb10)
            have L5 := Lib.hid (K5.out.keep hb10)
            have R9' := Lib.hid (R9.out.below hb10)
            have K6 := Lib.hid hk6
            have R10 := Lib.hid hr10
            clear hk6 hr10 p0 p1 p2 p3 K5 R9 k4
            obtain ⟨p0, p1, p2, p3⟩ := k5.out.two
            obtain ⟨q0, q1, q2, q3⟩ := K6.out.two
            have HS := Lib.hid (show netOk bs [(0, 0, 1)] = false from netOk_snoc bs [])
            go_wp2_with fail
            refine (netValid_any bs _ 0 c10 [] _ (by omega) R10.out).mono ?_
            rintro e w5 ⟨rfl, hb5⟩
            rw [HV.out]
            have b6 := b5.trans (hb5.mono b5.size)
            have L6 := Lib.hid (L5.out.keep hb5)
            have R9'' := Lib.hid (R9'.out.below hb5)
            clear q0 q1 q2 q3 p0 p1 p2 p3
            obtain ⟨r0, r1, r2, r3⟩ := L6.out.two
            go_wp2_with fail
            refine (netValid_any bs _ 1 c9 [(0, 0, 1)] _ (by omega) R9''.out).mono ?_
            rintro e w6 ⟨rfl, hb6⟩
            rw [HS.out]
            go_wp2
            go_ret
            exact ⟨rfl, b6.trans (hb6.mono b6.size)⟩
      have hm1 : 0 < m := by omega
      obtain ⟨b, off, rfl, hbl, hcl⟩ := lines_cells R3.out hm1
      have HC := Lib.hid hcl
      have HN := Lib.hid (show (ls.flatMap fL).length = m * 3 by rw [flat_len fL_len, HM.out])
      have hX3 : w1.heap.size < w3.heap.size := k3.out.lt
      clear hcl
      have HL1 := Lib.hid (show (ls ++ [(0, 0, 1)] : List L3).length = m + 1 by rw [List.length_append, HM.out]; rfl)
      have HFM := Lib.hid (show (ls ++ [(0, 0, 1)] : List L3).flatMap fL = ls.flatMap fL ++ fL (0, 0, 1) by rw [List.flatMap_append]; rfl)
      go_cut [5] (fun s5 wx => NetAt w3 (m + 1) bs (ls ++ [(0, 0, 1)]) s5 wx)
      case first =>
        go_region_held3 (fun w' => w'.cell? ⟨w1.heap.size, 0, none⟩ = some (.int .i64 bs) ∧ w'.cell? ⟨w1.heap.size, 1, none⟩ = some (.slice (some ⟨b, off, none⟩) m c1))
          (first
            | (refine keep2 p0 p1 hX3 ?_; repeat (first | with_reducible exact Below.refl _ _ | with_reducible exact hB34 | with_reducible exact hB34.alloc hB34.size _ | with_reducible refine Below.drew ?_ | (with_reducible refine Below.alloc ?_ (by first | omega | (simp; done) | (simp; omega)) _) | (with_reducible refine Below.setCell ?_ (by first | omega | (simp; done) | (simp; omega)) _))))
          (first
            | (refine step_append_zero rfl (.tmp 28) (.tmp 30) 23 rfl 30 i0 _ 3 24 Tryd.underlying23 HI0.out hz0 hz1 hz2 rfl _ rfl ⟨b, off, none⟩ m c1 (ls.flatMap fL) rfl HN.out ?_ (fL_one ls) hm1 (by omega) (by decide) ?_
               · (refine src_below HC.out hbl ?_; repeat (first | with_reducible exact Below.refl _ _ | with_reducible refine Below.drew ?_ | (with_reducible refine Below.alloc ?_ (by first | omega | (simp; done) | (simp; omega)) _)))
               intro cap arr hcap hcm hsz htk)
            | (refine step_append_lies _ rfl (.tmp 31) (.tmp 33) 23 rfl w3.heap.size 30 i0 (.agg #[.int .i64 0, .int .i64 0, .int .i64 0]) 3 24 Tryd.underlying23 HI0.out hz0 hz1 hz2 rfl (by decide) _ m (ls.flatMap fL) rfl ?_ _ 1 1 (fL (0, 0, 1)) rfl rfl ?_ ?_ (by decide) ?_ ?_ ?_ _ rfl ?_
               · (refine own_blk ?_ (by first | omega | (simp; done) | (simp; omega)) HN.out hcap hcm hsz htk; repeat (first | (with_reducible refine IsBlk.at_ rfl rfl ?_; (simp; done)) | with_reducible refine IsBlk.drew_ ?_ | with_reducible refine IsBlk.alloc ?_ _))
               · (refine news_blk (t := 30) ?_; repeat (first | (with_reducible refine IsBlk.at_ rfl rfl ?_; (simp; done)) | with_reducible refine IsBlk.drew_ ?_ | with_reducible refine IsBlk.alloc ?_ _))
               · intro u hu; simp [fL] at hu; rcases hu with rfl | rfl | rfl <;> rfl
               · simp only [maxLen]; omega
               · omega
               · (first | omega | (simp; done) | (simp; omega))
               intro g cap' w34 hown34 hgrow34 hat34 hlt34
               have hB34 : Below w3.heap.size w3 w34 := by
                 refine Below.grown ?_ hgrow34 (by first | omega | (simp; done) | (simp; omega)) (fun q hq => by cases hq; first | omega | (simp; done) | (simp; omega))
                 repeat (first | with_reducible exact Below.refl _ _ | with_reducible refine Below.drew ?_ | (with_reducible refine Below.alloc ?_ (by first | omega | (simp; done) | (simp; omega)) _))
               first
                 | (refine have_then (p := IsBlk w34 w3.heap.size 25 #[.int .i64 0, .slice none 0 0]) ?_ ?_
                    · (refine IsBlk.farG ?_ hgrow34 (fun e => ?_)
                       · repeat (first | (with_reducible refine IsBlk.at_ rfl rfl ?_; (simp; done)) | with_reducible refine IsBlk.drew_ ?_ | with_reducible refine IsBlk.alloc ?_ _)
                       · (have e2 := Option.some.inj e; first | (simp at e2; done) | (simp at e2; omega)))
                    intro K5; obtain ⟨z0, z1, z2, z3⟩ := K5.two; have H5 := Lib.hid K5; clear K5)
                 | (refine have_then (p := IsBlk w34 (w3.heap.size + 1) 25 #[.int .i64 0, .slice none 0 0]) ?_ ?_
                    · (refine IsBlk.farG ?_ hgrow34 (fun e => ?_)
                       · repeat (first | (with_reducible refine IsBlk.at_ rfl rfl ?_; (simp; done)) | with_reducible refine IsBlk.drew_ ?_ | with_reducible refine IsBlk.alloc ?_ _)
                       · (have e2 := Option.some.inj e; first | (simp at e2; done) | (simp at e2; omega)))
                    intro K5; obtain ⟨z0, z1, z2, z3⟩ := K5.two; have H5 := Lib.hid K5; clear K5)
                 | (refine have_then (p := IsBlk w34 (w3.heap.size + 1 + 1) 25 #[.int .i64 0, .slice none 0 0]) ?_ ?_
                    · (refine IsBlk.farG ?_ hgrow34 (fun e => ?_)
                       · repeat (first | (with_reducible refine IsBlk.at_ rfl rfl ?_; (simp; done)) | with_reducible refine IsBlk.drew_ ?_ | with_reducible refine IsBlk.alloc ?_ _)
                       · (have e2 := Option.some.inj e; first | (simp at e2; done) | (simp at e2; omega)))
                    intro K5; obtain ⟨z0, z1, z2, z3⟩ := K5.two; have H5 := Lib.hid K5; clear K5)
                 | (refine have_then (p := IsBlk w34 (w3.heap.size + 1 + 1 + 1) 25 #[.int .i64 0, .slice none 0 0]) ?_ ?_
                    · (refine IsBlk.farG ?_ hgrow34 (fun e => ?_)
                       · repeat (first | (with_reducible refine IsBlk.at_ rfl rfl ?_; (simp; done)) | with_reducible refine IsBlk.drew_ ?_ | with_reducible refine IsBlk.alloc ?_ _)
                       · (have e2 := Option.some.inj e; first | (simp at e2; done) | (simp at e2; omega)))
                    intro K5; obtain ⟨z0, z1, z2, z3⟩ := K5.two; have H5 := Lib.hid K5; clear K5)
                 | skip
               clear hat34 hlt34
               have HO34 := Lib.hid hown34
               clear hgrow34 hown34))
        all_goals (go_wp2_with fail; go_meet)
        all_goals first
          | exact fin9 H5.out (by rw [HFM.out]; exact HO34.out) HL1.out (by omega) (by first | omega | (simp; done) | (simp; omega)) hB34
          | exact fin9b (by rw [HFM.out]; exact HO34.out) HL1.out (by omega) hB34
      case rest =>
        obtain ⟨g5, g9, c9, rfl, hg5, hc9, hc9', hne9, hk5, hr9, hb9⟩ := hcut
        have b4 := b3.trans (hb9.mono b3.size)
        have k4 := Lib.hid (k3.out.keep hb9)
        have hX4 : w1.heap.size < wc.heap.size := k4.out.lt
        have K5 := Lib.hid hk5
        have R9 := Lib.hid hr9
        have hl5 : g5 < wc.heap.size := hk5.lt
        have hl9 : g9 < wc.heap.size := by
          obtain ⟨b', off', e, hlt, _⟩ := hr9.2 (by omega)
          injection e with e; injection e with e1 e2
          omega
        have HC4 := Lib.hid (src_below HC.out hbl hb9)
        have hbl4 : b < wc.heap.size := Nat.lt_of_lt_of_le hbl hb9.size
        clear hk5 hr9 p0 p1 p2 p3
        obtain ⟨p0, p1, p2, p3⟩ := k4.out.two
        go_upto_region 10 with fail
        go_cut [6] (fun s6 wx => NetAt wc m bs ls s6 wx)
        case first =>
          go_region_held3 (fun w' => w'.cell? ⟨w1.heap.size, 0, none⟩ = some (.int .i64 bs) ∧ w'.cell? ⟨w1.heap.size, 1, none⟩ = some (.slice (some ⟨b, off, none⟩) m c1))
            (first
              | (refine keep2 p0 p1 hX4 ?_; repeat (first | with_reducible exact Below.refl _ _ | with_reducible refine Below.drew ?_ | (with_reducible refine Below.alloc ?_ (by first | omega | (simp; done) | (simp; omega)) _))))
            (first
              | (refine step_append_zero rfl (.tmp 38) (.tmp 40) 23 rfl 30 i0 _ 3 24 Tryd.underlying23 HI0.out hz0 hz1 hz2 rfl _ rfl ⟨b, off, none⟩ m c1 (ls.flatMap fL) rfl HN.out ?_ (fL_one ls) hm1 (by omega) (by decide) ?_
                 · (refine src_below HC4.out hbl4 ?_; repeat (first | with_reducible exact Below.refl _ _ | with_reducible refine Below.drew ?_ | (with_reducible refine Below.alloc ?_ (by first | omega | (simp; done) | (simp; omega)) _)))
                 intro cap arr hcap hcm hsz htk))
          all_goals (go_wp2_with fail; go_meet)
          all_goals repeat (with_reducible refine NetAt.drew ?_)
          all_goals first
            | (refine NetAt.mk (g := wc.heap.size + 1) ?_ hcap hcm ?_ ?_ HM.out htk ?_
               · (first | omega | (simp; done) | (simp; omega))
               · (repeat (first | (with_reducible refine IsBlk.at_ rfl rfl ?_; (simp; done)) | with_reducible refine IsBlk.drew_ ?_ | with_reducible refine IsBlk.alloc ?_ _))
               · (repeat (first | (with_reducible refine IsBlk.at_ rfl rfl ?_; (simp; done)) | with_reducible refine IsBlk.drew_ ?_ | with_reducible refine IsBlk.alloc ?_ _))
               · (repeat (first | with_reducible exact Below.refl _ _ | with_reducible refine Below.drew ?_ | (with_reducible refine Below.alloc ?_ (by first | omega | (simp; done) | (simp; omega)) _))))
            | (refine NetAt.mk (g := wc.heap.size + 1 + 1) ?_ hcap hcm ?_ ?_ HM.out htk ?_
               · (first | omega | (simp; done) | (simp; omega))
               · (repeat (first | (with_reducible refine IsBlk.at_ rfl rfl ?_; (simp; done)) | with_reducible refine IsBlk.drew_ ?_ | with_reducible refine IsBlk.alloc ?_ _))
               · (repeat (first | (with_reducible refine IsBlk.at_ rfl rfl ?_; (simp; done)) | with_reducible refine IsBlk.drew_ ?_ | with_reducible refine IsBlk.alloc ?_ _))
               · (repeat (first | with_reducible exact Below.refl _ _ | with_reducible refine Below.drew ?_ | (with_reducible refine Below.alloc ?_ (by first | omega | (simp; done) | (simp; omega)) _))))
        case rest =>
          obtain ⟨g6, g10, c10, rfl, hg6, hc10, hc10', hne10, hk6, hr10, hb10⟩ := hcut
          have b5 := b4.trans (hb10.mono b4.size)
          have k5 := Lib.hid (k4.out.keep hb10)
          have L5 := Lib.hid (K5.out.keep hb10)
          have R9' := Lib.hid (R9.out.below hb10)
          have K6 := Lib.hid hk6
          have R10 := Lib.hid hr10
          clear hk6 hr10 p0 p1 p2 p3 K5 R9 k4
          obtain ⟨k, rfl⟩ : ∃ k, m = k + 1 := ⟨m - 1, by omega⟩
          obtain ⟨p0, p1, p2, p3⟩ := k5.out.two
          obtain ⟨q0, q1, q2, q3⟩ := K6.out.two
          obtain ⟨r0, r1, r2, r3⟩ := L5.out.two
          have hkk : (0 : Int) < ((k + 1 : Nat) : Int) := by omega
          have hk1 : ((k + 1 : Nat) : Int) - 1 = (k : Int) := by omega
          have hk2 : (k : Int) ≤ (c10 : Int) := by omega
          have hn56 : ¬ g5 = g6 := by omega
          have hn65 : ¬ g6 = g5 := by omega
          have HT := Lib.hid (netOk_take HV.out k)
          have HS := Lib.hid (netOk_snoc bs ls)
          have hw6 : w.heap.size ≤ g6 := by have := b4.size; omega
          go_wp2_with fail
          refine (netValid_any bs _ k c10 (ls.take k) _ (by omega) ((R10.out.less (by omega)).put hne10 _)).mono ?_
          rintro e w5 ⟨rfl, hb5⟩
          rw [HT.out]
          have L6 := Lib.hid ((L5.out.far (p := ⟨g6, 1, none⟩) hn56 _).keep hb5)
          have R9'' := Lib.hid ((R9'.out.put (q := g6) (i := 1) (by omega) _).below hb5)
          clear q0 q1 q2 q3 r0 r1 r2 r3 p0 p1 p2 p3
          obtain ⟨r0, r1, r2, r3⟩ := L6.out.two
          go_wp2_with fail
          refine (netValid_any bs _ (k + 1 + 1) c9 (ls ++ [(0, 0, 1)]) _ (by omega) R9''.out).mono ?_
          rintro e w6 ⟨rfl, hb6⟩
          rw [HS.out]
          go_wp2
          go_ret
          have b6 := (b5.setCell (p := ⟨g6, 1, none⟩) hw6 (.slice (some ⟨g10, 0, none⟩) k c10)).trans (hb5.mono (by have := b5.size; simpa [World.setCell] using this))
          exact ⟨rfl, b6.trans (hb6.mono b6.size)⟩
    · rw [Bool.not_eq_true] at hv
      rw [hv]
      clear hv
      have HZ := Lib.hid (show netOk 0 [] = false by decide)
      go_wp2_with fail
      refine (netValid_any 0 none 0 0 [] _ (by omega) ⟨rfl, fun h => absurd h (by omega)⟩).mono ?_
      rintro e w4 ⟨rfl, hb4⟩
      rw [HZ.out]
      have b4 := b3.trans (hb4.mono b3.size)
      go_wp2_with fail
      refine (alive_any _).mono ?_
      rintro e w5 ⟨rfl, hb5⟩
      go_wp2
      go_ret
      exact ⟨rfl, b4.trans (hb5.mono b4.size)⟩
  · have hl2 : (1048576 : Int) < (n : Int) := by omega
    go_enter Tryd.func3, Tryd.ntmps3
    go_wp2
    go_ret
    exact ⟨rfl, Below.refl _ _⟩
end Go.Proofs.YtcgbigbbonlgfabDoor
