/- Busbars: BarsDo, of the model. -/
import Derived.Test.YtafgfhjlkdjngaaDoorBr8
namespace Go.Proofs.YtafgfhjlkdjngaaDoor
open Go.ChangeShapes Go.WideShapes Go.ChangeAt Go.RowKit

/-- Bars that are copied, beside a box and a result that is not set yet. -/
structure CpSt (w wr : World) (g : Nat) (A : Option Addr) (n c : Nat) (cp : Bool) (v : Value) (x : BB) : Prop where
  own : OwnI 3 wr (w.heap.size + 2) v x.1
  bel : Below w.heap.size w wr
  box : IsBlk wr w.heap.size 25 #[.slice A n c, .bool cp]
  ret : IsBlk wr (w.heap.size + 1) 25 #[.slice none 0 0, .bool false]
  out : IsBlk wr g 25 #[v, .bool x.2]
  hg : w.heap.size + 2 ≤ g
  ne : ∀ q, v.ownBlock = some q → q ≠ g
section
variable {w wr w' : World} {g : Nat} {A : Option Addr} {n c : Nat} {cp : Bool} {v : Value} {x : BB}
theorem CpSt.next (h : CpSt w wr g A n c cp v x) (hb : Below wr.heap.size wr w') : CpSt w w' g A n c cp v x :=
  ⟨OwnI.keep h.own hb, h.bel.trans (hb.mono h.bel.size), h.box.keep hb, h.ret.keep hb, h.out.keep hb, h.hg, h.ne⟩
theorem CpSt.coup (h : CpSt w wr g A n c cp v x) (t : Bool) : CpSt w (wr.setCell ⟨g, 1, none⟩ (.bool t)) g A n c cp v (x.1, t) :=
  ⟨OwnI.far h.own (grown_put _ g 1 _) (fun q hq e => by injection e with e; exact h.ne q hq e.symm), h.bel.setCell (by have := h.hg; show w.heap.size ≤ g; omega) _, h.box.far (p := ⟨g, 1, none⟩) (by have := h.hg; show w.heap.size ≠ g; omega) _,
    h.ret.far (p := ⟨g, 1, none⟩) (by have := h.hg; show w.heap.size + 1 ≠ g; omega) _, by have := h.out.put 1 (.bool t); simpa using this, h.hg, h.ne⟩
theorem CpSt.done (h : CpSt w wr g A n c cp v x) (a b : Value) : OwnI 3 ((wr.setCell ⟨w.heap.size + 1, 0, none⟩ a).setCell ⟨w.heap.size + 1, 1, none⟩ b) w.heap.size v x.1 ∧ Below w.heap.size w ((wr.setCell ⟨w.heap.size + 1, 0, none⟩ a).setCell ⟨w.heap.size + 1, 1, none⟩ b) :=
  ⟨OwnI.ret2 (OwnI.moreR h.own (by omega)) (fun q hq => by have := (OwnI.lt h.own q hq).1; omega) _ _, below_two h.bel (by omega) _ _⟩
end

theorem CpSt.drew {w wr : World} {g : Nat} {A : Option Addr} {n c : Nat} {cp : Bool} {v : Value} {x : BB} (h : CpSt w wr g A n c cp v x) : CpSt w wr.drew g A n c cp v x :=
  ⟨h.own, h.bel.drew, h.box, h.ret, h.out, h.hg, h.ne⟩
theorem OwnI.headR {w : World} {base : Nat} {v : Value} {zs : List Int} (h : OwnI 3 w base v zs) (h0 : 0 < zs.length) :
    ∃ g cap, v = .slice (some ⟨g, 0, none⟩) zs.length cap ∧ base ≤ g ∧ g < w.heap.size ∧ zs.length ≤ cap := by
  rcases h.2 with ⟨h1, h2⟩ | ⟨g, cap, cur, h1, h2, h3, h4, h5, h6, h7⟩
  · omega
  · have hb : IsBlk w g 3 cur := h3
    exact ⟨g, cap, h1, h2, hb.lt, h4⟩
theorem OwnI.cellR {w : World} {base g n cap : Nat} {zs : List Int} {k : Nat} {x : Int} (h : OwnI 3 w base (.slice (some ⟨g, 0, none⟩) n cap) zs) (hx : zs[k]? = some x) :
    w.cell? ⟨g, k, none⟩ = some (.int .i64 x) ∧ w.frozen? ⟨g, k, none⟩ = false ∧ ∀ z, OwnI 3 (w.setCell ⟨g, k, none⟩ (.int .i64 z)) base (.slice (some ⟨g, 0, none⟩) n cap) (zs.set k z) := by
  have hk : k < zs.length := (List.getElem?_eq_some_iff.1 hx).1
  rcases h.2 with ⟨h1, h2⟩ | ⟨g', cap', cur, h1, h2, h3, h4, h5, h6, h7⟩
  · omega
  · injection h1 with e1 e2 e3
    injection e1 with e1
    injection e1 with e1 _ _
    subst e1 e2 e3
    have hb : IsBlk w g 3 cur := h3
    rw [Nat.mul_one] at h7
    have hcs : k < cur.size := by omega
    refine ⟨?_, hb.thaw k, fun z => ?_⟩
    · rw [hb.cell, ← Array.getElem?_toList]
      have : (cur.toList.take zs.length)[k]? = some (.int .i64 x) := by rw [h7, List.getElem?_map, hx]; rfl
      rwa [List.getElem?_take_of_lt hk] at this
    · refine OwnI.mk_ (by simp) h2 (hb.put k (.int .i64 z)) h4 h5 (by simpa using h6) ?_
      rw [Array.toList_setIfInBounds, List.take_set, h7, List.map_set]
theorem CpSt.side {w wr : World} {g g1 m cap : Nat} {A : Option Addr} {n c : Nat} {cp : Bool} {x : BB} {k : Nat} {s : Int} (h : CpSt w wr g A n c cp (.slice (some ⟨g1, 0, none⟩) m cap) x) (hk : x.1[k]? = some s) (z : Int) :
    CpSt w (wr.setCell ⟨g1, k, none⟩ (.int .i64 z)) g A n c cp (.slice (some ⟨g1, 0, none⟩) m cap) (x.1.set k z, x.2) := by
  have h1 := h.ne g1 (by simp [Value.ownBlock])
  have h2 := (OwnI.lt h.own g1 (by simp [Value.ownBlock])).1
  exact ⟨(OwnI.cellR h.own hk).2.2 z, h.bel.setCell (show w.heap.size ≤ g1 by omega) _, h.box.far (p := ⟨g1, k, none⟩) (show w.heap.size ≠ g1 by omega) _,
    h.ret.far (p := ⟨g1, k, none⟩) (show w.heap.size + 1 ≠ g1 by omega) _, h.out.far (p := ⟨g1, k, none⟩) (fun e => h1 e.symm) _, h.hg, h.ne⟩
/-- A deed of an isolator. -/
theorem deed_side {ss : List Int} {cp : Bool} {q j e : Nat} {s : Int} (hs : ss[q]? = some s) (hj : j = 1 ∨ j = 2) (he : e < 2) :
    mayR (ss, cp) ((2 * (2 * q + j) + e : Nat) : Int) = (!(onP s j == (e == 1)) && brsOk (ss.set q (flipS s j), cp)) ∧
      (mayR (ss, cp) ((2 * (2 * q + j) + e : Nat) : Int) = true → doR (ss, cp) ((2 * (2 * q + j) + e : Nat) : Int) = (ss.set q (flipS s j), cp)) := by
  have hl := (List.getElem?_eq_some_iff.1 hs).1
  have e1 : (2 * (2 * q + j) + e) / 2 = 2 * q + j := by omega
  have e2 : (2 * (2 * q + j) + e) % 2 = e := by omega
  have e3 : (2 * q + j - 1) / 2 = q := by omega
  have e4 : ss.getD q 0 = s := by rw [List.getD_eq_getElem?_getD, hs]; rfl
  have e5 : onP s (2 * q + j) = onP s j := by simp only [onP, show (2 * q + j) % 2 = j % 2 by omega]
  have ef : flipR (ss, cp) (2 * q + j) = (ss.set q (flipS s j), cp) := by
    rw [flipR, if_neg (by omega)]
    simp only [e3, e4, flip_par s (show (2 * q + j) % 2 = j % 2 by omega)]
  have ep : partR (ss, cp) (2 * q + j) = onP s j := by
    rw [partR, if_neg (by omega)]
    simp only [e3, e4, e5]
  refine ⟨?_, fun h => by rw [doR, if_pos h, Int.toNat_natCast, e1, ef]⟩
  rw [mayR, decide_eq_true (by omega), decide_eq_true (by simp only; omega), Int.toNat_natCast, e1, e2, ef, ep]; rfl

set_option maxRecDepth 100000 in
set_option maxHeartbeats 8000000 in
theorem specBarsDo_any (A : Option Addr) (n c : Nat) (ss : List Int) (cp : Bool) (d : Int) (w : World) (hn : n ≤ 1048576) (hr : RowZ w A n ss) (hdr : d ≤ 9223372036854775807) :
    Calls Tryd.prog 64 #[.agg #[.slice A n c, .bool cp], .int .i64 d] w fun e w' => ∃ v, e = .returned (.tuple #[vR v (bdF (ss, cp) d).2, .bool (bdB (ss, cp) d)]) ∧ OwnI 3 w' w.heap.size v (bdF (ss, cp) d).1 ∧ Below w.heap.size w w' := by
  have HR := Lib.hid hr
  have HL := Lib.hid hr.len
  have b0 : Below w.heap.size w ((w.alloc (.cells #[.slice A n c, .bool cp] 25)).alloc (.cells #[.slice none 0 0, .bool false] 25)) := (below_bx w _).alloc (by simp) _
  have KA := Lib.hid ((IsBlk.new w 25 #[.slice A n c, .bool cp]).alloc (.cells #[.slice none 0 0, .bool false] 25))
  have KR := Lib.hid (IsBlk.new (w.alloc (.cells #[.slice A n c, .bool cp] 25)) 25 #[.slice none 0 0, .bool false])
  simp only [World.size_alloc] at KR
  obtain ⟨p0, p1, -⟩ := KA.out.two
  clear hr
  by_cases hok : brsOk (ss, cp) = true
  · have HOK := Lib.hid hok
    have hn6 : 1 ≤ n ∧ n ≤ 6 := by have := brs_len hok; rw [← HL.out]; exact this
    obtain ⟨hn1, hn6⟩ := hn6
    have hn1' : (1 : Int) ≤ (n : Int) := by omega
    have hn6' : (n : Int) ≤ 6 := by omega
    clear hok
    go_enter Tryd.func64, Tryd.ntmps64
    go_wp2_with fail
    refine (specBarsValid_any A n c ss cp _ hn (HR.out.below b0)).mono ?_
    rintro e w1 ⟨rfl, hb1⟩
    rw [HOK.out]
    have K1 := Lib.hid (KA.out.keep hb1)
    have R1 := Lib.hid (KR.out.keep hb1)
    have b1 : Below w.heap.size w w1 := b0.trans (hb1.mono b0.size)
    clear p0 p1 hb1 KA KR
    obtain ⟨p0, p1, -⟩ := K1.out.two
    go_wp2_with fail
    refine (specCopy_any A n c ss cp _ hn1 hn (HR.out.below b1)).mono ?_
    rintro e w2 ⟨v1, rfl, hO, hb2⟩
    dsimp only [vR]
    obtain ⟨A1, c1, rfl⟩ := OwnI.shape hO
    rw [HL.out] at hO ⊢
    have hs1 := R1.out.lt
    have hs2 := hb2.size
    have S2 := Lib.hid (show CpSt w (w2.alloc (.cells #[.slice A1 n c1, .bool cp] 25)) w2.heap.size A n c cp (.slice A1 n c1) (ss, cp) from
      ⟨OwnI.alloc (OwnI.moreR hO (by omega)) _, (b1.trans (hb2.mono b1.size)).alloc (b1.trans (hb2.mono b1.size)).size _, (K1.out.keep hb2).alloc _, (R1.out.keep hb2).alloc _, IsBlk.new w2 _ _, by omega, fun q hq => by have := (OwnI.lt hO q hq).2; omega⟩)
    clear hO hb2 b1 K1 R1 p0 p1 hs1 hs2
    go_upto_region 4 with fail
    generalize w2.heap.size = g at *
    generalize w2.alloc (.cells #[.slice A1 n c1, .bool cp] 25) = w3 at *
    obtain ⟨p0, p1, -⟩ := S2.out.box.two
    obtain ⟨q0, q1, u0, u1⟩ := S2.out.out.two
    obtain ⟨r0, r1, s0, s1⟩ := S2.out.ret.two
    by_cases h0 : d = 0
    · subst h0
      have S3 := Lib.hid (S2.out.coup false)
      have HM0 := Lib.hid (show mayR (ss, cp) 0 = (!(cp == false) && brsOk (ss, !cp)) by
        rw [mayR, decide_eq_true (by decide), decide_eq_true (by simp only; rw [HL.out]; omega)]; rfl)
      go_upto_region 15 with fail
      clear p0 p1 q0 q1 u0 u1 r0 r1 s0 s1
      generalize w3.setCell ⟨g, 1, none⟩ (.bool false) = wx at *
      obtain ⟨q0, q1, -⟩ := S3.out.out.two
      by_cases hv : brsOk (ss, false) = true
      · by_cases hc : cp = true
        · subst hc
          have HM := Lib.hid (show mayR (ss, true) 0 = true by rw [HM0.out]; show (!(_ == _) && brsOk (ss, false)) = true; rw [hv]; rfl)
          have HF := Lib.hid (show bdF (ss, true) 0 = (ss, false) by rw [bdF, if_pos HOK.out, doR, if_pos HM.out]; rfl)
          have HB := Lib.hid (show bdB (ss, true) 0 = true by rw [bdB, HM.out, HOK.out]; rfl)
          go_wp2_with fail
          refine (specBarsValid_any _ n c1 _ _ _ hn (OwnI.rowZ S3.out.own)).mono ?_
          rintro e w4 ⟨rfl, hb4⟩
          rw [hv]
          have S4 := Lib.hid (S3.out.next hb4)
          clear q0 q1
          obtain ⟨p0, p1, -⟩ := S4.out.box.two
          obtain ⟨q0, q1, -⟩ := S4.out.out.two
          obtain ⟨r0, r1, s0, s1⟩ := S4.out.ret.two
          go_wp2
          refine bodyPost_ret (v := .tuple #[vR (.slice A1 n c1) false, .bool true]) (by simp [results, Tryd.results64, go_sem, r0, r1, vR]) rfl ⟨_, by rw [HF.out, HB.out], by rw [HF.out]; exact (S4.out.done _ _).1, (S4.out.done _ _).2⟩
        · have hc' : cp = false := by cases cp <;> simp_all
          subst hc'
          have HM := Lib.hid (show mayR (ss, false) 0 = false by rw [HM0.out]; rfl)
          have HF := Lib.hid (show bdF (ss, false) 0 = (ss, false) by rw [bdF, if_pos HOK.out, doR, if_neg (by rw [HM.out]; simp)])
          have HB := Lib.hid (show bdB (ss, false) 0 = false by rw [bdB, HM.out, Bool.and_false])
          go_wp2_with fail
          refine (specBarsValid_any _ n c1 _ _ _ hn (OwnI.rowZ S3.out.own)).mono ?_
          rintro e w4 ⟨rfl, hb4⟩
          rw [hv]
          have S4 := Lib.hid (S3.out.next hb4)
          clear q0 q1
          obtain ⟨p0, p1, -⟩ := S4.out.box.two
          obtain ⟨q0, q1, -⟩ := S4.out.out.two
          obtain ⟨p0, p1, -⟩ := S4.out.box.two
          obtain ⟨q0, q1, -⟩ := S4.out.out.two
          go_wp2_with fail
          refine (specCopy_any _ n c ss _ _ hn1 hn (HR.out.below S4.out.bel)).mono ?_
          rintro e w5 ⟨v2, rfl, hO, hb5⟩
          dsimp only [vR]
          obtain ⟨A2, c2, rfl⟩ := OwnI.shape hO
          rw [HL.out] at hO ⊢
          have S5 := Lib.hid (S4.out.next hb5)
          have h4 := S4.out.ret.lt
          have O5 := Lib.hid (OwnI.moreR (base' := w.heap.size + 2) hO h4)
          obtain ⟨r0, r1, s0, s1⟩ := S5.out.ret.two
          clear hO hb5 p0 p1 q0 q1
          go_wp2
          refine bodyPost_ret (v := .tuple #[vR (.slice A2 n c2) false, .bool false]) (by simp [results, Tryd.results64, go_sem, r0, r1, vR]) rfl ⟨_, by rw [HF.out, HB.out], ?_, below_two S5.out.bel (by omega) _ _⟩
          rw [HF.out]
          exact OwnI.ret2 (OwnI.moreR O5.out (by omega)) (fun q hq => by have := (OwnI.lt O5.out q hq).1; omega) _ _
      · rw [Bool.not_eq_true] at hv
        have hc : cp = true := by cases cp <;> first | rfl | (exfalso; rw [HOK.out] at hv; cases hv)
        subst hc
        have HM := Lib.hid (show mayR (ss, true) 0 = false by rw [HM0.out]; show (!(_ == _) && brsOk (ss, false)) = false; rw [hv, Bool.and_false])
        have HF := Lib.hid (show bdF (ss, true) 0 = (ss, true) by rw [bdF, if_pos HOK.out, doR, if_neg (by rw [HM.out]; simp)])
        have HB := Lib.hid (show bdB (ss, true) 0 = false by rw [bdB, HM.out, Bool.and_false])
        go_wp2_with fail
        refine (specBarsValid_any _ n c1 _ _ _ hn (OwnI.rowZ S3.out.own)).mono ?_
        rintro e w4 ⟨rfl, hb4⟩
        rw [hv]
        have S4 := Lib.hid (S3.out.next hb4)
        obtain ⟨p0, p1, -⟩ := S4.out.box.two
        obtain ⟨q0, q1, -⟩ := S4.out.out.two
        go_wp2_with fail
        refine (specCopy_any _ n c ss _ _ hn1 hn (HR.out.below S4.out.bel)).mono ?_
        rintro e w5 ⟨v2, rfl, hO, hb5⟩
        dsimp only [vR]
        obtain ⟨A2, c2, rfl⟩ := OwnI.shape hO
        rw [HL.out] at hO ⊢
        have S5 := Lib.hid (S4.out.next hb5)
        have h4 := S4.out.ret.lt
        have O5 := Lib.hid (OwnI.moreR (base' := w.heap.size + 2) hO h4)
        obtain ⟨r0, r1, s0, s1⟩ := S5.out.ret.two
        clear hO hb5 p0 p1 q0 q1
        go_wp2
        refine bodyPost_ret (v := .tuple #[vR (.slice A2 n c2) true, .bool false]) (by simp [results, Tryd.results64, go_sem, r0, r1, vR]) rfl ⟨_, by rw [HF.out, HB.out], ?_, below_two S5.out.bel (by omega) _ _⟩
        rw [HF.out]
        exact OwnI.ret2 (OwnI.moreR O5.out (by omega)) (fun q hq => by have := (OwnI.lt O5.out q hq).1; omega) _ _
    by_cases h1 : d = 1
    · subst h1
      have S3 := Lib.hid (S2.out.coup true)
      have HM0 := Lib.hid (show mayR (ss, cp) 1 = (!(cp == true) && brsOk (ss, !cp)) by
        rw [mayR, decide_eq_true (by decide), decide_eq_true (by simp only; rw [HL.out]; omega)]; rfl)
      go_upto_region 15 with fail
      clear p0 p1 q0 q1 u0 u1 r0 r1 s0 s1
      generalize w3.setCell ⟨g, 1, none⟩ (.bool true) = wx at *
      obtain ⟨q0, q1, -⟩ := S3.out.out.two
      by_cases hv : brsOk (ss, true) = true
      · by_cases hc : cp = false
        · subst hc
          have HM := Lib.hid (show mayR (ss, false) 1 = true by rw [HM0.out]; show (!(_ == _) && brsOk (ss, true)) = true; rw [hv]; rfl)
          have HF := Lib.hid (show bdF (ss, false) 1 = (ss, true) by rw [bdF, if_pos HOK.out, doR, if_pos HM.out]; rfl)
          have HB := Lib.hid (show bdB (ss, false) 1 = true by rw [bdB, HM.out, HOK.out]; rfl)
          go_wp2_with fail
          refine (specBarsValid_any _ n c1 _ _ _ hn (OwnI.rowZ S3.out.own)).mono ?_
          rintro e w4 ⟨rfl, hb4⟩
          rw [hv]
          have S4 := Lib.hid (S3.out.next hb4)
          clear q0 q1
          obtain ⟨p0, p1, -⟩ := S4.out.box.two
          obtain ⟨q0, q1, -⟩ := S4.out.out.two
          obtain ⟨r0, r1, s0, s1⟩ := S4.out.ret.two
          go_wp2
          refine bodyPost_ret (v := .tuple #[vR (.slice A1 n c1) true, .bool true]) (by simp [results, Tryd.results64, go_sem, r0, r1, vR]) rfl ⟨_, by rw [HF.out, HB.out], by rw [HF.out]; exact (S4.out.done _ _).1, (S4.out.done _ _).2⟩
        · have hc' : cp = true := by cases cp <;> simp_all
          subst hc'
          have HM := Lib.hid (show mayR (ss, true) 1 = false by rw [HM0.out]; rfl)
          have HF := Lib.hid (show bdF (ss, true) 1 = (ss, true) by rw [bdF, if_pos HOK.out, doR, if_neg (by rw [HM.out]; simp)])
          have HB := Lib.hid (show bdB (ss, true) 1 = false by rw [bdB, HM.out, Bool.and_false])
          go_wp2_with fail
          refine (specBarsValid_any _ n c1 _ _ _ hn (OwnI.rowZ S3.out.own)).mono ?_
          rintro e w4 ⟨rfl, hb4⟩
          rw [hv]
          have S4 := Lib.hid (S3.out.next hb4)
          clear q0 q1
          obtain ⟨p0, p1, -⟩ := S4.out.box.two
          obtain ⟨q0, q1, -⟩ := S4.out.out.two
          obtain ⟨p0, p1, -⟩ := S4.out.box.two
          obtain ⟨q0, q1, -⟩ := S4.out.out.two
          go_wp2_with fail
          refine (specCopy_any _ n c ss _ _ hn1 hn (HR.out.below S4.out.bel)).mono ?_
          rintro e w5 ⟨v2, rfl, hO, hb5⟩
          dsimp only [vR]
          obtain ⟨A2, c2, rfl⟩ := OwnI.shape hO
          rw [HL.out] at hO ⊢
          have S5 := Lib.hid (S4.out.next hb5)
          have h4 := S4.out.ret.lt
          have O5 := Lib.hid (OwnI.moreR (base' := w.heap.size + 2) hO h4)
          obtain ⟨r0, r1, s0, s1⟩ := S5.out.ret.two
          clear hO hb5 p0 p1 q0 q1
          go_wp2
          refine bodyPost_ret (v := .tuple #[vR (.slice A2 n c2) true, .bool false]) (by simp [results, Tryd.results64, go_sem, r0, r1, vR]) rfl ⟨_, by rw [HF.out, HB.out], ?_, below_two S5.out.bel (by omega) _ _⟩
          rw [HF.out]
          exact OwnI.ret2 (OwnI.moreR O5.out (by omega)) (fun q hq => by have := (OwnI.lt O5.out q hq).1; omega) _ _
      · rw [Bool.not_eq_true] at hv
        have hc : cp = false := by cases cp <;> first | rfl | (exfalso; rw [HOK.out] at hv; cases hv)
        subst hc
        have HM := Lib.hid (show mayR (ss, false) 1 = false by rw [HM0.out]; show (!(_ == _) && brsOk (ss, true)) = false; rw [hv, Bool.and_false])
        have HF := Lib.hid (show bdF (ss, false) 1 = (ss, false) by rw [bdF, if_pos HOK.out, doR, if_neg (by rw [HM.out]; simp)])
        have HB := Lib.hid (show bdB (ss, false) 1 = false by rw [bdB, HM.out, Bool.and_false])
        go_wp2_with fail
        refine (specBarsValid_any _ n c1 _ _ _ hn (OwnI.rowZ S3.out.own)).mono ?_
        rintro e w4 ⟨rfl, hb4⟩
        rw [hv]
        have S4 := Lib.hid (S3.out.next hb4)
        obtain ⟨p0, p1, -⟩ := S4.out.box.two
        obtain ⟨q0, q1, -⟩ := S4.out.out.two
        go_wp2_with fail
        refine (specCopy_any _ n c ss _ _ hn1 hn (HR.out.below S4.out.bel)).mono ?_
        rintro e w5 ⟨v2, rfl, hO, hb5⟩
        dsimp only [vR]
        obtain ⟨A2, c2, rfl⟩ := OwnI.shape hO
        rw [HL.out] at hO ⊢
        have S5 := Lib.hid (S4.out.next hb5)
        have h4 := S4.out.ret.lt
        have O5 := Lib.hid (OwnI.moreR (base' := w.heap.size + 2) hO h4)
        obtain ⟨r0, r1, s0, s1⟩ := S5.out.ret.two
        clear hO hb5 p0 p1 q0 q1
        go_wp2
        refine bodyPost_ret (v := .tuple #[vR (.slice A2 n c2) false, .bool false]) (by simp [results, Tryd.results64, go_sem, r0, r1, vR]) rfl ⟨_, by rw [HF.out, HB.out], ?_, below_two S5.out.bel (by omega) _ _⟩
        rw [HF.out]
        exact OwnI.ret2 (OwnI.moreR O5.out (by omega)) (fun q hq => by have := (OwnI.lt O5.out q hq).1; omega) _ _
    have hd0 : (d == 0) = false := by simp; omega
    have hd1 : (d == 1) = false := by simp; omega
    by_cases hlo : d < 0
    · have HM := Lib.hid (show mayR (ss, cp) d = false by rw [mayR, decide_eq_false (by omega)]; rfl)
      have HF := Lib.hid (show bdF (ss, cp) d = (ss, cp) by rw [bdF, if_pos HOK.out, doR, if_neg (by rw [HM.out]; simp)])
      have HB := Lib.hid (show bdB (ss, cp) d = false by rw [bdB, HM.out, Bool.and_false])
      go_wp2
      refine bodyPost_ret (v := .tuple #[vR (.slice A1 n c1) cp, .bool false]) (by simp [results, Tryd.results64, go_sem, r0, r1, vR]) rfl ⟨_, by rw [HF.out, HB.out], by rw [HF.out]; exact (S2.out.done _ _).1, (S2.out.done _ _).2⟩
    by_cases hhi : 4 * (n : Int) + 2 ≤ d
    · have HM := Lib.hid (show mayR (ss, cp) d = false by rw [mayR, decide_eq_true (show (0 : Int) ≤ d by omega), decide_eq_false (by simp only; rw [HL.out]; omega)]; rfl)
      have HF := Lib.hid (show bdF (ss, cp) d = (ss, cp) by rw [bdF, if_pos HOK.out, doR, if_neg (by rw [HM.out]; simp)])
      have HB := Lib.hid (show bdB (ss, cp) d = false by rw [bdB, HM.out, Bool.and_false])
      have hd2 : (2 : Int) ≤ d := by omega
      have hqn : (n : Int) ≤ (d - 2) / 4 := by omega
      go_wp2
      refine bodyPost_ret (v := .tuple #[vR (.slice A1 n c1) cp, .bool false]) (by simp [results, Tryd.results64, go_sem, r0, r1, vR]) rfl ⟨_, by rw [HF.out, HB.out], by rw [HF.out]; exact (S2.out.done _ _).1, (S2.out.done _ _).2⟩
    have hd2 : (2 : Int) ≤ d := by omega
    obtain ⟨q, j, e, hde, hj, he⟩ : ∃ q j e : Nat, d = ((2 * (2 * q + j) + e : Nat) : Int) ∧ (j = 1 ∨ j = 2) ∧ e < 2 :=
      ⟨((d - 2) / 4).toNat, (1 + (d - 2) / 2 % 2).toNat, (d % 2).toNat, by omega, by omega, by omega⟩
    have hqn : q < n := by omega
    have hq : (d - 2) / 4 = (q : Int) := by omega
    have hjj : (d - 2) / 2 % 2 = (j : Int) - 1 := by omega
    have hee : d % 2 = (e : Int) := by omega
    have hqi0 : (0 : Int) ≤ (q : Int) := by omega
    have hqi1 : (q : Int) < (n : Int) := by omega
    have hqi2 : ¬ (n : Int) ≤ (q : Int) := by omega
    obtain ⟨b, off, s, rfl, hb, hs, c0⟩ := HR.out.at_ hqn
    replace c0 := (S2.out.bel.cell (p := ⟨b, off + q, none⟩) hb).trans c0
    obtain ⟨g1, cap, hA, hg1, hgs, hcap⟩ := OwnI.headR S2.out.own (by simp only; rw [HL.out]; omega)
    simp only at hA hcap
    rw [HL.out] at hA hcap
    injection hA with hA1 hA2 hA3
    subst hA1 hA3
    obtain ⟨d0, f0, -⟩ := OwnI.cellR S2.out.own (show (ss, cp).1[q]? = some s from hs)
    have hsi := side_in (brs_side HOK.out (show (ss, cp).1[q]? = some s from hs))
    have hs1 : 1 ≤ s := hsi.1
    have hs3 : s ≤ 3 := hsi.2.1
    have DS := Lib.hid (deed_side (cp := cp) hs hj he)
    rw [← hde] at DS
    have HS := Lib.hid hs
    have HRB := Lib.hid (fun (W : World) (hW : Below w.heap.size w W) => HR.out.below hW)
    clear hde hsi hs hA2 hlo hhi h0 h1
    rcases hj with rfl | rfl
    · obtain he' | he' : e = 0 ∨ e = 1 := by omega
      · subst he'
        replace hjj : (d - 2) / 2 % 2 = 0 := by omega
        replace hee : d % 2 = 0 := by omega
        clear he
        by_cases hcmp : s % 2 = 0
        · have hcb : (s % 2 == 0) = true := by simp [hcmp]
          have HM := Lib.hid (show mayR (ss, cp) d = false by rw [DS.out.1, show onP s 1 = false by simp only [onP]; rw [if_pos (by decide)]; simp; omega]; rfl)
          have HF := Lib.hid (show bdF (ss, cp) d = (ss, cp) by rw [bdF, if_pos HOK.out, doR, if_neg (by rw [HM.out]; simp)])
          have HB := Lib.hid (show bdB (ss, cp) d = false by rw [bdB, HM.out, Bool.and_false])
          clear hcmp
          go_wp2
          refine bodyPost_ret (v := .tuple #[vR (.slice (some ⟨g1, 0, none⟩) n c1) cp, .bool false]) (by simp [results, Tryd.results64, go_sem, r0, r1, vR]) rfl ⟨_, by rw [HF.out, HB.out], by rw [HF.out]; exact (S2.out.done _ _).1, (S2.out.done _ _).2⟩
        · have hcb : (s % 2 == 0) = false := by simpa using hcmp
          have hfl : flipS s 1 = s - 1 := by simp only [flipS]; rw [if_pos (by decide)]; split <;> omega
          have HM0 := Lib.hid (show mayR (ss, cp) d = brsOk (ss.set q (s - 1), cp) by rw [DS.out.1, hfl, show onP s 1 = true by simp only [onP]; rw [if_pos (by decide)]; simp; omega]; rfl)
          have HDO := Lib.hid (show mayR (ss, cp) d = true → doR (ss, cp) d = (ss.set q (s - 1), cp) by have := DS.out.2; rwa [hfl] at this)
          have S3 := Lib.hid (S2.out.side HS.out (s - 1))
          clear hfl hcmp
          go_upto_region 14 with fail
          obtain ⟨t0, t1, t2⟩ : w3.drew.cell? ⟨w.heap.size, 0, none⟩ = some (.slice (some ⟨b, off, none⟩) n c) ∧ w3.drew.cell? ⟨b, off + q, none⟩ = some (.int .i64 s) ∧ w3.drew.cell? ⟨g, 0, none⟩ = some (.slice (some ⟨g1, 0, none⟩) n c1) := ⟨p0, c0, q0⟩
          obtain ⟨t3, t4⟩ : w3.drew.cell? ⟨g1, q, none⟩ = some (.int .i64 s) ∧ w3.drew.frozen? ⟨g1, q, none⟩ = false := ⟨d0, f0⟩
          go_region
          go_upto_region 15 with fail
          have S3D := Lib.hid S3.out.drew
          clear S3 t0 t1 t2 t3 t4 p0 p1 q0 q1 u0 u1 r0 r1 s0 s1 c0 d0 f0
          generalize (w3.setCell ⟨g1, q, none⟩ (.int .i64 (s - 1))).drew = wx at *
          dsimp only at S3D
          obtain ⟨q0, q1, -⟩ := S3D.out.out.two
          by_cases hv : brsOk (ss.set q (s - 1), cp) = true
          · have HM := Lib.hid (show mayR (ss, cp) d = true from HM0.out.trans hv)
            have HF := Lib.hid (show bdF (ss, cp) d = (ss.set q (s - 1), cp) by rw [bdF, if_pos HOK.out]; exact HDO.out HM.out)
            have HB := Lib.hid (show bdB (ss, cp) d = true by rw [bdB, HM.out, HOK.out]; rfl)
            go_wp2_with fail
            refine (specBarsValid_any _ n c1 _ _ _ hn (OwnI.rowZ S3D.out.own)).mono ?_
            rintro e w4 ⟨rfl, hb4⟩
            rw [hv]
            have S4 := Lib.hid (S3D.out.next hb4)
            clear q0 q1
            obtain ⟨q0, q1, -⟩ := S4.out.out.two
            obtain ⟨r0, r1, s0, s1⟩ := S4.out.ret.two
            go_wp2
            refine bodyPost_ret (v := .tuple #[vR (.slice (some ⟨g1, 0, none⟩) n c1) cp, .bool true]) (by simp [results, Tryd.results64, go_sem, r0, r1, vR]) rfl ⟨_, by rw [HF.out, HB.out], by rw [HF.out]; exact (S4.out.done _ _).1, (S4.out.done _ _).2⟩
          · rw [Bool.not_eq_true] at hv
            have HM := Lib.hid (show mayR (ss, cp) d = false from HM0.out.trans hv)
            have HF := Lib.hid (show bdF (ss, cp) d = (ss, cp) by rw [bdF, if_pos HOK.out, doR, if_neg (by rw [HM.out]; simp)])
            have HB := Lib.hid (show bdB (ss, cp) d = false by rw [bdB, HM.out, Bool.and_false])
            go_wp2_with fail
            refine (specBarsValid_any _ n c1 _ _ _ hn (OwnI.rowZ S3D.out.own)).mono ?_
            rintro e w4 ⟨rfl, hb4⟩
            rw [hv]
            have S4 := Lib.hid (S3D.out.next hb4)
            clear q0 q1
            obtain ⟨p0, p1, -⟩ := S4.out.box.two
            obtain ⟨q0, q1, -⟩ := S4.out.out.two
            go_wp2_with fail
            refine (specCopy_any _ n c ss _ _ hn1 hn (HR.out.below S4.out.bel)).mono ?_
            rintro e w5 ⟨v2, rfl, hO, hb5⟩
            dsimp only [vR]
            obtain ⟨A2, c2, rfl⟩ := OwnI.shape hO
            rw [HL.out] at hO ⊢
            have S5 := Lib.hid (S4.out.next hb5)
            have h4 := S4.out.ret.lt
            have O5 := Lib.hid (OwnI.moreR (base' := w.heap.size + 2) hO h4)
            obtain ⟨r0, r1, s0, s1⟩ := S5.out.ret.two
            clear hO hb5 p0 p1 q0 q1
            go_wp2
            refine bodyPost_ret (v := .tuple #[vR (.slice A2 n c2) cp, .bool false]) (by simp [results, Tryd.results64, go_sem, r0, r1, vR]) rfl ⟨_, by rw [HF.out, HB.out], ?_, below_two S5.out.bel (by omega) _ _⟩
            rw [HF.out]
            exact OwnI.ret2 (OwnI.moreR O5.out (by omega)) (fun q hq => by have := (OwnI.lt O5.out q hq).1; omega) _ _
      · subst he'
        replace hjj : (d - 2) / 2 % 2 = 0 := by omega
        replace hee : d % 2 = 1 := by omega
        clear he
        by_cases hcmp : s % 2 = 1
        · have hcb : (s % 2 == 1) = true := by simp [hcmp]
          have HM := Lib.hid (show mayR (ss, cp) d = false by rw [DS.out.1, show onP s 1 = true by simp only [onP]; rw [if_pos (by decide)]; simp; omega]; rfl)
          have HF := Lib.hid (show bdF (ss, cp) d = (ss, cp) by rw [bdF, if_pos HOK.out, doR, if_neg (by rw [HM.out]; simp)])
          have HB := Lib.hid (show bdB (ss, cp) d = false by rw [bdB, HM.out, Bool.and_false])
          clear hcmp
          go_wp2
          refine bodyPost_ret (v := .tuple #[vR (.slice (some ⟨g1, 0, none⟩) n c1) cp, .bool false]) (by simp [results, Tryd.results64, go_sem, r0, r1, vR]) rfl ⟨_, by rw [HF.out, HB.out], by rw [HF.out]; exact (S2.out.done _ _).1, (S2.out.done _ _).2⟩
        · have hcb : (s % 2 == 1) = false := by simpa using hcmp
          have hfl : flipS s 1 = s + 1 := by simp only [flipS]; rw [if_pos (by decide)]; split <;> omega
          have HM0 := Lib.hid (show mayR (ss, cp) d = brsOk (ss.set q (s + 1), cp) by rw [DS.out.1, hfl, show onP s 1 = false by simp only [onP]; rw [if_pos (by decide)]; simp; omega]; rfl)
          have HDO := Lib.hid (show mayR (ss, cp) d = true → doR (ss, cp) d = (ss.set q (s + 1), cp) by have := DS.out.2; rwa [hfl] at this)
          have S3 := Lib.hid (S2.out.side HS.out (s + 1))
          clear hfl hcmp
          go_upto_region 13 with fail
          obtain ⟨t0, t1, t2⟩ : w3.drew.cell? ⟨w.heap.size, 0, none⟩ = some (.slice (some ⟨b, off, none⟩) n c) ∧ w3.drew.cell? ⟨b, off + q, none⟩ = some (.int .i64 s) ∧ w3.drew.cell? ⟨g, 0, none⟩ = some (.slice (some ⟨g1, 0, none⟩) n c1) := ⟨p0, c0, q0⟩
          obtain ⟨t3, t4⟩ : w3.drew.cell? ⟨g1, q, none⟩ = some (.int .i64 s) ∧ w3.drew.frozen? ⟨g1, q, none⟩ = false := ⟨d0, f0⟩
          go_region
          go_upto_region 15 with fail
          have S3D := Lib.hid S3.out.drew
          clear S3 t0 t1 t2 t3 t4 p0 p1 q0 q1 u0 u1 r0 r1 s0 s1 c0 d0 f0
          generalize (w3.setCell ⟨g1, q, none⟩ (.int .i64 (s + 1))).drew = wx at *
          dsimp only at S3D
          obtain ⟨q0, q1, -⟩ := S3D.out.out.two
          by_cases hv : brsOk (ss.set q (s + 1), cp) = true
          · have HM := Lib.hid (show mayR (ss, cp) d = true from HM0.out.trans hv)
            have HF := Lib.hid (show bdF (ss, cp) d = (ss.set q (s + 1), cp) by rw [bdF, if_pos HOK.out]; exact HDO.out HM.out)
            have HB := Lib.hid (show bdB (ss, cp) d = true by rw [bdB, HM.out, HOK.out]; rfl)
            go_wp2_with fail
            refine (specBarsValid_any _ n c1 _ _ _ hn (OwnI.rowZ S3D.out.own)).mono ?_
            rintro e w4 ⟨rfl, hb4⟩
            rw [hv]
            have S4 := Lib.hid (S3D.out.next hb4)
            clear q0 q1
            obtain ⟨q0, q1, -⟩ := S4.out.out.two
            obtain ⟨r0, r1, s0, s1⟩ := S4.out.ret.two
            go_wp2
            refine bodyPost_ret (v := .tuple #[vR (.slice (some ⟨g1, 0, none⟩) n c1) cp, .bool true]) (by simp [results, Tryd.results64, go_sem, r0, r1, vR]) rfl ⟨_, by rw [HF.out, HB.out], by rw [HF.out]; exact (S4.out.done _ _).1, (S4.out.done _ _).2⟩
          · rw [Bool.not_eq_true] at hv
            have HM := Lib.hid (show mayR (ss, cp) d = false from HM0.out.trans hv)
            have HF := Lib.hid (show bdF (ss, cp) d = (ss, cp) by rw [bdF, if_pos HOK.out, doR, if_neg (by rw [HM.out]; simp)])
            have HB := Lib.hid (show bdB (ss, cp) d = false by rw [bdB, HM.out, Bool.and_false])
            go_wp2_with fail
            refine (specBarsValid_any _ n c1 _ _ _ hn (OwnI.rowZ S3D.out.own)).mono ?_
            rintro e w4 ⟨rfl, hb4⟩
            rw [hv]
            have S4 := Lib.hid (S3D.out.next hb4)
            clear q0 q1
            obtain ⟨p0, p1, -⟩ := S4.out.box.two
            obtain ⟨q0, q1, -⟩ := S4.out.out.two
            go_wp2_with fail
            refine (specCopy_any _ n c ss _ _ hn1 hn (HR.out.below S4.out.bel)).mono ?_
            rintro e w5 ⟨v2, rfl, hO, hb5⟩
            dsimp only [vR]
            obtain ⟨A2, c2, rfl⟩ := OwnI.shape hO
            rw [HL.out] at hO ⊢
            have S5 := Lib.hid (S4.out.next hb5)
            have h4 := S4.out.ret.lt
            have O5 := Lib.hid (OwnI.moreR (base' := w.heap.size + 2) hO h4)
            obtain ⟨r0, r1, s0, s1⟩ := S5.out.ret.two
            clear hO hb5 p0 p1 q0 q1
            go_wp2
            refine bodyPost_ret (v := .tuple #[vR (.slice A2 n c2) cp, .bool false]) (by simp [results, Tryd.results64, go_sem, r0, r1, vR]) rfl ⟨_, by rw [HF.out, HB.out], ?_, below_two S5.out.bel (by omega) _ _⟩
            rw [HF.out]
            exact OwnI.ret2 (OwnI.moreR O5.out (by omega)) (fun q hq => by have := (OwnI.lt O5.out q hq).1; omega) _ _
    · obtain he' | he' : e = 0 ∨ e = 1 := by omega
      · subst he'
        replace hjj : (d - 2) / 2 % 2 = 1 := by omega
        replace hee : d % 2 = 0 := by omega
        clear he
        by_cases hcmp : s / 2 % 2 = 0
        · have hcb : (s / 2 % 2 == 0) = true := by simp [hcmp]
          have HM := Lib.hid (show mayR (ss, cp) d = false by rw [DS.out.1, show onP s 2 = false by simp only [onP]; rw [if_neg (by decide)]; simp; omega]; rfl)
          have HF := Lib.hid (show bdF (ss, cp) d = (ss, cp) by rw [bdF, if_pos HOK.out, doR, if_neg (by rw [HM.out]; simp)])
          have HB := Lib.hid (show bdB (ss, cp) d = false by rw [bdB, HM.out, Bool.and_false])
          clear hcmp
          go_wp2
          refine bodyPost_ret (v := .tuple #[vR (.slice (some ⟨g1, 0, none⟩) n c1) cp, .bool false]) (by simp [results, Tryd.results64, go_sem, r0, r1, vR]) rfl ⟨_, by rw [HF.out, HB.out], by rw [HF.out]; exact (S2.out.done _ _).1, (S2.out.done _ _).2⟩
        · have hcb : (s / 2 % 2 == 0) = false := by simpa using hcmp
          have hfl : flipS s 2 = s - 2 := by simp only [flipS]; rw [if_neg (by decide)]; split <;> omega
          have HM0 := Lib.hid (show mayR (ss, cp) d = brsOk (ss.set q (s - 2), cp) by rw [DS.out.1, hfl, show onP s 2 = true by simp only [onP]; rw [if_neg (by decide)]; simp; omega]; rfl)
          have HDO := Lib.hid (show mayR (ss, cp) d = true → doR (ss, cp) d = (ss.set q (s - 2), cp) by have := DS.out.2; rwa [hfl] at this)
          have S3 := Lib.hid (S2.out.side HS.out (s - 2))
          clear hfl hcmp
          go_upto_region 14 with fail
          obtain ⟨t0, t1, t2⟩ : w3.drew.cell? ⟨w.heap.size, 0, none⟩ = some (.slice (some ⟨b, off, none⟩) n c) ∧ w3.drew.cell? ⟨b, off + q, none⟩ = some (.int .i64 s) ∧ w3.drew.cell? ⟨g, 0, none⟩ = some (.slice (some ⟨g1, 0, none⟩) n c1) := ⟨p0, c0, q0⟩
          obtain ⟨t3, t4⟩ : w3.drew.cell? ⟨g1, q, none⟩ = some (.int .i64 s) ∧ w3.drew.frozen? ⟨g1, q, none⟩ = false := ⟨d0, f0⟩
          go_region
          go_upto_region 15 with fail
          have S3D := Lib.hid S3.out.drew
          clear S3 t0 t1 t2 t3 t4 p0 p1 q0 q1 u0 u1 r0 r1 s0 s1 c0 d0 f0
          generalize (w3.setCell ⟨g1, q, none⟩ (.int .i64 (s - 2))).drew = wx at *
          dsimp only at S3D
          obtain ⟨q0, q1, -⟩ := S3D.out.out.two
          by_cases hv : brsOk (ss.set q (s - 2), cp) = true
          · have HM := Lib.hid (show mayR (ss, cp) d = true from HM0.out.trans hv)
            have HF := Lib.hid (show bdF (ss, cp) d = (ss.set q (s - 2), cp) by rw [bdF, if_pos HOK.out]; exact HDO.out HM.out)
            have HB := Lib.hid (show bdB (ss, cp) d = true by rw [bdB, HM.out, HOK.out]; rfl)
            go_wp2_with fail
            refine (specBarsValid_any _ n c1 _ _ _ hn (OwnI.rowZ S3D.out.own)).mono ?_
            rintro e w4 ⟨rfl, hb4⟩
            rw [hv]
            have S4 := Lib.hid (S3D.out.next hb4)
            clear q0 q1
            obtain ⟨q0, q1, -⟩ := S4.out.out.two
            obtain ⟨r0, r1, s0, s1⟩ := S4.out.ret.two
            go_wp2
            refine bodyPost_ret (v := .tuple #[vR (.slice (some ⟨g1, 0, none⟩) n c1) cp, .bool true]) (by simp [results, Tryd.results64, go_sem, r0, r1, vR]) rfl ⟨_, by rw [HF.out, HB.out], by rw [HF.out]; exact (S4.out.done _ _).1, (S4.out.done _ _).2⟩
          · rw [Bool.not_eq_true] at hv
            have HM := Lib.hid (show mayR (ss, cp) d = false from HM0.out.trans hv)
            have HF := Lib.hid (show bdF (ss, cp) d = (ss, cp) by rw [bdF, if_pos HOK.out, doR, if_neg (by rw [HM.out]; simp)])
            have HB := Lib.hid (show bdB (ss, cp) d = false by rw [bdB, HM.out, Bool.and_false])
            go_wp2_with fail
            refine (specBarsValid_any _ n c1 _ _ _ hn (OwnI.rowZ S3D.out.own)).mono ?_
            rintro e w4 ⟨rfl, hb4⟩
            rw [hv]
            have S4 := Lib.hid (S3D.out.next hb4)
            clear q0 q1
            obtain ⟨p0, p1, -⟩ := S4.out.box.two
            obtain ⟨q0, q1, -⟩ := S4.out.out.two
            go_wp2_with fail
            refine (specCopy_any _ n c ss _ _ hn1 hn (HR.out.below S4.out.bel)).mono ?_
            rintro e w5 ⟨v2, rfl, hO, hb5⟩
            dsimp only [vR]
            obtain ⟨A2, c2, rfl⟩ := OwnI.shape hO
            rw [HL.out] at hO ⊢
            have S5 := Lib.hid (S4.out.next hb5)
            have h4 := S4.out.ret.lt
            have O5 := Lib.hid (OwnI.moreR (base' := w.heap.size + 2) hO h4)
            obtain ⟨r0, r1, s0, s1⟩ := S5.out.ret.two
            clear hO hb5 p0 p1 q0 q1
            go_wp2
            refine bodyPost_ret (v := .tuple #[vR (.slice A2 n c2) cp, .bool false]) (by simp [results, Tryd.results64, go_sem, r0, r1, vR]) rfl ⟨_, by rw [HF.out, HB.out], ?_, below_two S5.out.bel (by omega) _ _⟩
            rw [HF.out]
            exact OwnI.ret2 (OwnI.moreR O5.out (by omega)) (fun q hq => by have := (OwnI.lt O5.out q hq).1; omega) _ _
      · subst he'
        replace hjj : (d - 2) / 2 % 2 = 1 := by omega
        replace hee : d % 2 = 1 := by omega
        clear he
        by_cases hcmp : s / 2 % 2 = 1
        · have hcb : (s / 2 % 2 == 1) = true := by simp [hcmp]
          have HM := Lib.hid (show mayR (ss, cp) d = false by rw [DS.out.1, show onP s 2 = true by simp only [onP]; rw [if_neg (by decide)]; simp; omega]; rfl)
          have HF := Lib.hid (show bdF (ss, cp) d = (ss, cp) by rw [bdF, if_pos HOK.out, doR, if_neg (by rw [HM.out]; simp)])
          have HB := Lib.hid (show bdB (ss, cp) d = false by rw [bdB, HM.out, Bool.and_false])
          clear hcmp
          go_wp2
          refine bodyPost_ret (v := .tuple #[vR (.slice (some ⟨g1, 0, none⟩) n c1) cp, .bool false]) (by simp [results, Tryd.results64, go_sem, r0, r1, vR]) rfl ⟨_, by rw [HF.out, HB.out], by rw [HF.out]; exact (S2.out.done _ _).1, (S2.out.done _ _).2⟩
        · have hcb : (s / 2 % 2 == 1) = false := by simpa using hcmp
          have hfl : flipS s 2 = s + 2 := by simp only [flipS]; rw [if_neg (by decide)]; split <;> omega
          have HM0 := Lib.hid (show mayR (ss, cp) d = brsOk (ss.set q (s + 2), cp) by rw [DS.out.1, hfl, show onP s 2 = false by simp only [onP]; rw [if_neg (by decide)]; simp; omega]; rfl)
          have HDO := Lib.hid (show mayR (ss, cp) d = true → doR (ss, cp) d = (ss.set q (s + 2), cp) by have := DS.out.2; rwa [hfl] at this)
          have S3 := Lib.hid (S2.out.side HS.out (s + 2))
          clear hfl hcmp
          go_upto_region 13 with fail
          obtain ⟨t0, t1, t2⟩ : w3.drew.cell? ⟨w.heap.size, 0, none⟩ = some (.slice (some ⟨b, off, none⟩) n c) ∧ w3.drew.cell? ⟨b, off + q, none⟩ = some (.int .i64 s) ∧ w3.drew.cell? ⟨g, 0, none⟩ = some (.slice (some ⟨g1, 0, none⟩) n c1) := ⟨p0, c0, q0⟩
          obtain ⟨t3, t4⟩ : w3.drew.cell? ⟨g1, q, none⟩ = some (.int .i64 s) ∧ w3.drew.frozen? ⟨g1, q, none⟩ = false := ⟨d0, f0⟩
          go_region
          go_upto_region 15 with fail
          have S3D := Lib.hid S3.out.drew
          clear S3 t0 t1 t2 t3 t4 p0 p1 q0 q1 u0 u1 r0 r1 s0 s1 c0 d0 f0
          generalize (w3.setCell ⟨g1, q, none⟩ (.int .i64 (s + 2))).drew = wx at *
          dsimp only at S3D
          obtain ⟨q0, q1, -⟩ := S3D.out.out.two
          by_cases hv : brsOk (ss.set q (s + 2), cp) = true
          · have HM := Lib.hid (show mayR (ss, cp) d = true from HM0.out.trans hv)
            have HF := Lib.hid (show bdF (ss, cp) d = (ss.set q (s + 2), cp) by rw [bdF, if_pos HOK.out]; exact HDO.out HM.out)
            have HB := Lib.hid (show bdB (ss, cp) d = true by rw [bdB, HM.out, HOK.out]; rfl)
            go_wp2_with fail
            refine (specBarsValid_any _ n c1 _ _ _ hn (OwnI.rowZ S3D.out.own)).mono ?_
            rintro e w4 ⟨rfl, hb4⟩
            rw [hv]
            have S4 := Lib.hid (S3D.out.next hb4)
            clear q0 q1
            obtain ⟨q0, q1, -⟩ := S4.out.out.two
            obtain ⟨r0, r1, s0, s1⟩ := S4.out.ret.two
            go_wp2
            refine bodyPost_ret (v := .tuple #[vR (.slice (some ⟨g1, 0, none⟩) n c1) cp, .bool true]) (by simp [results, Tryd.results64, go_sem, r0, r1, vR]) rfl ⟨_, by rw [HF.out, HB.out], by rw [HF.out]; exact (S4.out.done _ _).1, (S4.out.done _ _).2⟩
          · rw [Bool.not_eq_true] at hv
            have HM := Lib.hid (show mayR (ss, cp) d = false from HM0.out.trans hv)
            have HF := Lib.hid (show bdF (ss, cp) d = (ss, cp) by rw [bdF, if_pos HOK.out, doR, if_neg (by rw [HM.out]; simp)])
            have HB := Lib.hid (show bdB (ss, cp) d = false by rw [bdB, HM.out, Bool.and_false])
            go_wp2_with fail
            refine (specBarsValid_any _ n c1 _ _ _ hn (OwnI.rowZ S3D.out.own)).mono ?_
            rintro e w4 ⟨rfl, hb4⟩
            rw [hv]
            have S4 := Lib.hid (S3D.out.next hb4)
            clear q0 q1
            obtain ⟨p0, p1, -⟩ := S4.out.box.two
            obtain ⟨q0, q1, -⟩ := S4.out.out.two
            go_wp2_with fail
            refine (specCopy_any _ n c ss _ _ hn1 hn (HR.out.below S4.out.bel)).mono ?_
            rintro e w5 ⟨v2, rfl, hO, hb5⟩
            dsimp only [vR]
            obtain ⟨A2, c2, rfl⟩ := OwnI.shape hO
            rw [HL.out] at hO ⊢
            have S5 := Lib.hid (S4.out.next hb5)
            have h4 := S4.out.ret.lt
            have O5 := Lib.hid (OwnI.moreR (base' := w.heap.size + 2) hO h4)
            obtain ⟨r0, r1, s0, s1⟩ := S5.out.ret.two
            clear hO hb5 p0 p1 q0 q1
            go_wp2
            refine bodyPost_ret (v := .tuple #[vR (.slice A2 n c2) cp, .bool false]) (by simp [results, Tryd.results64, go_sem, r0, r1, vR]) rfl ⟨_, by rw [HF.out, HB.out], ?_, below_two S5.out.bel (by omega) _ _⟩
            rw [HF.out]
            exact OwnI.ret2 (OwnI.moreR O5.out (by omega)) (fun q hq => by have := (OwnI.lt O5.out q hq).1; omega) _ _
  · rw [Bool.not_eq_true] at hok
    have HF := Lib.hid (show bdF (ss, cp) d = ([], false) by rw [bdF, if_neg (by rw [hok]; simp)])
    have HB := Lib.hid (show bdB (ss, cp) d = false by rw [bdB, hok, Bool.false_and])
    go_enter Tryd.func64, Tryd.ntmps64
    go_wp2_with fail
    refine (specBarsValid_any A n c ss cp _ hn (HR.out.below b0)).mono ?_
    rintro e w1 ⟨rfl, hb1⟩
    rw [hok]
    have R1 := Lib.hid (KR.out.keep hb1)
    have b1 : Below w.heap.size w w1 := b0.trans (hb1.mono b0.size)
    obtain ⟨r0, r1, s0, s1⟩ := R1.out.two
    clear hok p0 p1 hb1
    go_wp2
    refine bodyPost_ret (v := .tuple #[vR (.slice none 0 0) false, .bool false]) (by simp [results, Tryd.results64, go_sem, r0, r1, vR]) rfl ⟨_, by rw [HF.out, HB.out], ?_, below_two b1 (by omega) _ _⟩
    rw [HF.out]
    exact OwnI.nil
end Go.Proofs.YtafgfhjlkdjngaaDoor
