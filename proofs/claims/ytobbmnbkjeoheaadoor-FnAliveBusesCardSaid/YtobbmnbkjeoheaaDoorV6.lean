/- IslandFeed, IslandLoad, AliveBuses and ServedLoad, of the model. -/
import Derived.Test.YtobbmnbkjeoheaaDoorBCE
import Derived.Test.YtobbmnbkjeoheaaDoorBCF
namespace Go.Proofs.YtobbmnbkjeoheaaDoor
open Go.ChangeShapes Go.WideShapes Go.ChangeAt Go.RowKit

set_option maxRecDepth 100000 in
set_option maxHeartbeats 400000 in
theorem specFeed_any (bs : Int) (A : Option Addr) (n c : Nat) (ls : List L3) (B : Option Addr) (m d : Nat) (ts : List Bool) (U : Option Addr) (q r : Nat) (us : List U2) (bus : Int) (w : World) (hn : n ≤ 1048576) (hr : RowL w A n ls) (hm : m ≤ 1048576) (hrt : RowT w B m ts) (hq : q ≤ 1048576) (hu : RowU w U q us) :
    Calls Tryd.prog 15 #[.agg #[.int .i64 bs, .slice A n c], .slice B m d, .slice U q r, .int .i64 bus] w fun e w' => e = .returned (.int .i64 (feedF bs ls ts us bus)) ∧ Below w.heap.size w w' := by
  have HR := Lib.hid hr
  have HT := Lib.hid hrt
  have HU := Lib.hid hu
  have hlt := hrt.len
  have b0 := below_bx w (.cells #[.int .i64 bs, .slice A n c] 25)
  have K0 := Lib.hid (IsBlk.new w 25 #[.int .i64 bs, .slice A n c])
  clear hr hrt hu
  go_enter Tryd.func15, Tryd.ntmps15
  go_wp2_with fail
  refine (l5Ok_any bs _ n c ls _ m d _ q r us _ hn (HR.out.below b0) hm hq (HU.out.below b0)).mono ?_
  rintro e w1 ⟨rfl, hb1⟩
  have a1 := b0.trans (hb1.mono b0.size)
  have K1 := Lib.hid (K0.out.keep hb1)
  obtain ⟨p0, p1, _, _⟩ := K1.out.two
  cases ho : okU bs ls m us
  · have HF := Lib.hid (feedF_bad (bs := bs) (ls := ls) (ts := ts) (us := us) (by rw [hlt]; exact ho) bus).1
    go_wp2
    go_ret
    exact ⟨retI HF.out.symm, a1⟩
  · have hbs := okU_bs ho
    have hbu := okU_bu ho
    obtain ⟨nb, rfl⟩ := Int.eq_ofNat_of_zero_le (show 0 ≤ bs by omega)
    have hnb : nb ≤ 8 := by omega
    have hqn : q = nb := by have := busesOk_len hbu; have := HU.out.len; omega
    subst hqn
    have hwr : IntKind.i64.wrap ((q : Int) - 1) = (q : Int) - 1 := IntWalk.i64_in _ (by omega)
    cases hw : inB bus 0 ((q : Int) - 1)
    · have HF := Lib.hid (feedF_out (ls := ls) (ts := ts) (us := us) hw).1
      go_wp2_with fail
      refine (l1In_any bus 0 _ _).mono ?_
      rintro e w2 ⟨rfl, rfl⟩
      rw [hw]
      clear hwr
      go_wp2
      go_ret
      exact ⟨retI HF.out.symm, a1⟩
    · have hw2 := hw
      simp only [inB, Bool.and_eq_true, decide_eq_true_eq] at hw2
      obtain ⟨b, rfl⟩ := Int.eq_ofNat_of_zero_le hw2.1
      have hb : b < q := by omega
      have HF := Lib.hid (feedF_in (nb := q) (ls := ls) (ts := ts) (us := us) (by rw [hlt]; exact ho) hb).1
      have HRC := Lib.hid (show rchF q ls ts b = ofN (reachF (edgesOn ls ts) q b) by rw [rchF, hlt, if_pos ⟨okU_st ho, hw⟩]; rfl)
      have HBU := Lib.hid hbu
      go_wp2_with fail
      refine (l1In_any _ 0 _ _).mono ?_
      rintro e w2 ⟨rfl, rfl⟩
      rw [hw]
      clear hwr hw hw2 ho hbu hbs
      go_wp2_with fail
      refine (specRch_any q _ n c ls _ m d ts b _ hn (HR.out.below a1) hm (HT.out.below a1)).mono ?_
      rintro e w2 ⟨v, rfl, hO, hb2⟩
      have a2 := a1.trans (hb2.mono a1.size)
      rw [HRC.out] at hO
      obtain ⟨A2, c2, rfl, hz⟩ := hO.sl
      rw [ofN_len] at hz ⊢
      have HZ := Lib.hid hz
      have HU2 := Lib.hid (HU.out.below a2)
      have hmem : ∀ h ∈ reachF (edgesOn ls ts) q b, h < q := fun h hh => (mem_reachF.1 hh).1
      have HFS := Lib.hid (show lsum (fd us) (reachF (edgesOn ls ts) q b) (reachF (edgesOn ls ts) q b).length = feedF q ls ts us b by rw [lsum_all, isum_list, HF.out])
      have hrl : (reachF (edgesOn ls ts) q b).length ≤ 8 := Nat.le_trans (List.length_filter_le _ _) (by simp; omega)
      clear hO hz HF HRC
      generalize reachF (edgesOn ls ts) q b = hs at *
      have HM := Lib.hid hmem
      clear hmem
      go_wp2_with fail
      go_loopw [9, 11] (fun s i wr => ∃ k : Nat, k ≤ hs.length ∧ i = .int .i64 k ∧ s = .int .i64 (lsum (fd us) hs k) ∧ wr = w2) (fun _ i _ => hs.length - (intOf i).toNat)
      case atStart => exact ⟨0, by omega, rfl, rfl, rfl⟩
      case round =>
        obtain ⟨k, hk, rfl, rfl, rfl⟩ := hrel
        by_cases hkl : k < hs.length
        · obtain ⟨bz, oz, z, rfl, hbz, hkz, g0⟩ := HZ.out.at_ hkl
          have hkh : hs[k]? = some (hs[k]'hkl) := List.getElem?_eq_getElem _
          generalize (hs[k]'hkl) = h at hkh
          rw [ofN_get hkh] at hkz
          injection hkz with hkz
          subst hkz
          have hh := HM.out h (List.mem_of_getElem? hkh)
          obtain ⟨bu, ou, u, rfl, hbu, hku, e0, e1⟩ := HU2.out.at_ hh
          have hs1 := lsum_succ (f := fd us) hkh
          rw [fd_at hku] at hs1
          have HS1 := Lib.hid hs1
          have hbd := lsum_bd (f := fd us) (hs := hs) (M := 999) (fun h _ => fd_bd HBU.out h) k hk
          have hu4 := busesOk_at HBU.out hku
          have v1 : IntKind.i64.wrap (lsum (fd us) hs k + u.1) = lsum (fd us) hs k + u.1 := IntWalk.i64_in _ (by omega)
          have q0 : (0 : Int) ≤ (k : Int) := by omega
          have q1 : (k : Int) < (hs.length : Int) := by omega
          have q2 : (0 : Int) ≤ (h : Int) := by omega
          have q3 : (h : Int) < (q : Int) := by omega
          clear hs1 hbd hu4 hku hkh
          go_wp2
          go_roundw
          case rel => exact ⟨k + 1, by omega, by go_num, by rw [HS1.out], by first | rfl | trivial⟩
          case measure => simp [intOf]; omega
        · obtain rfl : k = hs.length := by omega
          go_wp2
          go_ret
          exact ⟨retI HFS.out, a2⟩

set_option maxRecDepth 100000 in
set_option maxHeartbeats 400000 in
theorem specLoad_any (bs : Int) (A : Option Addr) (n c : Nat) (ls : List L3) (B : Option Addr) (m d : Nat) (ts : List Bool) (U : Option Addr) (q r : Nat) (us : List U2) (bus : Int) (w : World) (hn : n ≤ 1048576) (hr : RowL w A n ls) (hm : m ≤ 1048576) (hrt : RowT w B m ts) (hq : q ≤ 1048576) (hu : RowU w U q us) :
    Calls Tryd.prog 20 #[.agg #[.int .i64 bs, .slice A n c], .slice B m d, .slice U q r, .int .i64 bus] w fun e w' => e = .returned (.int .i64 (loadF bs ls ts us bus)) ∧ Below w.heap.size w w' := by
  have HR := Lib.hid hr
  have HT := Lib.hid hrt
  have HU := Lib.hid hu
  have hlt := hrt.len
  have b0 := below_bx w (.cells #[.int .i64 bs, .slice A n c] 25)
  have K0 := Lib.hid (IsBlk.new w 25 #[.int .i64 bs, .slice A n c])
  clear hr hrt hu
  go_enter Tryd.func20, Tryd.ntmps20
  go_wp2_with fail
  refine (l5Ok_any bs _ n c ls _ m d _ q r us _ hn (HR.out.below b0) hm hq (HU.out.below b0)).mono ?_
  rintro e w1 ⟨rfl, hb1⟩
  have a1 := b0.trans (hb1.mono b0.size)
  have K1 := Lib.hid (K0.out.keep hb1)
  obtain ⟨p0, p1, _, _⟩ := K1.out.two
  cases ho : okU bs ls m us
  · have HF := Lib.hid (feedF_bad (bs := bs) (ls := ls) (ts := ts) (us := us) (by rw [hlt]; exact ho) bus).2
    go_wp2
    go_ret
    exact ⟨retI HF.out.symm, a1⟩
  · have hbs := okU_bs ho
    have hbu := okU_bu ho
    obtain ⟨nb, rfl⟩ := Int.eq_ofNat_of_zero_le (show 0 ≤ bs by omega)
    have hnb : nb ≤ 8 := by omega
    have hqn : q = nb := by have := busesOk_len hbu; have := HU.out.len; omega
    subst hqn
    have hwr : IntKind.i64.wrap ((q : Int) - 1) = (q : Int) - 1 := IntWalk.i64_in _ (by omega)
    cases hw : inB bus 0 ((q : Int) - 1)
    · have HF := Lib.hid (feedF_out (ls := ls) (ts := ts) (us := us) hw).2
      go_wp2_with fail
      refine (l1In_any bus 0 _ _).mono ?_
      rintro e w2 ⟨rfl, rfl⟩
      rw [hw]
      clear hwr
      go_wp2
      go_ret
      exact ⟨retI HF.out.symm, a1⟩
    · have hw2 := hw
      simp only [inB, Bool.and_eq_true, decide_eq_true_eq] at hw2
      obtain ⟨b, rfl⟩ := Int.eq_ofNat_of_zero_le hw2.1
      have hb : b < q := by omega
      have HF := Lib.hid (feedF_in (nb := q) (ls := ls) (ts := ts) (us := us) (by rw [hlt]; exact ho) hb).2
      have HRC := Lib.hid (show rchF q ls ts b = ofN (reachF (edgesOn ls ts) q b) by rw [rchF, hlt, if_pos ⟨okU_st ho, hw⟩]; rfl)
      have HBU := Lib.hid hbu
      go_wp2_with fail
      refine (l1In_any _ 0 _ _).mono ?_
      rintro e w2 ⟨rfl, rfl⟩
      rw [hw]
      clear hwr hw hw2 ho hbu hbs
      go_wp2_with fail
      refine (specRch_any q _ n c ls _ m d ts b _ hn (HR.out.below a1) hm (HT.out.below a1)).mono ?_
      rintro e w2 ⟨v, rfl, hO, hb2⟩
      have a2 := a1.trans (hb2.mono a1.size)
      rw [HRC.out] at hO
      obtain ⟨A2, c2, rfl, hz⟩ := hO.sl
      rw [ofN_len] at hz ⊢
      have HZ := Lib.hid hz
      have HU2 := Lib.hid (HU.out.below a2)
      have hmem : ∀ h ∈ reachF (edgesOn ls ts) q b, h < q := fun h hh => (mem_reachF.1 hh).1
      have HFS := Lib.hid (show lsum (ld us) (reachF (edgesOn ls ts) q b) (reachF (edgesOn ls ts) q b).length = loadF q ls ts us b by rw [lsum_all, isum_list, HF.out])
      have hrl : (reachF (edgesOn ls ts) q b).length ≤ 8 := Nat.le_trans (List.length_filter_le _ _) (by simp; omega)
      clear hO hz HF HRC
      generalize reachF (edgesOn ls ts) q b = hs at *
      have HM := Lib.hid hmem
      clear hmem
      go_wp2_with fail
      go_loopw [9, 11] (fun s i wr => ∃ k : Nat, k ≤ hs.length ∧ i = .int .i64 k ∧ s = .int .i64 (lsum (ld us) hs k) ∧ wr = w2) (fun _ i _ => hs.length - (intOf i).toNat)
      case atStart => exact ⟨0, by omega, rfl, rfl, rfl⟩
      case round =>
        obtain ⟨k, hk, rfl, rfl, rfl⟩ := hrel
        by_cases hkl : k < hs.length
        · obtain ⟨bz, oz, z, rfl, hbz, hkz, g0⟩ := HZ.out.at_ hkl
          have hkh : hs[k]? = some (hs[k]'hkl) := List.getElem?_eq_getElem _
          generalize (hs[k]'hkl) = h at hkh
          rw [ofN_get hkh] at hkz
          injection hkz with hkz
          subst hkz
          have hh := HM.out h (List.mem_of_getElem? hkh)
          obtain ⟨bu, ou, u, rfl, hbu, hku, e0, e1⟩ := HU2.out.at_ hh
          have hs1 := lsum_succ (f := ld us) hkh
          rw [ld_at hku] at hs1
          have HS1 := Lib.hid hs1
          have hbd := lsum_bd (f := ld us) (hs := hs) (M := 999) (fun h _ => ld_bd HBU.out h) k hk
          have hu4 := busesOk_at HBU.out hku
          have v1 : IntKind.i64.wrap (lsum (ld us) hs k + u.2) = lsum (ld us) hs k + u.2 := IntWalk.i64_in _ (by omega)
          have q0 : (0 : Int) ≤ (k : Int) := by omega
          have q1 : (k : Int) < (hs.length : Int) := by omega
          have q2 : (0 : Int) ≤ (h : Int) := by omega
          have q3 : (h : Int) < (q : Int) := by omega
          clear hs1 hbd hu4 hku hkh
          go_wp2
          go_roundw
          case rel => exact ⟨k + 1, by omega, by go_num, by rw [HS1.out], by first | rfl | trivial⟩
          case measure => simp [intOf]; omega
        · obtain rfl : k = hs.length := by omega
          go_wp2
          go_ret
          exact ⟨retI HFS.out, a2⟩

theorem holdV {w w' : World} {X : Nat} {u v : Value} (p0 : w.cell? ⟨X, 0, none⟩ = some u) (p1 : w.cell? ⟨X, 1, none⟩ = some v) (hX : X < w.heap.size) (hb : Below w.heap.size w w') :
    Below w.heap.size w w' ∧ w'.cell? ⟨X, 0, none⟩ = some u ∧ w'.cell? ⟨X, 1, none⟩ = some v :=
  ⟨hb, (hb.cell (p := ⟨X, 0, none⟩) hX).trans p0, (hb.cell (p := ⟨X, 1, none⟩) hX).trans p1⟩
theorem runV {w0 w w' : World} {p : Prop} (h : Below w0.heap.size w0 w ∧ p) (hb : Below w.heap.size w w') : Below w0.heap.size w0 w' := h.1.trans (hb.mono h.1.size)
/-- The memory in which the model lists buses: the network's box and an empty list. -/
theorem numSt5 (w : World) (bs : Int) (n c : Nat) (A : Option Addr) : NumSt w ((w.alloc (.cells #[.int .i64 bs, .slice A n c] 25)).alloc (.cells #[] 3)) bs n c A (.slice (some ⟨w.heap.size + 1, 0, none⟩) 0 0) [] := by
  have hown0 := own_lit (w.alloc (.cells #[.int .i64 bs, .slice A n c] 25))
  simp only [World.size_alloc] at hown0
  exact ⟨hown0, (below_bx w _).alloc (by simp) _, (IsBlk.new w 25 #[.int .i64 bs, .slice A n c]).alloc (.cells #[] 3)⟩

set_option maxRecDepth 100000 in
set_option maxHeartbeats 800000 in
theorem specAlive_any (bs : Int) (A : Option Addr) (n c : Nat) (ls : List L3) (B : Option Addr) (m d : Nat) (ts : List Bool) (U : Option Addr) (q r : Nat) (us : List U2) (w : World) (hn : n ≤ 1048576) (hr : RowL w A n ls) (hm : m ≤ 1048576) (hrt : RowT w B m ts) (hq : q ≤ 1048576) (hu : RowU w U q us) :
    Calls Tryd.prog 25 #[.agg #[.int .i64 bs, .slice A n c], .slice B m d, .slice U q r] w fun e w' => ∃ v, e = .returned v ∧ OwnI 3 w' w.heap.size v (aliF bs ls ts us) ∧ Below w.heap.size w w' := by
  obtain ⟨i0, hi, hz0, hz1, hz2⟩ := info_parts intInfo6
  have HI := Lib.hid hi
  have HR := Lib.hid hr
  have HT := Lib.hid hrt
  have HU := Lib.hid hu
  have hlt := hrt.len
  have S0 := Lib.hid (numSt5 w bs n c A)
  clear hr hrt hu hi
  cases ho : okU bs ls m us
  · have HF := Lib.hid (aliF_no (bs := bs) (ls := ls) (ts := ts) (us := us) (by rw [hlt]; exact ho))
    have HO := Lib.hid ho
    clear ho hlt
    go_enter Tryd.func25, Tryd.ntmps25
    go_upto_region 2 with fail
    generalize (w.alloc (.cells #[.int .i64 bs, .slice A n c] 25)).alloc (.cells #[] 3) = W0 at *
    go_wp2
    go_loopw [7, 8] (fun v i wr => v = .slice (some ⟨w.heap.size + 1, 0, none⟩) 0 0 ∧ i = .int .i64 0 ∧ wr = W0) (fun _ _ _ => 0)
    case atStart => exact ⟨rfl, rfl, rfl⟩
    case round =>
      obtain ⟨rfl, rfl, rfl⟩ := hrel
      obtain ⟨p0, p1, _, _⟩ := S0.out.box.two
      by_cases hb : 0 < bs
      · go_wp2_with fail
        refine (l5Ok_any bs _ n c ls _ m d _ q r us _ hn (HR.out.below S0.out.bel) hm hq (HU.out.below S0.out.bel)).mono ?_
        rintro e w1 ⟨rfl, hb1⟩
        rw [HO.out]
        go_wp2
        go_ret
        exact ⟨_, rfl, by rw [HF.out]; exact OwnI.more (S0.out.next hb1).own (by omega), (S0.out.next hb1).bel⟩
      · go_wp2
        go_ret
        exact ⟨_, rfl, by rw [HF.out]; exact OwnI.more S0.out.own (by omega), S0.out.bel⟩
  · have hbs := okU_bs ho
    obtain ⟨nb, rfl⟩ := Int.eq_ofNat_of_zero_le (show 0 ≤ bs by omega)
    have hnb : nb ≤ 8 := by omega
    have HO := Lib.hid ho
    have HLT := Lib.hid hlt
    have HF := Lib.hid (show aliF nb ls ts us = ofN (aliTo (edgesOn ls ts) nb us nb) by rw [aliF, hlt, if_pos ho]; rfl)
    clear ho hbs hlt
    go_enter Tryd.func25, Tryd.ntmps25
    go_upto_region 2 with fail
    generalize (w.alloc (.cells #[.int .i64 (nb : Int), .slice A n c] 25)).alloc (.cells #[] 3) = W0 at *
    go_wp2
    go_loopw [7, 8] (fun v i wr => ∃ k : Nat, k ≤ nb ∧ i = .int .i64 k ∧ NumSt w wr nb n c A v (ofN (aliTo (edgesOn ls ts) nb us k))) (fun _ i _ => nb - (intOf i).toNat)
    case atStart => exact ⟨0, by omega, rfl, S0.out⟩
    case round =>
      obtain ⟨k, hk, rfl, hst⟩ := hrel
      have SK := Lib.hid hst
      clear hst S0
      obtain ⟨p0, p1, _, _⟩ := SK.out.box.two
      by_cases hkl : k < nb
      · have q0 : (0 : Int) ≤ (k : Int) := by omega
        have q1 : (k : Int) < (nb : Int) := by omega
        go_wp2_with fail
        refine (l5Ok_any nb _ n c ls _ m d _ q r us _ hn (HR.out.below SK.out.bel) hm hq (HU.out.below SK.out.bel)).mono ?_
        rintro e w1 ⟨rfl, hb1⟩
        rw [HO.out]
        have S1 := Lib.hid (SK.out.next hb1)
        clear SK p0 p1 hb1
        obtain ⟨p0, p1, _, _⟩ := S1.out.box.two
        have HFD := Lib.hid (feedF_in (nb := nb) (ls := ls) (ts := ts) (us := us) (by rw [HLT.out]; exact HO.out) hkl).1
        have hle2 : (ofN (aliTo (edgesOn ls ts) nb us k)).length ≤ k := by rw [ofN_len]; exact aliTo_len _ _ _ _
        have HNX := Lib.hid (aliTo_next (edgesOn ls ts) nb us k)
        go_wp2_with fail
        refine (specFeed_any nb _ n c ls _ m d ts _ q r us k _ hn (HR.out.below S1.out.bel) hm (HT.out.below S1.out.bel) hq (HU.out.below S1.out.bel)).mono ?_
        rintro e w2 ⟨rfl, hb2⟩
        rw [HFD.out]
        have S2 := Lib.hid (S1.out.next hb2)
        have hsz2 := S2.out.bel.size
        clear S1 p0 p1 hb2 HFD
        cases hcb : aliB (edgesOn ls ts) nb us k
        · rw [hcb] at HNX
          have hx : ¬ 0 < isum (edgesOn ls ts) nb (fd us) k := by simpa [aliB] using hcb
          have HN2 := Lib.hid (show ofN (aliTo (edgesOn ls ts) nb us (k + 1)) = ofN (aliTo (edgesOn ls ts) nb us k) by rw [HNX.out]; simp)
          clear HNX hcb
          generalize isum (edgesOn ls ts) nb (fd us) k = x at *
          go_wp2
          go_roundw
          case rel => exact ⟨k + 1, by omega, by go_num, by rw [HN2.out]; exact S2.out⟩
          case measure => simp [intOf]; omega
        · rw [hcb] at HNX
          have hx : 0 < isum (edgesOn ls ts) nb (fd us) k := by simpa [aliB] using hcb
          have HN2 := Lib.hid (show ofN (aliTo (edgesOn ls ts) nb us (k + 1)) = ofN (aliTo (edgesOn ls ts) nb us k) ++ [(k : Int)] by rw [HNX.out]; rfl)
          clear HNX hcb
          generalize isum (edgesOn ls ts) nb (fd us) k = x at *
          go_wp2_with (
            at_builtin
            refine wpList_append_own _ rfl _ _ _ rfl (w.heap.size + 1) 3 i0 (.int .i64 0) 1 8 Tryd.underlying42 HI.out hz0 hz1 hz2 rfl (by decide) _ _ _ rfl (World.ownsRow.alloc S2.out.own _) ⟨w2.heap.size, 0, none⟩ 1 1 [.int .i64 (k : Int)] rfl rfl ?c1 ?c2 ?c3 ?c4 ?c5 ?_
            case c1 => exact cell_one_new _ _ _
            case c2 => intro u hu; simp at hu; subst hu; rfl
            case c3 => simp only [maxLen]; omega
            case c4 => omega
            case c5 => simp; omega
            intro v' w4 hown' hgrow _
            have S4 := Lib.hid (S2.out.push (zs' := ofN (aliTo (edgesOn ls ts) nb us (k + 1))) (.cells #[.int .i64 (k : Int)] 3) (by rw [HN2.out]; simpa [OwnI] using hown') hgrow))
          go_roundw
          case rel => exact ⟨k + 1, by omega, by go_num, S4.out⟩
          case measure => simp [intOf]; omega
      · go_wp2
        go_ret
        obtain rfl : k = nb := by omega
        exact ⟨_, rfl, by rw [HF.out]; exact OwnI.more SK.out.own (by omega), SK.out.bel⟩

set_option maxRecDepth 100000 in
set_option maxHeartbeats 800000 in
theorem specServed_any (bs : Int) (A : Option Addr) (n c : Nat) (ls : List L3) (B : Option Addr) (m d : Nat) (ts : List Bool) (U : Option Addr) (q r : Nat) (us : List U2) (w : World) (hn : n ≤ 1048576) (hr : RowL w A n ls) (hm : m ≤ 1048576) (hrt : RowT w B m ts) (hq : q ≤ 1048576) (hu : RowU w U q us) :
    Calls Tryd.prog 33 #[.agg #[.int .i64 bs, .slice A n c], .slice B m d, .slice U q r] w fun e w' => e = .returned (.int .i64 (serF bs ls ts us)) ∧ Below w.heap.size w w' := by
  have HR := Lib.hid hr
  have HT := Lib.hid hrt
  have HU := Lib.hid hu
  have hlt := hrt.len
  have b0 := below_bx w (.cells #[.int .i64 bs, .slice A n c] 25)
  have K0 := Lib.hid (IsBlk.new w 25 #[.int .i64 bs, .slice A n c])
  clear hr hrt hu
  go_enter Tryd.func33, Tryd.ntmps33
  go_wp2_with fail
  refine (l5Ok_any bs _ n c ls _ m d _ q r us _ hn (HR.out.below b0) hm hq (HU.out.below b0)).mono ?_
  rintro e w1 ⟨rfl, hb1⟩
  have a1 := b0.trans (hb1.mono b0.size)
  have K1 := Lib.hid (K0.out.keep hb1)
  cases ho : okU bs ls m us
  · have HF := Lib.hid (serF_no (bs := bs) (ls := ls) (ts := ts) (us := us) (by rw [hlt]; exact ho))
    go_wp2
    go_ret
    exact ⟨retI HF.out.symm, a1⟩
  · have hbs := okU_bs ho
    have hbu := okU_bu ho
    obtain ⟨nb, rfl⟩ := Int.eq_ofNat_of_zero_le (show 0 ≤ bs by omega)
    have hnb : nb ≤ 8 := by omega
    have hqn : q = nb := by have := busesOk_len hbu; have := HU.out.len; omega
    subst hqn
    have HO := Lib.hid ho
    have HLT := Lib.hid hlt
    have HBU := Lib.hid hbu
    have HF := Lib.hid (show serF q ls ts us = gsum (serB (edgesOn ls ts) q us) (ld us) q by rw [serF, hlt, if_pos ho]; rfl)
    have HU1 := Lib.hid (HU.out.below a1)
    clear ho hbs hlt hbu
    go_wp2
    go_loopw [7, 8] (fun s i wr => ∃ k : Nat, k ≤ q ∧ i = .int .i64 k ∧ s = .int .i64 (gsum (serB (edgesOn ls ts) q us) (ld us) k) ∧ Below w1.heap.size w1 wr) (fun _ i _ => q - (intOf i).toNat)
    case atStart => exact ⟨0, by omega, rfl, rfl, Below.refl _ _⟩
    case round =>
      obtain ⟨k, hk, rfl, rfl, hbel⟩ := hrel
      have K2 := Lib.hid (K1.out.keep hbel)
      obtain ⟨p0, p1, _, _⟩ := K2.out.two
      by_cases hkl : k < q
      · have a2 : Below w.heap.size w wr := a1.trans (hbel.mono a1.size)
        obtain ⟨b', off', u, rfl, hb', hku, g0, g1⟩ := HU1.out.at_ hkl
        have hsb := gsum_bd (p := serB (edgesOn ls ts) q us) (f := ld us) (M := 999) (k := k) (fun c _ => ld_bd HBU.out c)
        have hu4 := busesOk_at HBU.out hku
        have hle := ld_at hku
        have q0 : (0 : Int) ≤ (k : Int) := by omega
        have q1 : (k : Int) < (q : Int) := by omega
        have hXw := K2.out.lt
        have CA := fun (W : World) (hW : Below wr.heap.size wr W) => specFeed_any q A n c ls B m d ts (some ⟨b', off', none⟩) q r us k W hn (HR.out.below (a2.trans (hW.mono a2.size))) hm (HT.out.below (a2.trans (hW.mono a2.size))) hq (HU.out.below (a2.trans (hW.mono a2.size)))
        have CB := fun (W : World) (hW : Below wr.heap.size wr W) => specLoad_any q A n c ls B m d ts (some ⟨b', off', none⟩) q r us k W hn (HR.out.below (a2.trans (hW.mono a2.size))) hm (HT.out.below (a2.trans (hW.mono a2.size))) hq (HU.out.below (a2.trans (hW.mono a2.size)))
        obtain ⟨f1, f2⟩ := feedF_in (nb := q) (ls := ls) (ts := ts) (us := us) (by rw [HLT.out]; exact HO.out) hkl
        rw [f1] at CA
        rw [f2] at CB
        have hcbd : serB (edgesOn ls ts) q us k = decide (isum (edgesOn ls ts) q (ld us) k ≤ isum (edgesOn ls ts) q (fd us) k) := rfl
        have HY := fun h => gsum_yes (p := serB (edgesOn ls ts) q us) (f := ld us) (k := k) h
        have HN := fun h => gsum_no (p := serB (edgesOn ls ts) q us) (f := ld us) (k := k) h
        rw [hcbd] at HY HN
        rw [hle] at HY
        generalize isum (edgesOn ls ts) q (fd us) k = x at *
        generalize isum (edgesOn ls ts) q (ld us) k = y at *
        have HA := Lib.hid CA
        have HB := Lib.hid CB
        have HYY := Lib.hid HY
        have HNN := Lib.hid HN
        have v1 : IntKind.i64.wrap (gsum (serB (edgesOn ls ts) q us) (ld us) k + u.2) = gsum (serB (edgesOn ls ts) q us) (ld us) k + u.2 := IntWalk.i64_in _ (by omega)
        clear CA CB f1 f2 hcbd HY HN hle hsb hu4 hku g0
        go_upto_region 7 with fail
        go_region_held3 (fun w' => Below wr.heap.size wr w' ∧ w'.cell? ⟨w.heap.size, 0, none⟩ = some (.int .i64 (q : Int)) ∧ w'.cell? ⟨w.heap.size, 1, none⟩ = some (.slice A n c))
          (first | exact holdV p0 p1 hXw hB8 | exact holdV p0 p1 hXw hB9 | exact holdV p0 p1 hXw (Below.drew (Below.refl _ _)) | exact holdV p0 p1 hXw (Below.refl _ _))
          (first
            | (go_at_call 15; (with_reducible refine (HA.out _ (And.left (by assumption))).mono ?_); rintro e w8 ⟨rfl, hb8⟩; have hB8 := runV (by assumption) hb8)
            | (go_at_call 20; (with_reducible refine (HB.out _ (And.left (by assumption))).mono ?_); rintro e w9 ⟨rfl, hb9⟩; have hB9 := runV (by assumption) hb9))
        all_goals
          rename_i hF
          have hbel2 := hbel.trans (hF.1.mono hbel.size)
          rw [← hbel2.cell (p := ⟨b', off' + k * 2 + 1, none⟩) hb'] at g1
          clear hF p0 p1 HA HB
          by_cases hxy : y ≤ x
          · have HN := Lib.hid (HYY.out (by simpa using hxy))
            go_wp2
            go_roundw
            case rel => exact ⟨k + 1, by omega, by go_num, by rw [HN.out], hbel2⟩
            case measure => simp [intOf]; omega
          · have HN := Lib.hid (HNN.out (by simpa using hxy))
            go_wp2
            go_roundw
            case rel => exact ⟨k + 1, by omega, by go_num, by rw [HN.out], hbel2⟩
            case measure => simp [intOf]; omega
      · obtain rfl : k = q := by omega
        go_wp2
        go_ret
        exact ⟨retI HF.out.symm, a1.trans (hbel.mono a1.size)⟩
end Go.Proofs.YtobbmnbkjeoheaaDoor
