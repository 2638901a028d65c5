/- AliveBuses and ServedLoad, of the program. -/
import Derived.Test.YtobbmnbkjeoheaaDoorV4
namespace Go.Proofs.YtobbmnbkjeoheaaDoor
open Go.ChangeShapes Go.WideShapes Go.ChangeAt Go.RowKit

theorem aliTo_next (es : List E2) (nb : Nat) (us : List U2) (k : Nat) : ofN (aliTo es nb us (k + 1)) = ofN (aliTo es nb us k) ++ (if aliB es nb us k = true then [(k : Int)] else []) := by
  cases h : aliB es nb us k
  · rw [aliTo_no h]; simp
  · rw [aliTo_yes h]; simp [ofN]
theorem aliF_no {bs : Int} {ls : List L3} {ts : List Bool} {us : List U2} (h : okU bs ls ts.length us = false) : aliF bs ls ts us = [] := by
  rw [aliF, if_neg (by rw [h]; decide)]
theorem serF_no {bs : Int} {ls : List L3} {ts : List Bool} {us : List U2} (h : okU bs ls ts.length us = false) : serF bs ls ts us = -1 := by
  rw [serF, if_neg (by rw [h]; decide)]
theorem sums_cells {w : World} {g nb k : Nat} {es : List E2} {us : List U2} (h : IsBlk w g 32 (rowArr fU (sumsF es nb us))) (hk : k < nb) :
    w.cell? ⟨g, k * 2, none⟩ = some (.int .i64 (isum es nb (fd us) k)) ∧ w.cell? ⟨g, k * 2 + 1, none⟩ = some (.int .i64 (isum es nb (ld us) k)) := by
  have hget := rowArr_get (f := fU) fU_len (sumsF_get (es := es) (us := us) hk)
  exact ⟨(h.cell (k * 2)).trans (hget 0 (by omega)), (h.cell (k * 2 + 1)).trans (hget 1 (by omega))⟩

set_option maxRecDepth 100000 in
set_option maxHeartbeats 400000 in
theorem alive5_any (bs : Int) (A : Option Addr) (n c : Nat) (ls : List L3) (B : Option Addr) (m d : Nat) (ts : List Bool) (U : Option Addr) (q r : Nat) (us : List U2) (w : World) (hn : n ≤ 1048576) (hr : RowL w A n ls) (hm : m ≤ 1048576) (hrt : RowT w B m ts) (hq : q ≤ 1048576) (hu : RowU w U q us) :
    Calls Tryd.prog 23 #[.agg #[.int .i64 bs, .slice A n c], .slice B m d, .slice U q r] w fun e w' => ∃ v, e = .returned v ∧ OwnI 3 w' w.heap.size v (aliF bs ls ts us) ∧ Below w.heap.size w w' := by
  obtain ⟨i0, hi, hz0, hz1, hz2⟩ := info_parts intInfo6
  have HI := Lib.hid hi
  have HR := Lib.hid hr
  have HT := Lib.hid hrt
  have HU := Lib.hid hu
  have hlt := hrt.len
  have b0 := below_bx w (.cells #[.int .i64 bs, .slice A n c] 25)
  clear hr hrt hu hi
  cases ho : okU bs ls m us
  · have HF := Lib.hid (aliF_no (bs := bs) (ls := ls) (ts := ts) (us := us) (by rw [hlt]; exact ho))
    have HO := Lib.hid ho
    clear ho hlt
    go_enter Tryd.func23, Tryd.ntmps23
    go_wp2_with fail
    refine (sums_bad bs _ n c ls _ m d _ q r us _ hn (HR.out.below b0) hm hq (HU.out.below b0) HO.out).mono ?_
    rintro e w1 ⟨rfl, hb1⟩
    go_wp2
    go_loopw [7, 15] (fun v i wr => v = .slice none 0 0 ∧ i = .int .i64 0 ∧ wr = w1) (fun _ _ _ => 0)
    case atStart => exact ⟨rfl, rfl, rfl⟩
    case round =>
      obtain ⟨rfl, rfl, rfl⟩ := hrel
      go_wp2
      go_ret
      exact ⟨_, rfl, by rw [HF.out]; exact OwnI.nil, b0.trans (hb1.mono b0.size)⟩
  · have hbs := okU_bs ho
    obtain ⟨nb, rfl⟩ := Int.eq_ofNat_of_zero_le (show 0 ≤ bs by omega)
    have hnb : nb ≤ 8 := by omega
    have HO := Lib.hid ho
    have HF := Lib.hid (show aliF nb ls ts us = ofN (aliTo (edgesOn ls ts) nb us nb) by rw [aliF, hlt, if_pos ho]; rfl)
    clear ho hbs hlt
    go_enter Tryd.func23, Tryd.ntmps23
    go_wp2_with fail
    refine (sums_ok nb _ n c ls _ m d ts _ q r us _ hn (HR.out.below b0) hm (HT.out.below b0) hq (HU.out.below b0) HO.out).mono ?_
    rintro e w1 ⟨g, rfl, hg, hblk, hb1⟩
    have a1 : Below w.heap.size w w1 := b0.trans (hb1.mono b0.size)
    have HBK := Lib.hid hblk
    have hgl := hblk.lt
    clear hblk
    go_wp2
    go_loopw [7, 15] (fun v i wr => ∃ k : Nat, k ≤ nb ∧ i = .int .i64 k ∧ OwnI 3 wr w1.heap.size v (ofN (aliTo (edgesOn ls ts) nb us k)) ∧ Below w1.heap.size w1 wr) (fun _ i _ => nb - (intOf i).toNat)
    case atStart => exact ⟨0, by omega, rfl, World.ownsRow_nil _ _ _ _, Below.refl _ _⟩
    case round =>
      obtain ⟨k, hk, rfl, hown, hbel⟩ := hrel
      have KO := Lib.hid hown
      clear hown
      by_cases hkl : k < nb
      · obtain ⟨c0, c1⟩ := sums_cells (HBK.out.below hbel hgl) hkl
        have HN := Lib.hid (aliTo_next (edgesOn ls ts) nb us k)
        have hle := aliTo_len (edgesOn ls ts) nb us k
        have hle2 : (ofN (aliTo (edgesOn ls ts) nb us k)).length ≤ k := by rw [ofN_len]; exact hle
        have q0 : (0 : Int) ≤ (k : Int) := by omega
        have q1 : (k : Int) < (nb : Int) := by omega
        have hzw := hbel.size
        have hbx := hbel.alloc hzw (.cells #[.int .i64 (isum (edgesOn ls ts) nb (fd us) k), .int .i64 (isum (edgesOn ls ts) nb (ld us) k)] 32)
        cases hcb : aliB (edgesOn ls ts) nb us k
        · rw [hcb] at HN
          have hx : ¬ 0 < isum (edgesOn ls ts) nb (fd us) k := by simpa [aliB] using hcb
          have KO1 := Lib.hid (OwnI.alloc KO.out (.cells #[.int .i64 (isum (edgesOn ls ts) nb (fd us) k), .int .i64 (isum (edgesOn ls ts) nb (ld us) k)] 32))
          clear hcb
          generalize isum (edgesOn ls ts) nb (fd us) k = x at *
          generalize isum (edgesOn ls ts) nb (ld us) k = y at *
          go_wp2
          go_roundw
          case rel => exact ⟨k + 1, by omega, by go_num, by rw [HN.out]; simpa using KO1.out, hbx⟩
          case measure => simp [intOf]; omega
        · rw [hcb] at HN
          have hx : 0 < isum (edgesOn ls ts) nb (fd us) k := by simpa [aliB] using hcb
          have KO1 := Lib.hid (OwnI.alloc KO.out (.cells #[.int .i64 (isum (edgesOn ls ts) nb (fd us) k), .int .i64 (isum (edgesOn ls ts) nb (ld us) k)] 32))
          clear hcb
          generalize isum (edgesOn ls ts) nb (fd us) k = x at *
          generalize isum (edgesOn ls ts) nb (ld us) k = y at *
          go_wp2_with (
            at_builtin
            refine wpList_append_own _ rfl _ _ _ rfl w1.heap.size 3 i0 (.int .i64 0) 1 8 Tryd.underlying42 HI.out hz0 hz1 hz2 rfl (by decide) _ _ _ rfl (World.ownsRow.alloc KO1.out _) ⟨wr.heap.size + 1, 0, none⟩ 1 1 [.int .i64 (k : Int)] rfl rfl ?c1 ?c2 ?c3 ?c4 ?c5 ?_
            case c1 => have hcn := cell_one_new (wr.alloc (.cells #[.int .i64 x, .int .i64 y] 32)) (.int .i64 (k : Int)) 3; rw [World.size_alloc] at hcn; exact hcn
            case c2 => intro u hu; simp at hu; subst hu; rfl
            case c3 => simp only [maxLen]; omega
            case c4 => omega
            case c5 => simp; omega
            intro v' w3 hown' hgrow _
            have hb3 : Below w1.heap.size w1 w3 := (hbx.alloc hbx.size _).grown hgrow (by simp; omega) (fun q hq => (World.ownsRow.lt KO1.out q hq).1))
          go_roundw
          case rel => exact ⟨k + 1, by omega, by go_num, by rw [HN.out]; simpa [OwnI] using hown', hb3⟩
          case measure => simp [intOf]; omega
      · go_wp2
        go_ret
        obtain rfl : k = nb := by omega
        exact ⟨_, rfl, by rw [HF.out]; exact OwnI.more KO.out a1.size, a1.trans (hbel.mono a1.size)⟩

set_option maxRecDepth 100000 in
set_option maxHeartbeats 400000 in
theorem served_any (bs : Int) (A : Option Addr) (n c : Nat) (ls : List L3) (B : Option Addr) (m d : Nat) (ts : List Bool) (U : Option Addr) (q r : Nat) (us : List U2) (w : World) (hn : n ≤ 1048576) (hr : RowL w A n ls) (hm : m ≤ 1048576) (hrt : RowT w B m ts) (hq : q ≤ 1048576) (hu : RowU w U q us) :
    Calls Tryd.prog 32 #[.agg #[.int .i64 bs, .slice A n c], .slice B m d, .slice U q r] w fun e w' => e = .returned (.int .i64 (serF bs ls ts us)) ∧ Below w.heap.size w w' := by
  have HR := Lib.hid hr
  have HT := Lib.hid hrt
  have HU := Lib.hid hu
  have hlt := hrt.len
  have b0 := below_bx w (.cells #[.int .i64 bs, .slice A n c] 25)
  clear hr hrt hu
  cases ho : okU bs ls m us
  · have HF := Lib.hid (serF_no (bs := bs) (ls := ls) (ts := ts) (us := us) (by rw [hlt]; exact ho))
    have HO := Lib.hid ho
    clear ho hlt
    have hcmp : ∀ w : World, (binOp .eql 26 (.slice none 0 0) (.slice none 0 0)).run Tryd.prog w = .ok (.bool true) w := fun _ => by kernel_rfl
    go_enter Tryd.func32, Tryd.ntmps32
    go_wp2_with fail
    refine (sums_bad bs _ n c ls _ m d _ q r us _ hn (HR.out.below b0) hm hq (HU.out.below b0) HO.out).mono ?_
    rintro e w1 ⟨rfl, hb1⟩
    go_wp2
    go_ret
    exact ⟨retI HF.out.symm, b0.trans (hb1.mono b0.size)⟩
  · have hbs := okU_bs ho
    have hbu := okU_bu ho
    obtain ⟨nb, rfl⟩ := Int.eq_ofNat_of_zero_le (show 0 ≤ bs by omega)
    have hnb : nb ≤ 8 := by omega
    have hqn : q = nb := by have := busesOk_len hbu; have := HU.out.len; omega
    subst hqn
    have HO := Lib.hid ho
    have HBU := Lib.hid hbu
    have HF := Lib.hid (show serF q ls ts us = gsum (serB (edgesOn ls ts) q us) (ld us) q by rw [serF, hlt, if_pos ho]; rfl)
    clear ho hbs hlt hbu
    have hcmp : ∀ (g n : Nat) (w : World), (binOp .eql 26 (.slice (some ⟨g, 0, none⟩) n n) (.slice none 0 0)).run Tryd.prog w = .ok (.bool false) w := fun _ _ _ => by kernel_rfl
    go_enter Tryd.func32, Tryd.ntmps32
    go_wp2_with fail
    refine (sums_ok q _ n c ls _ m d ts _ q r us _ hn (HR.out.below b0) hm (HT.out.below b0) hq (HU.out.below b0) HO.out).mono ?_
    rintro e w1 ⟨g, rfl, hg, hblk, hb1⟩
    have a1 : Below w.heap.size w w1 := b0.trans (hb1.mono b0.size)
    have HU1 := Lib.hid (HU.out.below a1)
    have HBK := Lib.hid hblk
    have hgl := hblk.lt
    clear hblk
    go_wp2
    go_loopw [8, 19] (fun s i wr => ∃ k : Nat, k ≤ q ∧ i = .int .i64 k ∧ s = .int .i64 (gsum (serB (edgesOn ls ts) q us) (ld us) k) ∧ Below w1.heap.size w1 wr) (fun _ i _ => q - (intOf i).toNat)
    case atStart => exact ⟨0, by omega, rfl, rfl, Below.refl _ _⟩
    case round =>
      obtain ⟨k, hk, rfl, rfl, hbel⟩ := hrel
      by_cases hkl : k < q
      · obtain ⟨c0, c1⟩ := sums_cells (HBK.out.below hbel hgl) hkl
        obtain ⟨b', off', u, rfl, hb', hku, g0, g1⟩ := HU1.out.at_ hkl
        rw [← hbel.cell (p := ⟨b', off' + k * 2 + 1, none⟩) hb'] at g1
        have hsb := gsum_bd (p := serB (edgesOn ls ts) q us) (f := ld us) (M := 999) (k := k) (fun c _ => ld_bd HBU.out c)
        have hu4 := busesOk_at HBU.out hku
        have hle := ld_at hku
        have q0 : (0 : Int) ≤ (k : Int) := by omega
        have q1 : (k : Int) < (q : Int) := by omega
        have hzw := hbel.size
        have hbx := hbel.alloc hzw (.cells #[.int .i64 (isum (edgesOn ls ts) q (fd us) k), .int .i64 (isum (edgesOn ls ts) q (ld us) k)] 32)
        have G1 := (World.cell?_alloc_lt wr (.cells #[.int .i64 (isum (edgesOn ls ts) q (fd us) k), .int .i64 (isum (edgesOn ls ts) q (ld us) k)] 32) ⟨b', off' + k * 2 + 1, none⟩ (Nat.lt_of_lt_of_le hb' hzw)).trans g1
        clear g0 g1
        cases hcb : serB (edgesOn ls ts) q us k
        · have HN := Lib.hid (gsum_no (f := ld us) hcb)
          have hx : ¬ isum (edgesOn ls ts) q (ld us) k ≤ isum (edgesOn ls ts) q (fd us) k := by simpa [serB] using hcb
          clear hcb hku hle
          generalize isum (edgesOn ls ts) q (fd us) k = x at *
          generalize isum (edgesOn ls ts) q (ld us) k = y at *
          go_wp2
          go_roundw
          case rel => exact ⟨k + 1, by omega, by go_num, by rw [HN.out], hbx⟩
          case measure => simp [intOf]; omega
        · have HN := Lib.hid (gsum_yes (f := ld us) hcb)
          rw [hle] at HN
          have hx : isum (edgesOn ls ts) q (ld us) k ≤ isum (edgesOn ls ts) q (fd us) k := by simpa [serB] using hcb
          have v1 : IntKind.i64.wrap (gsum (serB (edgesOn ls ts) q us) (ld us) k + u.2) = gsum (serB (edgesOn ls ts) q us) (ld us) k + u.2 := IntWalk.i64_in _ (by omega)
          clear hcb hku hle hsb hu4
          generalize gsum (serB (edgesOn ls ts) q us) (ld us) k = s at *
          generalize isum (edgesOn ls ts) q (fd us) k = x at *
          generalize isum (edgesOn ls ts) q (ld us) k = y at *
          go_wp2
          go_roundw
          case rel => exact ⟨k + 1, by omega, by go_num, by rw [HN.out], hbx⟩
          case measure => simp [intOf]; omega
      · obtain rfl : k = q := by omega
        go_wp2
        go_ret
        exact ⟨retI HF.out.symm, a1.trans (hbel.mono a1.size)⟩
end Go.Proofs.YtobbmnbkjeoheaaDoor
