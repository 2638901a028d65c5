/- IslandFeed and IslandLoad, of the program. -/
import Derived.Test.YtobbmnbkjeoheaaDoorV3
namespace Go.Proofs.YtobbmnbkjeoheaaDoor
open Go.ChangeShapes Go.WideShapes Go.ChangeAt Go.RowKit

theorem feedF_bad {bs : Int} {ls : List L3} {ts : List Bool} {us : List U2} (h : okU bs ls ts.length us = false) (bus : Int) : feedF bs ls ts us bus = -1 ∧ loadF bs ls ts us bus = -1 := by
  rw [feedF, loadF, h]; simp
theorem feedF_out {bs : Int} {ls : List L3} {ts : List Bool} {us : List U2} {bus : Int} (h : inB bus 0 (bs - 1) = false) : feedF bs ls ts us bus = -1 ∧ loadF bs ls ts us bus = -1 := by
  rw [feedF, loadF, h]; simp
theorem feedF_in {nb b : Nat} {ls : List L3} {ts : List Bool} {us : List U2} (h : okU nb ls ts.length us = true) (hb : b < nb) : feedF nb ls ts us b = isum (edgesOn ls ts) nb (fd us) b ∧ loadF nb ls ts us b = isum (edgesOn ls ts) nb (ld us) b := by
  have hi : inB (b : Int) 0 ((nb : Int) - 1) = true := by simp [inB]; omega
  rw [feedF, loadF, h, hi]; simp

set_option maxRecDepth 100000 in
theorem islandSum_any (bs : Int) (A : Option Addr) (n c : Nat) (ls : List L3) (B : Option Addr) (m d : Nat) (ts : List Bool) (U : Option Addr) (q r : Nat) (us : List U2) (bus : Int) (w : World) (hn : n ≤ 1048576) (hr : RowL w A n ls) (hm : m ≤ 1048576) (hrt : RowT w B m ts) (hq : q ≤ 1048576) (hu : RowU w U q us) :
    Calls Tryd.prog 45 #[.agg #[.int .i64 bs, .slice A n c], .slice B m d, .slice U q r, .int .i64 bus] w fun e w' => e = .returned (.agg #[.int .i64 (feedF bs ls ts us bus), .int .i64 (loadF bs ls ts us bus)]) ∧ Below w.heap.size w w' := by
  have HR := Lib.hid hr
  have HT := Lib.hid hrt
  have HU := Lib.hid hu
  have hlt := hrt.len
  have b0 : Below w.heap.size w ((w.alloc (.cells #[.int .i64 bs, .slice A n c] 25)).alloc (.cells #[.int .i64 0, .int .i64 0] 32)) := (below_bx w _).alloc (by simp) _
  have K0 := Lib.hid (IsBlk.new (w.alloc (.cells #[.int .i64 bs, .slice A n c] 25)) 32 #[.int .i64 0, .int .i64 0])
  clear hr hrt hu
  cases ho : okU bs ls m us
  · obtain ⟨e1, e2⟩ := feedF_bad (bs := bs) (ls := ls) (ts := ts) (us := us) (by rw [hlt]; exact ho) bus
    rw [e1, e2]
    have HO := Lib.hid ho
    clear ho e1 e2 hlt
    go_enter Tryd.func45, Tryd.ntmps45
    go_wp2_with fail
    refine (sums_bad bs _ n c ls _ m d _ q r us _ hn (HR.out.below b0) hm hq (HU.out.below b0) HO.out).mono ?_
    rintro e w1 ⟨rfl, hb1⟩
    obtain ⟨p0, p1, p2, p3⟩ := (K0.out.keep hb1).two
    simp only [World.size_alloc] at p0 p1 p2 p3
    have hw : inB bus 0 (-1) = false := by rw [Bool.eq_false_iff]; intro h; simp [inB] at h; omega
    go_wp2_with fail
    refine (within_any bus 0 (-1) _).mono ?_
    rintro e w2 ⟨rfl, rfl⟩
    rw [hw]
    go_wp2
    refine bodyPost_ret (v := .agg #[.int .i64 (-1), .int .i64 (-1)]) (by simp [results, Tryd.results45, go_sem, p0, p1]) rfl ⟨rfl, ?_⟩
    exact ((b0.trans (hb1.mono b0.size)).setCell (by simp) _).setCell (by simp) _
  · have hbs := okU_bs ho
    obtain ⟨nb, rfl⟩ := Int.eq_ofNat_of_zero_le (show 0 ≤ bs by omega)
    have hnb : nb ≤ 8 := by omega
    have HO := Lib.hid ho
    have HLT := Lib.hid hlt
    clear ho hbs hlt
    go_enter Tryd.func45, Tryd.ntmps45
    go_wp2_with fail
    refine (sums_ok nb _ n c ls _ m d ts _ q r us _ hn (HR.out.below b0) hm (HT.out.below b0) hq (HU.out.below b0) HO.out).mono ?_
    rintro e w1 ⟨g, rfl, hg, hblk, hb1⟩
    have a1 := b0.trans (hb1.mono b0.size)
    obtain ⟨p0, p1, p2, p3⟩ := (K0.out.keep hb1).two
    simp only [World.size_alloc] at p0 p1 p2 p3
    have HBK := Lib.hid hblk
    clear hblk
    have hwr : IntKind.i64.wrap ((nb : Int) - 1) = (nb : Int) - 1 := IntWalk.i64_in _ (by omega)
    cases hw : inB bus 0 ((nb : Int) - 1)
    · have E12 := Lib.hid (feedF_out (ls := ls) (ts := ts) (us := us) hw)
      go_wp2_with fail
      refine (within_any bus 0 _ _).mono ?_
      rintro e w2 ⟨rfl, rfl⟩
      rw [hw]
      clear hwr
      go_wp2
      refine bodyPost_ret (v := .agg #[.int .i64 (-1), .int .i64 (-1)]) (by simp [results, Tryd.results45, go_sem, p0, p1]) rfl ⟨by rw [E12.out.1, E12.out.2], ?_⟩
      exact (a1.setCell (by simp) _).setCell (by simp) _
    · have hw2 := hw
      simp only [inB, Bool.and_eq_true, decide_eq_true_eq] at hw2
      obtain ⟨b, rfl⟩ := Int.eq_ofNat_of_zero_le hw2.1
      have hb : b < nb := by omega
      have E12 := Lib.hid (feedF_in (nb := nb) (ls := ls) (ts := ts) (us := us) (by rw [HLT.out]; exact HO.out) hb)
      have hget := rowArr_get (f := fU) fU_len (sumsF_get (es := edgesOn ls ts) (us := us) hb)
      have c0 := (HBK.out.cell (b * 2)).trans (hget 0 (by omega))
      have c1 := (HBK.out.cell (b * 2 + 1)).trans (hget 1 (by omega))
      simp only [fU] at c0 c1
      generalize isum (edgesOn ls ts) nb (fd us) b = X at *
      generalize isum (edgesOn ls ts) nb (ld us) b = Y at *
      replace c0 : w1.cell? ⟨g, b * 2, none⟩ = some (.int .i64 X) := c0
      replace c1 : w1.cell? ⟨g, b * 2 + 1, none⟩ = some (.int .i64 Y) := c1
      have i0 : (0 : Int) ≤ (b : Int) := by omega
      have i1 : (b : Int) < (nb : Int) := by omega
      clear hget hw2
      go_wp2_with fail
      refine (within_any _ 0 _ _).mono ?_
      rintro e w2 ⟨rfl, rfl⟩
      rw [hw]
      clear hwr hw
      go_wp2
      refine bodyPost_ret (v := .agg #[.int .i64 X, .int .i64 Y]) (by simp [results, Tryd.results45, go_sem, p0, p1]) rfl ⟨by rw [E12.out.1, E12.out.2], ?_⟩
      exact (a1.setCell (by simp) _).setCell (by simp) _

theorem islandFeed_any (bs : Int) (A : Option Addr) (n c : Nat) (ls : List L3) (B : Option Addr) (m d : Nat) (ts : List Bool) (U : Option Addr) (q r : Nat) (us : List U2) (bus : Int) (w : World) (hn : n ≤ 1048576) (hr : RowL w A n ls) (hm : m ≤ 1048576) (hrt : RowT w B m ts) (hq : q ≤ 1048576) (hu : RowU w U q us) :
    Calls Tryd.prog 14 #[.agg #[.int .i64 bs, .slice A n c], .slice B m d, .slice U q r, .int .i64 bus] w fun e w' => e = .returned (.int .i64 (feedF bs ls ts us bus)) ∧ Below w.heap.size w w' := by
  have b0 := below_bx w (.cells #[.int .i64 bs, .slice A n c] 25)
  have hfd : ∀ (x y : Int) (w : World), (Instr.field 32 (.agg #[.int .i64 x, .int .i64 y]) 0).run Tryd.prog w = .ok (.int .i64 x) w := fun _ _ _ => by kernel_rfl
  go_enter Tryd.func14, Tryd.ntmps14
  go_wp2_with fail
  refine (islandSum_any bs _ n c ls _ m d ts _ q r us bus _ hn (hr.below b0) hm (hrt.below b0) hq (hu.below b0)).mono ?_
  rintro e w1 ⟨rfl, hb1⟩
  go_wp2
  go_ret
  exact ⟨rfl, b0.trans (hb1.mono b0.size)⟩
theorem islandLoad_any (bs : Int) (A : Option Addr) (n c : Nat) (ls : List L3) (B : Option Addr) (m d : Nat) (ts : List Bool) (U : Option Addr) (q r : Nat) (us : List U2) (bus : Int) (w : World) (hn : n ≤ 1048576) (hr : RowL w A n ls) (hm : m ≤ 1048576) (hrt : RowT w B m ts) (hq : q ≤ 1048576) (hu : RowU w U q us) :
    Calls Tryd.prog 19 #[.agg #[.int .i64 bs, .slice A n c], .slice B m d, .slice U q r, .int .i64 bus] w fun e w' => e = .returned (.int .i64 (loadF bs ls ts us bus)) ∧ Below w.heap.size w w' := by
  have b0 := below_bx w (.cells #[.int .i64 bs, .slice A n c] 25)
  have hfd : ∀ (x y : Int) (w : World), (Instr.field 32 (.agg #[.int .i64 x, .int .i64 y]) 1).run Tryd.prog w = .ok (.int .i64 y) w := fun _ _ _ => by kernel_rfl
  go_enter Tryd.func19, Tryd.ntmps19
  go_wp2_with fail
  refine (islandSum_any bs _ n c ls _ m d ts _ q r us bus _ hn (hr.below b0) hm (hrt.below b0) hq (hu.below b0)).mono ?_
  rintro e w1 ⟨rfl, hb1⟩
  go_wp2
  go_ret
  exact ⟨rfl, b0.trans (hb1.mono b0.size)⟩
end Go.Proofs.YtobbmnbkjeoheaaDoor
