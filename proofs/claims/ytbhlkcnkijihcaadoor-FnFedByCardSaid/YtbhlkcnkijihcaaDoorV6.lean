/- IslandFeed, IslandLoad, AliveBuses and ServedLoad, of the model. -/
import Derived.Test.YtbhlkcnkijihcaaDoorBCE
import Derived.Test.YtbhlkcnkijihcaaDoorBCF
namespace Go.Proofs.YtbhlkcnkijihcaaDoor
open Go.ChangeShapes Go.WideShapes Go.ChangeAt Go.RowKit

set_option maxRecDepth 100000 in
set_option maxHeartbeats 400000 in
theorem specLoad_any (bs : Int) (A : Option Addr) (n c : Nat) (ls : List L3) (B : Option Addr) (m d : Nat) (ts : List Bool) (U : Option Addr) (q r : Nat) (us : List U2) (bus : Int) (w : World) (hn : n ≤ 1048576) (hr : RowL w A n ls) (hm : m ≤ 1048576) (hrt : RowT w B m ts) (hq : q ≤ 1048576) (hu : RowU w U q us) :
    Calls Tryd.prog 76 #[.agg #[.int .i64 bs, .slice A n c], .slice B m d, .slice U q r, .int .i64 bus] w fun e w' => e = .returned (.int .i64 (loadF bs ls ts us bus)) ∧ Below w.heap.size w w' := by
  have HR := Lib.hid hr
  have HT := Lib.hid hrt
  have HU := Lib.hid hu
  have hlt := hrt.len
  have b0 := below_bx w (.cells #[.int .i64 bs, .slice A n c] 25)
  have K0 := Lib.hid (IsBlk.new w 25 #[.int .i64 bs, .slice A n c])
  clear hr hrt hu
  go_enter Tryd.func76, Tryd.ntmps76
  go_wp2_with fail
  refine (l5Ok_any bs _ n c ls _ m d _ q r us _ hn (HR.out.below b0) hm hq (HU.out.below b0)).mono ?_
  rintro e w1 ⟨rfl, hb1⟩
  have a1 := b0.trans (hb1.mono b0.size)
  have K1 := Lib.hid (K0.out.keep hb1)
  obtain ⟨p0, p1, _, _⟩ := K1.out.two
  cases ho : okU bs ls m us
  · have HF := Lib.hid (feedF_bad (bs := bs) (ls := ls) (ts := ts) (us := us) (by rw [hlt]; exact ho) bus).2
    go_wp2
    go_ret
    exact ⟨retI HF.out.symm, a1⟩
  · have hbs := okU_bs ho
    have hbu := okU_bu ho
    obtain ⟨nb, rfl⟩ := Int.eq_ofNat_of_zero_le (show 0 ≤ bs by omega)
    have hnb : nb ≤ 8 := by omega
    have hqn : q = nb := by have := busesOk_len hbu; have := HU.out.len; omega
    subst hqn
    have hwr : IntKind.i64.wrap ((q : Int) - 1) = (q : Int) - 1 := IntWalk.i64_in _ (by omega)
    cases hw : inB bus 0 ((q : Int) - 1)
    · have HF := Lib.hid (feedF_out (ls := ls) (ts := ts) (us := us) hw).2
      go_wp2_with fail
      refine (l1In_any bus 0 _ _).mono ?_
      rintro e w2 ⟨rfl, rfl⟩
      rw [hw]
      clear hwr
      go_wp2
      go_ret
      exact ⟨retI HF.out.symm, a1⟩
    · have hw2 := hw
      simp only [inB, Bool.and_eq_true, decide_eq_true_eq] at hw2
      obtain ⟨b, rfl⟩ := Int.eq_ofNat_of_zero_le hw2.1
      have hb : b < q := by omega
      have HF := Lib.hid (feedF_in (nb := q) (ls := ls) (ts := ts) (us := us) (by rw [hlt]; exact ho) hb).2
      have HRC := Lib.hid (show rchF q ls ts b = ofN (reachF (edgesOn ls ts) q b) by rw [rchF, hlt, if_pos ⟨okU_st ho, hw⟩]; rfl)
      have HBU := Lib.hid hbu
      go_wp2_with fail
      refine (l1In_any _ 0 _ _).mono ?_
      rintro e w2 ⟨rfl, rfl⟩
      rw [hw]
      clear hwr hw hw2 ho hbu hbs
      go_wp2_with fail
      refine (specRch_any q _ n c ls _ m d ts b _ hn (HR.out.below a1) hm (HT.out.below a1)).mono ?_
      rintro e w2 ⟨v, rfl, hO, hb2⟩
      have a2 := a1.trans (hb2.mono a1.size)
      rw [HRC.out] at hO
      obtain ⟨A2, c2, rfl, hz⟩ := hO.sl
      rw [ofN_len] at hz ⊢
      have HZ := Lib.hid hz
      have HU2 := Lib.hid (HU.out.below a2)
      have hmem : ∀ h ∈ reachF (edgesOn ls ts) q b, h < q := fun h hh => (mem_reachF.1 hh).1
      have HFS := Lib.hid (show lsum (ld us) (reachF (edgesOn ls ts) q b) (reachF (edgesOn ls ts) q b).length = loadF q ls ts us b by rw [lsum_all, isum_list, HF.out])
      have hrl : (reachF (edgesOn ls ts) q b).length ≤ 8 := Nat.le_trans (List.length_filter_le _ _) (by simp; omega)
      clear hO hz HF HRC
      generalize reachF (edgesOn ls ts) q b = hs at *
      have HM := Lib.hid hmem
      clear hmem
      go_wp2_with fail
      go_loopw [9, 11] (fun s i wr => ∃ k : Nat, k ≤ hs.length ∧ i = .int .i64 k ∧ s = .int .i64 (lsum (ld us) hs k) ∧ wr = w2) (fun _ i _ => hs.length - (intOf i).toNat)
      case atStart => exact ⟨0, by omega, rfl, rfl, rfl⟩
      case round =>
        obtain ⟨k, hk, rfl, rfl, rfl⟩ := hrel
        by_cases hkl : k < hs.length
        · obtain ⟨bz, oz, z, rfl, hbz, hkz, g0⟩ := HZ.out.at_ hkl
          have hkh : hs[k]? = some (hs[k]'hkl) := List.getElem?_eq_getElem _
          generalize (hs[k]'hkl) = h at hkh
          rw [ofN_get hkh] at hkz
          injection hkz with hkz
          subst hkz
          have hh := HM.out h (List.mem_of_getElem? hkh)
          obtain ⟨bu, ou, u, rfl, hbu, hku, e0, e1⟩ := HU2.out.at_ hh
          have hs1 := lsum_succ (f := ld us) hkh
          rw [ld_at hku] at hs1
          have HS1 := Lib.hid hs1
          have hbd := lsum_bd (f := ld us) (hs := hs) (M := 999) (fun h _ => ld_bd HBU.out h) k hk
          have hu4 := busesOk_at HBU.out hku
          have v1 : IntKind.i64.wrap (lsum (ld us) hs k + u.2) = lsum (ld us) hs k + u.2 := IntWalk.i64_in _ (by omega)
          have q0 : (0 : Int) ≤ (k : Int) := by omega
          have q1 : (k : Int) < (hs.length : Int) := by omega
          have q2 : (0 : Int) ≤ (h : Int) := by omega
          have q3 : (h : Int) < (q : Int) := by omega
          clear hs1 hbd hu4 hku hkh
          go_wp2
          go_roundw
          case rel => exact ⟨k + 1, by omega, by go_num, by rw [HS1.out], by first | rfl | trivial⟩
          case measure => simp [intOf]; omega
        · obtain rfl : k = hs.length := by omega
          go_wp2
          go_ret
          exact ⟨retI HFS.out, a2⟩

theorem holdV {w w' : World} {X : Nat} {u v : Value} (p0 : w.cell? ⟨X, 0, none⟩ = some u) (p1 : w.cell? ⟨X, 1, none⟩ = some v) (hX : X < w.heap.size) (hb : Below w.heap.size w w') :
    Below w.heap.size w w' ∧ w'.cell? ⟨X, 0, none⟩ = some u ∧ w'.cell? ⟨X, 1, none⟩ = some v :=
  ⟨hb, (hb.cell (p := ⟨X, 0, none⟩) hX).trans p0, (hb.cell (p := ⟨X, 1, none⟩) hX).trans p1⟩
theorem runV {w0 w w' : World} {p : Prop} (h : Below w0.heap.size w0 w ∧ p) (hb : Below w.heap.size w w') : Below w0.heap.size w0 w' := h.1.trans (hb.mono h.1.size)
/-- The memory in which the model lists buses: the network's box and an empty list. -/
theorem numSt5 (w : World) (bs : Int) (n c : Nat) (A : Option Addr) : NumSt w ((w.alloc (.cells #[.int .i64 bs, .slice A n c] 25)).alloc (.cells #[] 3)) bs n c A (.slice (some ⟨w.heap.size + 1, 0, none⟩) 0 0) [] := by
  have hown0 := own_lit (w.alloc (.cells #[.int .i64 bs, .slice A n c] 25))
  simp only [World.size_alloc] at hown0
  exact ⟨hown0, (below_bx w _).alloc (by simp) _, (IsBlk.new w 25 #[.int .i64 bs, .slice A n c]).alloc (.cells #[] 3)⟩

end Go.Proofs.YtbhlkcnkijihcaaDoor
