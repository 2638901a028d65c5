/- Texts joined: ParentLine, PathLines, BelowLine, of the model; PathLines, BelowLine, of the model. -/
import Derived.Test.YtbhlkcnkijihcaaDoorH6
import Derived.Test.YtbhlkcnkijihcaaDoorH8
import Derived.Test.YtbhlkcnkijihcaaDoorQ5

/- ParentLine, PathLines, BelowLine, of the model. -/
namespace Go.Proofs.YtbhlkcnkijihcaaDoor
open Go.ChangeShapes Go.WideShapes Go.ChangeAt Go.RowKit

theorem holdC {w w' : World} {X b o : Nat} {u v z : Value} (p0 : w.cell? ⟨X, 0, none⟩ = some u) (p1 : w.cell? ⟨X, 1, none⟩ = some v) (hX : X < w.heap.size) (e0 : w.cell? ⟨b, o, none⟩ = some z) (hbe : b < w.heap.size) (hb : Below w.heap.size w w') :
    Below w.heap.size w w' ∧ w'.cell? ⟨X, 0, none⟩ = some u ∧ w'.cell? ⟨X, 1, none⟩ = some v ∧ w'.cell? ⟨b, o, none⟩ = some z :=
  ⟨hb, (hb.cell (p := ⟨X, 0, none⟩) hX).trans p0, (hb.cell (p := ⟨X, 1, none⟩) hX).trans p1, (hb.cell (p := ⟨b, o, none⟩) hbe).trans e0⟩
theorem fbyF_neg {bs : Int} {ls : List L3} {ts : List Bool} {us : List U2} {bus : Int} (h : fbyF bs ls ts us bus < 0) : plnF bs ls ts us bus = -1 ∧ patF bs ls ts us bus = [] := by
  by_cases hc : radF bs ls ts us = true ∧ inB bus 0 (bs - 1) = true
  · obtain ⟨h1, h2⟩ := hc
    obtain ⟨hok, _, ho⟩ := radF_iff.1 h1
    have hul := busesOk_len (okU_bu hok)
    have hw : wayF ls ts us bus.toNat = [] := by
      refine wayF_unfed ?_
      rw [Bool.eq_false_iff]; intro hfd
      obtain ⟨f, hf, hc⟩ := fedB_iff.1 hfd
      rw [fbyF, if_pos ⟨h1, h2⟩, feedOf_some ho hf hc (nb := bs.toNat) (by omega)] at h
      omega
    rw [plnF, if_pos ⟨h1, h2⟩, patF, if_pos ⟨h1, h2⟩, hw]
    exact ⟨rfl, rfl⟩
  · rw [plnF, if_neg hc, patF, if_neg hc]; exact ⟨rfl, rfl⟩
theorem fbyF_pos {bs : Int} {ls : List L3} {ts : List Bool} {us : List U2} {bus : Int} (h : ¬ fbyF bs ls ts us bus < 0) : radF bs ls ts us = true ∧ inB bus 0 (bs - 1) = true ∧ fedB (edgesOn ls ts) us bus.toNat = true := by
  by_cases hc : radF bs ls ts us = true ∧ inB bus 0 (bs - 1) = true
  · refine ⟨hc.1, hc.2, ?_⟩
    cases hf : fedB (edgesOn ls ts) us bus.toNat
    · rw [fbyF, if_pos hc, feedOf_none hf] at h; omega
    · rfl
  · rw [fbyF, if_neg hc] at h; omega
theorem par_nil {ls : List L3} {ts : List Bool} {us : List U2} {nb b : Nat} {z : Int} (hz : (parF ls ts us nb)[b]? = some z) (hb : b < nb) (h : wayF ls ts us b = []) : ¬ 0 ≤ z := by
  rw [parF_get hb, h] at hz
  injection hz with hz
  subst hz
  split
  · simp [hd1]
  · omega
theorem par_cons {ls : List L3} {ts : List Bool} {us : List U2} {nb b k : Nat} {ws : List Nat} {z : Int} (hz : (parF ls ts us nb)[b]? = some z) (hb : b < nb) (h : wayF ls ts us b = k :: ws) : z = (k : Int) := by
  rw [parF_get hb] at hz
  injection hz with hz
  subst hz
  cases hf : fedB (edgesOn ls ts) us b
  · rw [wayF_unfed hf] at h; cases h
  · rw [if_pos rfl, h]; rfl

theorem specParentLine_any (bs : Int) (A : Option Addr) (n c : Nat) (ls : List L3) (B : Option Addr) (m d : Nat) (ts : List Bool) (U : Option Addr) (q r : Nat) (us : List U2) (bus : Int) (w : World) (hn : n ≤ 1048576) (hr : RowL w A n ls) (hm : m ≤ 1048576) (hrt : RowT w B m ts) (hq : q ≤ 1048576) (hu : RowU w U q us) :
    Calls Tryd.prog 21 #[.agg #[.int .i64 bs, .slice A n c], .slice B m d, .slice U q r, .int .i64 bus] w fun e w' => e = .returned (.int .i64 (plnF bs ls ts us bus)) ∧ Below w.heap.size w w' := by
  have HR := Lib.hid hr
  have HT := Lib.hid hrt
  have HU := Lib.hid hu
  clear hr hrt hu
  have hbx := below_bx w (.cells #[.int .i64 bs, .slice A n c] 25)
  have BX := Lib.hid (IsBlk.new w 25 #[.int .i64 bs, .slice A n c])
  go_enter Tryd.func21, Tryd.ntmps21
  go_wp2_with fail
  refine (specFedBy_any bs _ n c ls _ m d ts _ q r us bus _ hn (HR.out.below hbx) hm (HT.out.below hbx) hq (HU.out.below hbx)).mono ?_
  rintro e w1 ⟨rfl, hb1⟩
  have a1 : Below w.heap.size w w1 := hbx.trans (hb1.mono (by simp))
  have k1 := Lib.hid (BX.out.keep hb1)
  clear BX hbx
  obtain ⟨p0, p1, _, _⟩ := k1.out.two
  by_cases hneg : fbyF bs ls ts us bus < 0
  · have HF := Lib.hid (fbyF_neg hneg).1
    go_wp2
    go_ret
    exact ⟨retI HF.out.symm, a1⟩
  · obtain ⟨hrad, hin, hfd⟩ := fbyF_pos hneg
    have hbs := okU_bs (radF_iff.1 hrad).1
    obtain ⟨nb, rfl⟩ := Int.eq_ofNat_of_zero_le (show 0 ≤ bs by omega)
    have h3 := hin
    simp only [inB, Bool.and_eq_true, decide_eq_true_eq] at h3
    obtain ⟨b, rfl⟩ := Int.eq_ofNat_of_zero_le h3.1
    have hb : b < nb := by omega
    have HP := Lib.hid (show plnF nb ls ts us b = hd1 (wayF ls ts us b) by rw [plnF, if_pos ⟨hrad, hin⟩]; rfl)
    rw [Int.toNat_natCast] at hfd
    have HFD := Lib.hid hfd
    have HRAD := Lib.hid hrad
    clear hrad hin hfd hbs h3
    go_wp2_with fail
    refine (l6Parents_any nb _ n c ls _ m d ts _ q r us _ (HR.out.below a1) (HT.out.below a1) (HU.out.below a1) HRAD.out).mono ?_
    rintro e w2 ⟨g, cap, rfl, hO, hb2⟩
    have c0 := (hO.at1).2.2.2.2.1 b _ (parF_get hb)
    rw [HFD.out, if_pos rfl, ← HP.out] at c0
    have ii0 : (0 : Int) ≤ (b : Int) := by omega
    have ii1 : (b : Int) < (nb : Int) := by omega
    clear hO
    go_wp2
    go_ret
    exact ⟨rfl, a1.trans (hb2.mono a1.size)⟩

set_option maxRecDepth 100000 in
set_option maxHeartbeats 1000000 in
theorem l6Way_any (nb : Nat) (A : Option Addr) (n c : Nat) (ls : List L3) (ts : List Bool) (us : List U2) (P : Option Addr) (cp : Nat) (b : Nat) (w : World) (hr : RowL w A n ls) (hs : stOk nb ls ts.length = true) (ha : Acyc ls ts) (ho : OneFeed (edgesOn ls ts) us)
    (hp : RowZ w P nb (parF ls ts us nb)) (hb : b < nb) :
    Calls Tryd.prog 63 #[.agg #[.int .i64 (nb : Int), .slice A n c], .slice P nb cp, .int .i64 (b : Int)] w fun e w' => ∃ v, e = .returned v ∧ OwnI 3 w' w.heap.size v (ofN (wayF ls ts us b).reverse) ∧ Below w.heap.size w w' := by
  obtain ⟨i0, hi, hz0, hz1, hz2⟩ := info_parts intInfo6
  have HI := Lib.hid hi
  have HR := Lib.hid hr
  have HA := Lib.hid ha
  have HO := Lib.hid ho
  have HPA := Lib.hid hp
  have HV := Lib.hid (stOk_net hs)
  have hlen := stOk_len hs
  have hn10 : n ≤ 10 := by have := hr.1; omega
  have HWL := Lib.hid (show (wayF ls ts us b).length ≤ 10 from Nat.le_trans (wayF_len ha ho b) (by omega))
  have hbx := below_bx w (.cells #[.int .i64 (nb : Int), .slice A n c] 25)
  have BX := Lib.hid (IsBlk.new w 25 #[.int .i64 (nb : Int), .slice A n c])
  have hown0 := own_lit (w.alloc (.cells #[.int .i64 (nb : Int), .slice A n c] 25))
  simp only [World.size_alloc] at hown0
  have S0 := Lib.hid (show NumSt w ((w.alloc (.cells #[.int .i64 (nb : Int), .slice A n c] 25)).alloc (.cells #[] 3)) nb n c A (.slice (some ⟨w.heap.size + 1, 0, none⟩) 0 0) [] from
    ⟨hown0, hbx.alloc (by simp) _, BX.out.alloc (.cells #[] 3)⟩)
  clear hr hs ha ho hp hi hown0 hbx BX hlen
  generalize hW : wayF ls ts us b = W at *
  have HW := Lib.hid hW
  clear hW
  go_enter Tryd.func63, Tryd.ntmps63
  go_upto_region 2 with fail
  generalize (w.alloc (.cells #[.int .i64 (nb : Int), .slice A n c] 25)).alloc (.cells #[] 3) = W0 at *
  go_loopw [2, 7] (fun bus v wr => ∃ (y G cG : Nat) (acc ws : List Nat), bus = .int .i64 y ∧ y < nb ∧ v = .slice (some ⟨G, 0, none⟩) acc.length cG ∧ W = acc ++ ws ∧ wayF ls ts us y = ws ∧ NumSt w wr nb n c A v (ofN acc.reverse)) (fun _ v _ => 100 - lenV v)
  case atStart => exact ⟨b, _, _, [], W, rfl, hb, rfl, rfl, HW.out, S0.out⟩
  case round =>
    obtain ⟨y, G, cG, acc, ws, rfl, hy, rfl, hacc, hwy, hst⟩ := hrel
    have SK := Lib.hid hst
    have hal : acc.length + ws.length ≤ 10 := by have := HWL.out; rw [hacc, List.length_append] at this; exact this
    obtain ⟨gp, op, z, rfl, hgp, hpz, e0⟩ := HPA.out.at_ hy
    rw [← SK.out.bel.cell (p := ⟨gp, op + y, none⟩) hgp] at e0
    have ii0 : (0 : Int) ≤ (y : Int) := by omega
    have ii1 : (y : Int) < (nb : Int) := by omega
    obtain ⟨p0, p1, _, _⟩ := hst.box.two
    cases ws with
    | nil =>
      have hz := par_nil hpz hy hwy
      have hacc2 : W = acc := by rw [hacc, List.append_nil]
      have HF := Lib.hid (show ofN acc.reverse = ofN W.reverse by rw [hacc2])
      clear hst hacc hacc2 hwy hpz S0
      go_wp2
      go_ret
      exact ⟨_, rfl, by rw [← HF.out]; exact OwnI.more SK.out.own (by omega), SK.out.bel⟩
    | cons k ws =>
      obtain rfl := par_cons hpz hy hwy
      obtain ⟨o, hl, hwo, hwf⟩ := wayF_cons HA.out HO.out hwy
      obtain ⟨l, hl1, hl2, hl3⟩ := hl
      have hoy : otherF nb ls k y = (o : Int) ∧ o < nb := by
        rcases otherF_on HV.out hl1 hl2 (x := y) with ⟨o', h1, h2, h3⟩ | ⟨_, h⟩
        · rcases Ln.two h2 ⟨l, hl1, hl2, hl3⟩ with ⟨e1, e2⟩ | ⟨e1, e2⟩
          · exact absurd e1 (Ln.ne HV.out (⟨l, hl1, hl2, hl3⟩ : Ln ls ts k o y))
          · subst e1; exact ⟨h1, h3⟩
        · exact absurd (Ln.symm ⟨l, hl1, hl2, hl3⟩) (h o)
      have HOY := Lib.hid hoy.1
      have hon : o < nb := hoy.2
      have ii2 : (0 : Int) ≤ (k : Int) := by omega
      have hle3 : acc.length ≤ 9 := by simp at hal; omega
      have HWO := Lib.hid hwf
      have HACC := Lib.hid (show W = (acc ++ [k]) ++ ws by rw [hacc]; simp)
      have HLIT := Lib.hid (World.ownsRow_lit (base := w.heap.size + 1) (size := 1) (e := 3) wr #[.int .i64 (k : Int)] 1 (by have := hst.box.lt; omega) (by simp [maxLen]) rfl)
      have HCL := Lib.hid (World.ownsRow.cells (World.ownsRow.alloc SK.out.own (.cells #[.int .i64 (k : Int)] 3)) (g := G) rfl)
      have hbz := hst.box.lt
      have S1 := Lib.hid (SK.out.next (below_bx wr (.cells #[.int .i64 (k : Int)] 3)))
      have hgp2 : gp < wr.heap.size := Nat.lt_of_lt_of_le hgp SK.out.bel.size
      have HE := Lib.hid e0
      clear hst hacc hwy hl1 hl2 hl3 hoy hwo hwf S0 hpz
      go_wp2_with (
        at_builtin
        refine wpList_append_own _ rfl _ _ _ rfl (w.heap.size + 1) 3 i0 (.int .i64 0) 1 8 Tryd.underlying33 HI.out hz0 hz1 hz2 rfl (by decide) _ _ _ rfl HLIT.out ⟨G, 0, none⟩ acc.length cG ((ofN acc.reverse).map (Value.int .i64)) rfl ?c0 ?c1 ?c2 ?c3 ?c4 ?c5 ?_
        case c0 => simp [ofN]
        case c1 => exact HCL.out
        case c2 => intro u hu; obtain ⟨_, _, rfl⟩ := List.mem_map.1 hu; rfl
        case c3 => simp only [maxLen]; omega
        case c4 => omega
        case c5 => simp; omega
        intro v' w3 hown' hgrow _
        have hb3 : Below wr.heap.size (wr.alloc (.cells #[.int .i64 (k : Int)] 3)) w3 := (Below.refl _ _).grown hgrow (by simp) (fun q hq => by cases hq; exact Nat.le_refl _)
        have S3 := Lib.hid (show NumSt w w3 nb n c A v' (ofN (acc ++ [k]).reverse) from
          ⟨by rw [List.reverse_append]; simpa [OwnI, ofN, Nat.add_comm] using hown', S1.out.bel.trans (hb3.mono SK.out.bel.size), S1.out.box.below hb3 hbz⟩)
        have e3 := (hb3.cell (p := ⟨gp, op + y, none⟩) hgp2).trans (((below_bx wr (.cells #[.int .i64 (k : Int)] 3)).cell (p := ⟨gp, op + y, none⟩) hgp2).trans HE.out)
        clear p0 p1 e0
        obtain ⟨p0, p1, _, _⟩ := S3.out.box.two)
      have hXw := S3.out.box.lt
      have hgw : gp < w3.heap.size := Nat.lt_of_lt_of_le hgp S3.out.bel.size
      clear hown' hgrow hb3
      go_region_held3 (fun w' => Below w3.heap.size w3 w' ∧ w'.cell? ⟨w.heap.size, 0, none⟩ = some (.int .i64 (nb : Int)) ∧ w'.cell? ⟨w.heap.size, 1, none⟩ = some (.slice A n c) ∧ w'.cell? ⟨gp, op + y, none⟩ = some (.int .i64 (k : Int)))
        (first | exact holdC p0 p1 hXw e3 hgw hB4 | exact holdC p0 p1 hXw e3 hgw (Below.drew (Below.refl _ _)) | exact holdC p0 p1 hXw e3 hgw (Below.refl _ _))
        ((go_at_call 88; refine (specOtherEnd_any nb A n c ls k y _ (by omega) (HR.out.below (S3.out.bel.trans ((And.left (by assumption) : Below w3.heap.size w3 _).mono S3.out.bel.size)))).mono ?_; rintro e w4 ⟨rfl, hb4⟩; rw [HOY.out]; have hB4 := runQ (by assumption) hb4))
      have S4 := Lib.hid (S3.out.next hB4)
      obtain ⟨G4, c4, e4⟩ := own_some S4.out.own (by simp [ofN])
      have HE4 := Lib.hid (show v' = .slice (some ⟨G4, 0, none⟩) (acc ++ [k]).length c4 by rw [e4, ofN_len, List.length_reverse])
      clear e4 e3 p0 p1
      go_wp2
      go_roundw
      case rel => exact ⟨o, G4, c4, acc ++ [k], ws, rfl, hon, HE4.out, HACC.out, HWO.out, S4.out⟩
      case measure =>
        rw [HE4.out]
        simp [lenV]
        omega
end Go.Proofs.YtbhlkcnkijihcaaDoor

/- PathLines, BelowLine, of the model. -/
namespace Go.Proofs.YtbhlkcnkijihcaaDoor
open Go.ChangeShapes Go.WideShapes Go.ChangeAt Go.RowKit

theorem holdW {w w' : World} {X : Nat} {u v : Value} (p0 : w.cell? ⟨X, 0, none⟩ = some u) (p1 : w.cell? ⟨X, 1, none⟩ = some v) (hX : X < w.heap.size) (hb : Below w.heap.size w w') :
    Below w.heap.size w w' ∧ w'.cell? ⟨X, 0, none⟩ = some u ∧ w'.cell? ⟨X, 1, none⟩ = some v :=
  ⟨hb, (hb.cell (p := ⟨X, 0, none⟩) hX).trans p0, (hb.cell (p := ⟨X, 1, none⟩) hX).trans p1⟩

theorem patF_len (bs : Int) (ls : List L3) (ts : List Bool) (us : List U2) (bus : Int) : (patF bs ls ts us bus).length ≤ 10 := by
  rw [patF]
  split
  · rename_i h
    obtain ⟨hok, ha, ho⟩ := radF_iff.1 h.1
    rw [ofN_len, List.length_reverse]
    exact Nat.le_trans (wayF_len ha ho _) (stOk_len (okU_st hok)).2
  · simp
theorem belF_len (bs : Int) (ls : List L3) (ts : List Bool) (us : List U2) (line : Int) : (belF bs ls ts us line).length ≤ 8 := by
  rw [belF]
  split
  · rename_i h
    have hbs := okU_bs (radF_iff.1 h).1
    rw [ofN_len]
    exact Nat.le_trans (belTo_len _ _ _ _ _) (by omega)
  · simp

set_option maxRecDepth 100000 in
set_option maxHeartbeats 1000000 in
theorem specPathLines_any (bs : Int) (A : Option Addr) (n c : Nat) (ls : List L3) (B : Option Addr) (m d : Nat) (ts : List Bool) (U : Option Addr) (q r : Nat) (us : List U2) (bus : Int) (w : World) (hn : n ≤ 1048576) (hr : RowL w A n ls) (hm : m ≤ 1048576) (hrt : RowT w B m ts) (hq : q ≤ 1048576) (hu : RowU w U q us) :
    Calls Tryd.prog 26 #[.agg #[.int .i64 bs, .slice A n c], .slice B m d, .slice U q r, .int .i64 bus] w fun e w' => ∃ v, e = .returned v ∧ OwnI 3 w' w.heap.size v (patF bs ls ts us bus) ∧ Below w.heap.size w w' := by
  have HR := Lib.hid hr
  have HT := Lib.hid hrt
  have HU := Lib.hid hu
  clear hr hrt hu
  have hbx := below_bx w (.cells #[.int .i64 bs, .slice A n c] 25)
  have BX := Lib.hid (IsBlk.new w 25 #[.int .i64 bs, .slice A n c])
  go_enter Tryd.func26, Tryd.ntmps26
  go_wp2_with fail
  refine (specFedBy_any bs _ n c ls _ m d ts _ q r us bus _ hn (HR.out.below hbx) hm (HT.out.below hbx) hq (HU.out.below hbx)).mono ?_
  rintro e w1 ⟨rfl, hb1⟩
  have a1 : Below w.heap.size w w1 := hbx.trans (hb1.mono (by simp))
  have k1 := Lib.hid (BX.out.keep hb1)
  clear BX hbx
  obtain ⟨p0, p1, _, _⟩ := k1.out.two
  by_cases hneg : fbyF bs ls ts us bus < 0
  · have HF := Lib.hid (fbyF_neg hneg).2
    have hol := own_lit w1
    go_wp2
    go_ret
    exact ⟨_, rfl, by rw [HF.out]; exact OwnI.more hol a1.size, a1.alloc a1.size _⟩
  · obtain ⟨hrad, hin, hfd⟩ := fbyF_pos hneg
    obtain ⟨hok, ha, ho⟩ := radF_iff.1 hrad
    have hbs := okU_bs hok
    obtain ⟨nb, rfl⟩ := Int.eq_ofNat_of_zero_le (show 0 ≤ bs by omega)
    have h3 := hin
    simp only [inB, Bool.and_eq_true, decide_eq_true_eq] at h3
    obtain ⟨b, rfl⟩ := Int.eq_ofNat_of_zero_le h3.1
    have hb : b < nb := by omega
    have HP := Lib.hid (show patF nb ls ts us b = ofN (wayF ls ts us b).reverse by rw [patF, if_pos ⟨hrad, hin⟩]; rfl)
    have HS := Lib.hid (okU_st hok)
    have HA := Lib.hid ha
    have HO := Lib.hid ho
    have CP := Lib.hid (fun (W : World) (hW : Below w1.heap.size w1 W) => l6Parents_any nb A n c ls B m d ts U q r us W (HR.out.below (a1.trans (hW.mono a1.size))) (HT.out.below (a1.trans (hW.mono a1.size))) (HU.out.below (a1.trans (hW.mono a1.size))) hrad)
    have hXw := k1.out.lt
    clear hrad hin hfd hok ha ho hbs h3
    go_upto_region 3 with fail
    go_region_held3 (fun w' => Below w1.heap.size w1 w' ∧ w'.cell? ⟨w.heap.size, 0, none⟩ = some (.int .i64 (nb : Int)) ∧ w'.cell? ⟨w.heap.size, 1, none⟩ = some (.slice A n c))
      (first | exact holdW p0 p1 hXw hB6 | exact holdW p0 p1 hXw hB5 | exact holdW p0 p1 hXw (Below.drew (Below.refl _ _)) | exact holdW p0 p1 hXw (Below.refl _ _))
      (first
        | (go_at_call 59; (with_reducible refine (CP.out _ (And.left (by assumption))).mono ?_); rintro e w5 ⟨g, cap, rfl, hO5, hb5⟩; have hB5 := runQ (by assumption) hb5)
        | (go_at_call 63; refine (l6Way_any nb A n c ls ts us (some ⟨g, 0, none⟩) cap b _ (HR.out.below (a1.trans (hB5.mono a1.size))) HS.out HA.out HO.out (OwnI.rowZ hO5) hb).mono ?_; rintro e w6 ⟨v, rfl, hO6, hb6⟩; have hB6 := hB5.trans (hb6.mono hB5.size)))
    have H6 := Lib.hid (hO6.more (Nat.le_trans a1.size hB5.size))
    clear hO6 hO5
    go_wp2
    go_ret
    exact ⟨_, rfl, by rw [HP.out]; exact H6.out, a1.trans (hB6.mono a1.size)⟩

set_option maxRecDepth 100000 in
set_option maxHeartbeats 1000000 in
theorem specBelowLine_any (bs : Int) (A : Option Addr) (n c : Nat) (ls : List L3) (B : Option Addr) (m d : Nat) (ts : List Bool) (U : Option Addr) (q r : Nat) (us : List U2) (line : Int) (w : World) (hn : n ≤ 1048576) (hr : RowL w A n ls) (hm : m ≤ 1048576) (hrt : RowT w B m ts) (hq : q ≤ 1048576) (hu : RowU w U q us) :
    Calls Tryd.prog 29 #[.agg #[.int .i64 bs, .slice A n c], .slice B m d, .slice U q r, .int .i64 line] w fun e w' => ∃ v, e = .returned v ∧ OwnI 3 w' w.heap.size v (belF bs ls ts us line) ∧ Below w.heap.size w w' := by
  obtain ⟨i0, hi, hz0, hz1, hz2⟩ := info_parts intInfo6
  have HI := Lib.hid hi
  have HR := Lib.hid hr
  have HT := Lib.hid hrt
  have HU := Lib.hid hu
  clear hr hrt hu hi
  have S0 := Lib.hid (numSt_start w bs n c A)
  go_enter Tryd.func29, Tryd.ntmps29
  go_upto_region 2 with fail
  generalize (w.alloc (.cells #[.int .i64 bs, .slice A n c] 25)).alloc (.cells #[] 3) = W0 at *
  obtain ⟨p0, p1, _, _⟩ := S0.out.box.two
  go_wp2_with fail
  refine (specRadial_any bs _ n c ls _ m d ts _ q r us _ hn (HR.out.below S0.out.bel) hm (HT.out.below S0.out.bel) hq (HU.out.below S0.out.bel)).mono ?_
  rintro e w1 ⟨rfl, hb1⟩
  have S1 := Lib.hid (S0.out.next hb1)
  clear S0 p0 p1
  obtain ⟨p0, p1, _, _⟩ := S1.out.box.two
  cases hrad : radF bs ls ts us
  · have HF := Lib.hid (show belF bs ls ts us line = [] by rw [belF, if_neg (by rw [hrad]; simp)])
    go_wp2
    go_ret
    exact ⟨_, rfl, by rw [HF.out]; exact OwnI.more S1.out.own (by omega), S1.out.bel⟩
  · obtain ⟨hok, ha, ho⟩ := radF_iff.1 hrad
    have hbs := okU_bs hok
    obtain ⟨nb, rfl⟩ := Int.eq_ofNat_of_zero_le (show 0 ≤ bs by omega)
    have hnb : nb ≤ 8 := by omega
    have HS := Lib.hid (okU_st hok)
    have HA := Lib.hid ha
    have HO := Lib.hid ho
    have HRAD := Lib.hid hrad
    have HTL := Lib.hid (show ts.length ≤ 10 from (stOk_len HS.out).2)
    have HF := Lib.hid (show belF nb ls ts us line = ofN (belTo ls ts us line nb) by rw [belF, if_pos hrad]; rfl)
    clear hrad hok ha ho hbs hb1
    go_wp2_with fail
    refine (l6Parents_any nb _ n c ls _ m d ts _ q r us _ (HR.out.below S1.out.bel) (HT.out.below S1.out.bel) (HU.out.below S1.out.bel) HRAD.out).mono ?_
    rintro e w2 ⟨g, cap, rfl, hO2, hb2⟩
    have S2 := Lib.hid (S1.out.next hb2)
    have HZ2 := Lib.hid (OwnI.rowZ hO2)
    have hlt2 := (hO2.at1)
    have hg1 : w1.heap.size ≤ g := hlt2.1
    have hown1 := OwnI.lt S1.out.own
    have hg2 : g < w2.heap.size := hlt2.2.1
    clear S1 p0 p1 hO2 hlt2
    go_wp2
    go_loopw [9, 11] (fun v i wr => ∃ k : Nat, k ≤ nb ∧ i = .int .i64 k ∧ NumSt w wr nb n c A v (ofN (belTo ls ts us line k)) ∧ RowZ wr (some ⟨g, 0, none⟩) nb (parF ls ts us nb) ∧ g < wr.heap.size ∧ ∀ q, v.ownBlock = some q → q ≠ g) (fun _ i _ => nb - (intOf i).toNat)
    case atStart => exact ⟨0, by omega, rfl, S2.out, HZ2.out, hg2, fun q hq e => by have := (hown1 q hq).2; omega⟩
    case round =>
      obtain ⟨k, hk, rfl, hst, hzr, hgl, hfar⟩ := hrel
      have SK := Lib.hid hst
      have HZ := Lib.hid hzr
      have HFAR := Lib.hid hfar
      clear hst hzr hfar S2 HZ2
      obtain ⟨p0, p1, _, _⟩ := SK.out.box.two
      by_cases hlt : k < nb
      · have HN := Lib.hid (belTo_next ls ts us line k)
        have hle2 : (ofN (belTo ls ts us line k)).length ≤ k := by rw [ofN_len]; exact belTo_len ls ts us line k
        have hwl := wayF_len HA.out HO.out k
        have HWL := Lib.hid (show (ofN (wayF ls ts us k).reverse).length ≤ 1048576 by rw [ofN_len, List.length_reverse]; have := HTL.out; omega)
        have hbB : decide (line ∈ ofN (wayF ls ts us k).reverse) = belB ls ts us line k := by rw [belB, ← ofN_rev]; simp
        have HBB := Lib.hid hbB
        have ii0 : (k : Int) < (nb : Int) := by omega
        have hbz := SK.out.box.lt
        clear hwl hbB
        go_wp2_with fail
        refine (l6Way_any nb _ n c ls ts us _ cap k _ (HR.out.below SK.out.bel) HS.out HA.out HO.out HZ.out hlt).mono ?_
        rintro e w3 ⟨v2, rfl, hO3, hb3⟩
        obtain ⟨A2, c2, rfl, hZ3⟩ := hO3.sl
        have S3 := Lib.hid (SK.out.next hb3)
        have HZ3 := Lib.hid (HZ.out.below hb3)
        have hgl3 : g < w3.heap.size := Nat.lt_of_lt_of_le hgl hb3.size
        have hz3 : w.heap.size < w3.heap.size := Nat.lt_of_lt_of_le hbz hb3.size
        clear hO3
        go_wp2_with fail
        refine (l1Has_any _ _ _ _ line _ HWL.out hZ3).mono ?_
        rintro e w4 ⟨rfl, rfl⟩
        rw [HBB.out]
        clear p0 p1
        obtain ⟨p0, p1, _, _⟩ := S3.out.box.two
        cases hcb : belB ls ts us line k
        · rw [hcb] at HN
          clear hcb HBB
          go_wp2
          go_roundw
          case rel => exact ⟨k + 1, by omega, by go_num, by rw [HN.out]; simpa using S3.out, HZ3.out, hgl3, HFAR.out⟩
          case measure => simp [intOf]; omega
        · rw [hcb] at HN
          have HN2 := Lib.hid (show ofN (belTo ls ts us line (k + 1)) = ofN (belTo ls ts us line k) ++ [(k : Int)] by rw [HN.out]; rfl)
          clear hcb HBB HN
          go_wp2_with (
            at_builtin
            refine wpList_append_lies _ rfl _ _ _ rfl (w.heap.size + 1) 3 i0 (.int .i64 0) 1 8 Tryd.underlying33 HI.out hz0 hz1 hz2 rfl (by decide) _ _ _ rfl (World.ownsRow.alloc S3.out.own _) ⟨w3.heap.size, 0, none⟩ 1 1 [.int .i64 (k : Int)] rfl rfl ?c1 ?c2 (by decide) ?c3 ?c4 ?c5 _ rfl ?_
            case c1 => exact cell_one_new _ _ _
            case c2 => intro u hu; simp at hu; subst hu; rfl
            case c3 => simp only [maxLen]; omega
            case c4 => omega
            case c5 => simp; omega
            intro g' cap' w5 hown' hgrow hat _
            have S5 := Lib.hid (S3.out.push (zs' := ofN (belTo ls ts us line (k + 1))) (.cells #[.int .i64 (k : Int)] 3) (by rw [HN2.out]; simpa [OwnI] using hown') hgrow)
            have HZ5 := Lib.hid (RowV.grown (HZ3.out.below (below_bx w3 (.cells #[.int .i64 (k : Int)] 3))) hgrow (fun b off e e2 => HFAR.out _ e2 (by injection e with e; injection e with e; exact e.symm)))
            have HG5 := Lib.hid hgrow.size
            have HAT := Lib.hid hat)
          go_roundw
          case rel =>
            refine ⟨k + 1, by omega, by go_num, S5.out, HZ5.out, by have := HG5.out; simp at this; omega, fun q hq e => ?_⟩
            have e3 : g' = q := by simpa [Value.ownBlock] using hq
            rcases HAT.out with h | h
            · exact HFAR.out _ h (by omega)
            · rw [World.size_alloc] at h; omega
          case measure => simp [intOf]; omega
      · obtain rfl : k = nb := by omega
        go_wp2
        go_ret
        exact ⟨_, rfl, by rw [HF.out]; exact OwnI.more SK.out.own (by omega), SK.out.bel⟩
end Go.Proofs.YtbhlkcnkijihcaaDoor
