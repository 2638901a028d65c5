/- PathLines, BelowLine, of the program. -/
import Derived.Test.YtbhlkcnkijihcaaDoorBHD
import Derived.Test.YtbhlkcnkijihcaaDoorH5
namespace Go.Proofs.YtbhlkcnkijihcaaDoor
open Go.ChangeShapes Go.WideShapes Go.ChangeAt Go.RowKit

theorem hd1_nil : hd1 [] = -1 := rfl
theorem hd1_cons (k : Nat) (ws : List Nat) : hd1 (k :: ws) = (k : Int) := rfl
theorem ofN_rev (zs : List Nat) : (ofN zs).reverse = ofN zs.reverse := by simp [ofN, List.map_reverse]

set_option maxRecDepth 100000 in
set_option maxHeartbeats 1000000 in
theorem pathTo_any (nb : Nat) (A : Option Addr) (n c : Nat) (ls : List L3) (ts : List Bool) (us : List U2) (g b : Nat) (w : World) (hr : RowL w A n ls) (hs : stOk nb ls ts.length = true) (ha : Acyc ls ts) (ho : OneFeed (edgesOn ls ts) us)
    (hblk : IsBlk w g 56 (rowArr fU (supF ls ts us nb))) (hb : b < nb) :
    Calls Tryd.prog 61 #[.agg #[.int .i64 (nb : Int), .slice A n c], .slice (some ⟨g, 0, none⟩) nb nb, .int .i64 (b : Int)] w fun e w' => ∃ v, e = .returned v ∧ OwnI 3 w' w.heap.size v (ofN (wayF ls ts us b).reverse) ∧ Below w.heap.size w w' := by
  obtain ⟨i0, hi, hz0, hz1, hz2⟩ := info_parts intInfo6
  have HI := Lib.hid hi
  have HR := Lib.hid hr
  have HA := Lib.hid ha
  have HO := Lib.hid ho
  have HV := Lib.hid (stOk_net hs)
  have hlen := stOk_len hs
  have hbs := stOk_bs hs
  have hn10 : n ≤ 10 := by have := hr.1; omega
  have HWL := Lib.hid (show (wayF ls ts us b).length ≤ 10 from Nat.le_trans (wayF_len ha ho b) (by omega))
  have hgw := hblk.lt
  have sup : ∀ (wr : World) (y : Nat), Below w.heap.size w wr → y < nb → wr.cell? ⟨g, y * 2 + 1, none⟩ = some (.int .i64 (hd1 (wayF ls ts us y))) := fun wr y hbel hy =>
    ((hblk.keep hbel).cell _).trans (rowArr_get (f := fU) fU_len (supF_get hy) 1 (by omega))
  have SUP := Lib.hid sup
  have BX := Lib.hid (IsBlk.new w 25 #[.int .i64 (nb : Int), .slice A n c])
  have hbx := below_bx w (.cells #[.int .i64 (nb : Int), .slice A n c] 25)
  have c0 := sup _ _ hbx hb
  have ii0 : (0 : Int) ≤ (b : Int) := by omega
  have ii1 : (b : Int) < (nb : Int) := by omega
  have hsz0 : w.heap.size + 1 ≤ (w.alloc (.cells #[.int .i64 (nb : Int), .slice A n c] 25)).heap.size := by simp
  clear hr hs ha ho hblk hlen sup hi
  generalize hW : wayF ls ts us b = W at *
  have HW := Lib.hid hW
  clear hW
  go_enter Tryd.func61, Tryd.ntmps61
  go_upto_region 1 with fail
  generalize w.alloc (.cells #[.int .i64 (nb : Int), .slice A n c] 25) = w1 at *
  go_wp2
  clear c0 ii0 ii1
  go_loopw [2, 7, 8] (fun bus v line wr => ∃ (y : Nat) (acc ws : List Nat), bus = .int .i64 y ∧ y < nb ∧ line = .int .i64 (hd1 ws) ∧ W = acc ++ ws ∧ wayF ls ts us y = ws ∧ OwnI 3 wr (w.heap.size + 1) v (ofN acc) ∧ Below w.heap.size w wr ∧ IsBlk wr w.heap.size 25 #[.int .i64 (nb : Int), .slice A n c] ∧ w.heap.size + 1 ≤ wr.heap.size) (fun _ v _ _ => 100 - lenV v)
  case atStart => exact ⟨b, [], W, rfl, hb, rfl, rfl, HW.out, OwnI.nil, hbx, BX.out, hsz0⟩
  case round =>
    obtain ⟨y, acc, ws, rfl, hy, rfl, hacc, hwy, hown, hbel, hbox, hsz⟩ := hrel
    have KO := Lib.hid hown
    have KB := Lib.hid hbox
    have hal : acc.length + ws.length ≤ 10 := by have := HWL.out; rw [hacc, List.length_append] at this; exact this
    obtain ⟨Av, cv, ev, _⟩ := hown.sl
    rw [ofN_len] at ev
    cases ws with
    | nil =>
      have hacc2 : W = acc := by rw [hacc, List.append_nil]
      have HW2 := Lib.hid (show (ofN acc).reverse = ofN W.reverse by rw [ofN_rev, hacc2])
      have hle : (ofN acc).length ≤ 1048576 := by rw [ofN_len]; omega
      rw [hd1_nil]
      clear hown hbox hacc hacc2 hwy hal BX HW HWL
      subst ev
      go_wp2_with fail
      refine (reverse_any (w.heap.size + 1) _ _ _ hle KO.out hsz).mono ?_
      rintro e w2 ⟨rfl, hr2, hb2⟩
      rw [HW2.out] at hr2
      have HR2 := Lib.hid hr2
      clear hr2
      go_wp2
      go_ret
      exact ⟨_, rfl, OwnI.more HR2.out (by omega), hbel.trans (hb2.mono (by omega))⟩
    | cons k ws =>
      obtain ⟨o, hl, hwo, hwf⟩ := wayF_cons HA.out HO.out hwy
      obtain ⟨l, hl1, hl2, hl3⟩ := hl
      have hoy : otherF nb ls k y = (o : Int) ∧ o < nb := by
        rcases otherF_on HV.out hl1 hl2 (x := y) with ⟨o', h1, h2, h3⟩ | ⟨_, h⟩
        · rcases Ln.two h2 ⟨l, hl1, hl2, hl3⟩ with ⟨e1, e2⟩ | ⟨e1, e2⟩
          · exact absurd e1 (Ln.ne HV.out (⟨l, hl1, hl2, hl3⟩ : Ln ls ts k o y))
          · subst e1; exact ⟨h1, h3⟩
        · exact absurd (Ln.symm ⟨l, hl1, hl2, hl3⟩) (h o)
      have HOY := Lib.hid hoy.1
      have hon : o < nb := hoy.2
      rw [hd1_cons]
      have hk0 : (0 : Int) ≤ (k : Int) := by omega
      obtain ⟨p0, p1, _, _⟩ := hbox.two
      have hle3 : (ofN acc).length ≤ 9 := by rw [ofN_len]; simp at hal; omega
      have HWO := Lib.hid hwf
      have HACC := Lib.hid (show W = (acc ++ [k]) ++ ws by rw [hacc]; simp)
      have ii0 : (0 : Int) ≤ (o : Int) := by omega
      have ii1 : (o : Int) < (nb : Int) := by omega
      have hbl1 : Below w.heap.size w (wr.alloc (.cells #[.int .i64 (k : Int)] 3)) := hbel.alloc (by omega) _
      clear hown hbox hacc hwy hl1 hl2 hl3 hoy hwo hwf BX
      subst ev
      go_wp2_with (
        at_builtin
        refine wpList_append_own _ rfl _ _ _ rfl (w.heap.size + 1) 3 i0 (.int .i64 0) 1 8 Tryd.underlying33 HI.out hz0 hz1 hz2 rfl (by decide) _ _ _ rfl (World.ownsRow.alloc KO.out _) ⟨wr.heap.size, 0, none⟩ 1 1 [.int .i64 (k : Int)] rfl rfl ?c1 ?c2 ?c3 ?c4 ?c5 ?_
        case c1 => exact cell_one_new _ _ _
        case c2 => intro u hu; simp at hu; subst hu; rfl
        case c3 => simp only [maxLen]; omega
        case c4 => omega
        case c5 => simp; omega
        intro v' w3 hown' hgrow _
        have hb3 : Below (w.heap.size + 1) (wr.alloc (.cells #[.int .i64 (k : Int)] 3)) w3 := (Below.refl _ _).grown hgrow (by simp; omega) (fun q hq => (World.ownsRow.lt KO.out q hq).1)
        have hbl3 := hbl1.trans (hb3.mono (by omega))
        have KB3 := Lib.hid (((KB.out.alloc (.cells #[.int .i64 (k : Int)] 3))).below hb3 (by omega))
        clear p0 p1
        obtain ⟨p0, p1, _, _⟩ := KB3.out.two)
      refine (otherEnd_any nb _ n c ls k y _ (by omega) (HR.out.below hbl3)).mono ?_
      rintro e w4 ⟨rfl, hb4⟩
      rw [HOY.out]
      have hbl4 : Below w.heap.size w w4 := hbl3.trans (hb4.mono hbl3.size)
      have KB4 := Lib.hid (KB3.out.keep hb4)
      have c0 := SUP.out w4 o hbl4 hon
      rw [HWO.out] at c0
      have KO4 := Lib.hid (show OwnI 3 w4 (w.heap.size + 1) v' (ofN (acc ++ [k])) from OwnI.keep (by rw [ofN_snoc]; simpa [OwnI] using hown') hb4)
      have hsz4 : w.heap.size + 1 ≤ w4.heap.size := by have := hb3.size; have := hb4.size; simp at *; omega
      have HAL := Lib.hid (show acc.length < 100 by simp at hal; omega)
      obtain ⟨A4, c4, e4, _⟩ := KO4.out.sl
      have HE4 := Lib.hid e4
      clear hown' hgrow hb3 hb4 hbl1 hbl3 e4 hal
      go_wp2
      go_roundw
      case rel => exact ⟨o, acc ++ [k], ws, rfl, hon, rfl, HACC.out, HWO.out, KO4.out, hbl4, KB4.out, hsz4⟩
      case measure =>
        have h1 := HAL.out
        rw [HE4.out]
        simp [lenV, ofN_len]
        omega

set_option maxRecDepth 100000 in
theorem pathLines_any (bs : Int) (A : Option Addr) (n c : Nat) (ls : List L3) (B : Option Addr) (m d : Nat) (ts : List Bool) (U : Option Addr) (q r : Nat) (us : List U2) (bus : Int) (w : World) (hn : n ≤ 1048576) (hr : RowL w A n ls) (hm : m ≤ 1048576) (hrt : RowT w B m ts) (hq : q ≤ 1048576) (hu : RowU w U q us) :
    Calls Tryd.prog 22 #[.agg #[.int .i64 bs, .slice A n c], .slice B m d, .slice U q r, .int .i64 bus] w fun e w' => ∃ v, e = .returned v ∧ OwnI 3 w' w.heap.size v (patF bs ls ts us bus) ∧ Below w.heap.size w w' := by
  have HR := Lib.hid hr
  have HT := Lib.hid hrt
  have HU := Lib.hid hu
  have b0 := below_bx w (.cells #[.int .i64 bs, .slice A n c] 25)
  have K0 := Lib.hid (IsBlk.new w 25 #[.int .i64 bs, .slice A n c])
  clear hr hrt hu
  cases hrad : radF bs ls ts us
  · have E1 := Lib.hid (show patF bs ls ts us bus = [] by rw [patF, if_neg (by rw [hrad]; simp)])
    have HO := Lib.hid hrad
    clear hrad
    go_enter Tryd.func22, Tryd.ntmps22
    go_wp2_with fail
    refine (suppliesOf_bad bs _ n c ls _ m d ts _ q r us _ hn (HR.out.below b0) hm (HT.out.below b0) hq (HU.out.below b0) HO.out).mono ?_
    rintro e w1 ⟨rfl, hb1⟩
    have hw : inB bus 0 (-1) = false := by rw [Bool.eq_false_iff]; intro h; simp [inB] at h; omega
    go_wp2_with fail
    refine (within_any bus 0 (-1) _).mono ?_
    rintro e w2 ⟨rfl, rfl⟩
    rw [hw]
    go_wp2
    go_ret
    exact ⟨_, rfl, by rw [E1.out]; exact OwnI.nil, b0.trans (hb1.mono b0.size)⟩
  · obtain ⟨hok, ha, ho⟩ := radF_iff.1 hrad
    have hbs := okU_bs hok
    obtain ⟨nb, rfl⟩ := Int.eq_ofNat_of_zero_le (show 0 ≤ bs by omega)
    have hnb : nb ≤ 8 := by omega
    have HS := Lib.hid (okU_st hok)
    have HA := Lib.hid ha
    have HOF := Lib.hid ho
    have HO := Lib.hid hrad
    clear hrad hbs hok ha ho
    go_enter Tryd.func22, Tryd.ntmps22
    go_wp2_with fail
    refine (suppliesOf_ok nb _ n c ls _ m d ts _ q r us _ hn (HR.out.below b0) hm (HT.out.below b0) hq (HU.out.below b0) HO.out).mono ?_
    rintro e w1 ⟨g, Aq, cq, zs, rfl, hg, hblk, hb1, _, _, _, _⟩
    have a1 := b0.trans (hb1.mono b0.size)
    obtain ⟨p0, p1, _, _⟩ := (K0.out.keep hb1).two
    have HBK := Lib.hid hblk
    clear hblk
    have hwr : IntKind.i64.wrap ((nb : Int) - 1) = (nb : Int) - 1 := IntWalk.i64_in _ (by omega)
    cases hw : inB bus 0 ((nb : Int) - 1)
    · have E1 := Lib.hid (show patF nb ls ts us bus = [] by rw [patF, if_neg (by rw [hw]; simp)])
      go_wp2_with fail
      refine (within_any bus 0 _ _).mono ?_
      rintro e w2 ⟨rfl, rfl⟩
      rw [hw]
      clear hwr
      go_wp2
      go_ret
      exact ⟨_, rfl, by rw [E1.out]; exact OwnI.nil, a1⟩
    · have hw2 := hw
      simp only [inB, Bool.and_eq_true, decide_eq_true_eq] at hw2
      obtain ⟨b, rfl⟩ := Int.eq_ofNat_of_zero_le hw2.1
      have hb : b < nb := by omega
      have E1 := Lib.hid (show patF nb ls ts us b = ofN (wayF ls ts us b).reverse by rw [patF, if_pos ⟨HO.out, hw⟩]; rfl)
      clear hw2
      go_wp2_with fail
      refine (within_any _ 0 _ _).mono ?_
      rintro e w2 ⟨rfl, rfl⟩
      rw [hw]
      clear hwr hw
      go_wp2_with fail
      refine (pathTo_any nb _ n c ls ts us g b _ (HR.out.below a1) HS.out HA.out HOF.out HBK.out hb).mono ?_
      rintro e w3 ⟨v, rfl, hO, hb3⟩
      go_wp2
      go_ret
      exact ⟨_, rfl, by rw [E1.out]; exact hO.more a1.size, a1.trans (hb3.mono a1.size)⟩

theorem belTo_next (ls : List L3) (ts : List Bool) (us : List U2) (line : Int) (k : Nat) : ofN (belTo ls ts us line (k + 1)) = ofN (belTo ls ts us line k) ++ (if belB ls ts us line k = true then [(k : Int)] else []) := by
  unfold belTo
  cases h : belB ls ts us line k
  · rw [filter_no h]; simp
  · rw [filter_yes h]; simp [ofN]
theorem belTo_len (ls : List L3) (ts : List Bool) (us : List U2) (line : Int) (k : Nat) : (belTo ls ts us line k).length ≤ k := Nat.le_trans (List.length_filter_le _ _) (by simp)

set_option maxRecDepth 100000 in
set_option maxHeartbeats 1000000 in
theorem belowLine_any (bs : Int) (A : Option Addr) (n c : Nat) (ls : List L3) (B : Option Addr) (m d : Nat) (ts : List Bool) (U : Option Addr) (q r : Nat) (us : List U2) (line : Int) (w : World) (hn : n ≤ 1048576) (hr : RowL w A n ls) (hm : m ≤ 1048576) (hrt : RowT w B m ts) (hq : q ≤ 1048576) (hu : RowU w U q us) :
    Calls Tryd.prog 28 #[.agg #[.int .i64 bs, .slice A n c], .slice B m d, .slice U q r, .int .i64 line] w fun e w' => ∃ v, e = .returned v ∧ OwnI 3 w' w.heap.size v (belF bs ls ts us line) ∧ Below w.heap.size w w' := by
  obtain ⟨i0, hi, hz0, hz1, hz2⟩ := info_parts intInfo6
  have HI := Lib.hid hi
  have HR := Lib.hid hr
  have HT := Lib.hid hrt
  have HU := Lib.hid hu
  have b0 := below_bx w (.cells #[.int .i64 bs, .slice A n c] 25)
  have K0 := Lib.hid (IsBlk.new w 25 #[.int .i64 bs, .slice A n c])
  clear hr hrt hu hi
  cases hrad : radF bs ls ts us
  · have E1 := Lib.hid (show belF bs ls ts us line = [] by rw [belF, if_neg (by rw [hrad]; simp)])
    have HO := Lib.hid hrad
    clear hrad
    go_enter Tryd.func28, Tryd.ntmps28
    go_wp2_with fail
    refine (suppliesOf_bad bs _ n c ls _ m d ts _ q r us _ hn (HR.out.below b0) hm (HT.out.below b0) hq (HU.out.below b0) HO.out).mono ?_
    rintro e w1 ⟨rfl, hb1⟩
    go_wp2
    go_loopw [11, 22] (fun v i wr => v = .slice none 0 0 ∧ i = .int .i64 0 ∧ wr = w1) (fun _ _ _ => 0)
    case atStart => exact ⟨rfl, rfl, rfl⟩
    case round =>
      obtain ⟨rfl, rfl, rfl⟩ := hrel
      go_wp2
      go_ret
      exact ⟨_, rfl, by rw [E1.out]; exact OwnI.nil, b0.trans (hb1.mono b0.size)⟩
  · obtain ⟨hok, ha, ho⟩ := radF_iff.1 hrad
    have hbs := okU_bs hok
    obtain ⟨nb, rfl⟩ := Int.eq_ofNat_of_zero_le (show 0 ≤ bs by omega)
    have hnb : nb ≤ 8 := by omega
    have HS := Lib.hid (okU_st hok)
    have HA := Lib.hid ha
    have HOF := Lib.hid ho
    have HO := Lib.hid hrad
    have HTL := Lib.hid (show ts.length ≤ 10 from (stOk_len HS.out).2)
    have HF := Lib.hid (show belF nb ls ts us line = ofN (belTo ls ts us line nb) by rw [belF, if_pos hrad]; rfl)
    clear hrad hbs hok ha ho
    go_enter Tryd.func28, Tryd.ntmps28
    go_wp2_with fail
    refine (suppliesOf_ok nb _ n c ls _ m d ts _ q r us _ hn (HR.out.below b0) hm (HT.out.below b0) hq (HU.out.below b0) HO.out).mono ?_
    rintro e w1 ⟨g, Aq, cq, zs, rfl, hg, hblk, hb1, _, _, _, _⟩
    have a1 := b0.trans (hb1.mono b0.size)
    have K1 := Lib.hid (K0.out.keep hb1)
    have HBK := Lib.hid hblk
    clear hblk K0
    go_wp2
    go_loopw [11, 22] (fun v i wr => ∃ k : Nat, k ≤ nb ∧ i = .int .i64 k ∧ OwnI 3 wr w1.heap.size v (ofN (belTo ls ts us line k)) ∧ Below w1.heap.size w1 wr) (fun _ i _ => nb - (intOf i).toNat)
    case atStart => exact ⟨0, by omega, rfl, World.ownsRow_nil _ _ _ _, Below.refl _ _⟩
    case round =>
      obtain ⟨k, hk, rfl, hown, hbel⟩ := hrel
      have KO := Lib.hid hown
      have K2 := Lib.hid (K1.out.keep hbel)
      have HB2 := Lib.hid (HBK.out.keep hbel)
      have hbw : Below w.heap.size w wr := a1.trans (hbel.mono a1.size)
      clear hown
      by_cases hlt : k < nb
      · obtain ⟨p0, p1, _, _⟩ := K2.out.two
        have HN := Lib.hid (belTo_next ls ts us line k)
        have hle2 : (ofN (belTo ls ts us line k)).length ≤ k := by rw [ofN_len]; exact belTo_len ls ts us line k
        have hwl := wayF_len HA.out HOF.out k
        have HWL := Lib.hid (show (ofN (wayF ls ts us k).reverse).length ≤ 1048576 by rw [ofN_len, List.length_reverse]; have := HTL.out; omega)
        have hbB : decide (line ∈ ofN (wayF ls ts us k).reverse) = belB ls ts us line k := by rw [belB, ← ofN_rev]; simp
        have HBB := Lib.hid hbB
        clear hwl hbB
        go_wp2_with fail
        refine (pathTo_any nb _ n c ls ts us g k _ (HR.out.below hbw) HS.out HA.out HOF.out HB2.out hlt).mono ?_
        rintro e w2 ⟨v2, rfl, hO2, hb2⟩
        obtain ⟨A2, c2, rfl, hZ2⟩ := hO2.sl
        have KO2 := Lib.hid (OwnI.keep KO.out hb2)
        have hbel2 := hbel.trans (hb2.mono hbel.size)
        clear hO2
        go_wp2_with fail
        refine (contains_any _ _ _ _ line _ HWL.out hZ2).mono ?_
        rintro e w3 ⟨rfl, rfl⟩
        rw [HBB.out]
        cases hcb : belB ls ts us line k
        · rw [hcb] at HN
          clear hcb HBB
          go_wp2
          go_roundw
          case rel => exact ⟨k + 1, by omega, by go_num, by rw [HN.out]; simpa using KO2.out, hbel2⟩
          case measure => simp [intOf]; omega
        · rw [hcb] at HN
          clear hcb HBB p0 p1
          go_wp2_with (
            at_builtin
            refine wpList_append_own _ rfl _ _ _ rfl w1.heap.size 3 i0 (.int .i64 0) 1 8 Tryd.underlying33 HI.out hz0 hz1 hz2 rfl (by decide) _ _ _ rfl (World.ownsRow.alloc KO2.out _) ⟨w2.heap.size, 0, none⟩ 1 1 [.int .i64 (k : Int)] rfl rfl ?c1 ?c2 ?c3 ?c4 ?c5 ?_
            case c1 => exact cell_one_new _ _ _
            case c2 => intro u hu; simp at hu; subst hu; rfl
            case c3 => simp only [maxLen]; omega
            case c4 => omega
            case c5 => have := hbel2.size; simp; omega
            intro v' w4 hown' hgrow _
            have hb4 : Below w1.heap.size w1 w4 := (hbel2.alloc hbel2.size _).grown hgrow (by have := hbel2.size; simp; omega) (fun q hq => (World.ownsRow.lt KO2.out q hq).1))
          go_roundw
          case rel => exact ⟨k + 1, by omega, by go_num, by rw [HN.out]; simpa [OwnI] using hown', hb4⟩
          case measure => simp [intOf]; omega
      · obtain rfl : k = nb := by omega
        go_wp2
        go_ret
        exact ⟨_, rfl, by rw [HF.out]; exact OwnI.more KO.out a1.size, hbw⟩
end Go.Proofs.YtbhlkcnkijihcaaDoor
