/- Texts joined: ParentLine, PathLines, BelowLine, of the model; PathLines, BelowLine, of the model. -/
import Derived.Test.YtpmkeagdoehbhaaDoorBHE
import Derived.Test.YtpmkeagdoehbhaaDoorH8
import Derived.Test.YtpmkeagdoehbhaaDoorBQB

/- ParentLine, PathLines, BelowLine, of the model. -/
namespace Go.Proofs.YtpmkeagdoehbhaaDoor
open Go.ChangeShapes Go.WideShapes Go.ChangeAt Go.RowKit

theorem holdC {w w' : World} {X b o : Nat} {u v z : Value} (p0 : w.cell? ⟨X, 0, none⟩ = some u) (p1 : w.cell? ⟨X, 1, none⟩ = some v) (hX : X < w.heap.size) (e0 : w.cell? ⟨b, o, none⟩ = some z) (hbe : b < w.heap.size) (hb : Below w.heap.size w w') :
    Below w.heap.size w w' ∧ w'.cell? ⟨X, 0, none⟩ = some u ∧ w'.cell? ⟨X, 1, none⟩ = some v ∧ w'.cell? ⟨b, o, none⟩ = some z :=
  ⟨hb, (hb.cell (p := ⟨X, 0, none⟩) hX).trans p0, (hb.cell (p := ⟨X, 1, none⟩) hX).trans p1, (hb.cell (p := ⟨b, o, none⟩) hbe).trans e0⟩
theorem fbyF_neg {bs : Int} {ls : List L3} {ts : List Bool} {us : List U2} {bus : Int} (h : fbyF bs ls ts us bus < 0) : plnF bs ls ts us bus = -1 ∧ patF bs ls ts us bus = [] := by
  by_cases hc : radF bs ls ts us = true ∧ inB bus 0 (bs - 1) = true
  · obtain ⟨h1, h2⟩ := hc
    obtain ⟨hok, _, ho⟩ := radF_iff.1 h1
    have hul := busesOk_len (okU_bu hok)
    have hw : wayF ls ts us bus.toNat = [] := by
      refine wayF_unfed ?_
      rw [Bool.eq_false_iff]; intro hfd
      obtain ⟨f, hf, hc⟩ := fedB_iff.1 hfd
      rw [fbyF, if_pos ⟨h1, h2⟩, feedOf_some ho hf hc (nb := bs.toNat) (by omega)] at h
      omega
    rw [plnF, if_pos ⟨h1, h2⟩, patF, if_pos ⟨h1, h2⟩, hw]
    exact ⟨rfl, rfl⟩
  · rw [plnF, if_neg hc, patF, if_neg hc]; exact ⟨rfl, rfl⟩
theorem fbyF_pos {bs : Int} {ls : List L3} {ts : List Bool} {us : List U2} {bus : Int} (h : ¬ fbyF bs ls ts us bus < 0) : radF bs ls ts us = true ∧ inB bus 0 (bs - 1) = true ∧ fedB (edgesOn ls ts) us bus.toNat = true := by
  by_cases hc : radF bs ls ts us = true ∧ inB bus 0 (bs - 1) = true
  · refine ⟨hc.1, hc.2, ?_⟩
    cases hf : fedB (edgesOn ls ts) us bus.toNat
    · rw [fbyF, if_pos hc, feedOf_none hf] at h; omega
    · rfl
  · rw [fbyF, if_neg hc] at h; omega
theorem par_nil {ls : List L3} {ts : List Bool} {us : List U2} {nb b : Nat} {z : Int} (hz : (parF ls ts us nb)[b]? = some z) (hb : b < nb) (h : wayF ls ts us b = []) : ¬ 0 ≤ z := by
  rw [parF_get hb, h] at hz
  injection hz with hz
  subst hz
  split
  · simp [hd1]
  · omega
theorem par_cons {ls : List L3} {ts : List Bool} {us : List U2} {nb b k : Nat} {ws : List Nat} {z : Int} (hz : (parF ls ts us nb)[b]? = some z) (hb : b < nb) (h : wayF ls ts us b = k :: ws) : z = (k : Int) := by
  rw [parF_get hb] at hz
  injection hz with hz
  subst hz
  cases hf : fedB (edgesOn ls ts) us b
  · rw [wayF_unfed hf] at h; cases h
  · rw [if_pos rfl, h]; rfl

set_option maxRecDepth 100000 in
set_option maxHeartbeats 1000000 in
theorem l6Way_any (nb : Nat) (A : Option Addr) (n c : Nat) (ls : List L3) (ts : List Bool) (us : List U2) (P : Option Addr) (cp : Nat) (b : Nat) (w : World) (hr : RowL w A n ls) (hs : stOk nb ls ts.length = true) (ha : Acyc ls ts) (ho : OneFeed (edgesOn ls ts) us)
    (hp : RowZ w P nb (parF ls ts us nb)) (hb : b < nb) :
    Calls Tryd.prog 55 #[.agg #[.int .i64 (nb : Int), .slice A n c], .slice P nb cp, .int .i64 (b : Int)] w fun e w' => ∃ v, e = .returned v ∧ OwnI 3 w' w.heap.size v (ofN (wayF ls ts us b).reverse) ∧ Below w.heap.size w w' := by
  obtain ⟨i0, hi, hz0, hz1, hz2⟩ := info_parts intInfo6
  have HI := Lib.hid hi
  have HR := Lib.hid hr
  have HA := Lib.hid ha
  have HO := Lib.hid ho
  have HPA := Lib.hid hp
  have HV := Lib.hid (stOk_net hs)
  have hlen := stOk_len hs
  have hn10 : n ≤ 10 := by have := hr.1; omega
  have HWL := Lib.hid (show (wayF ls ts us b).length ≤ 10 from Nat.le_trans (wayF_len ha ho b) (by omega))
  have hbx := below_bx w (.cells #[.int .i64 (nb : Int), .slice A n c] 25)
  have BX := Lib.hid (IsBlk.new w 25 #[.int .i64 (nb : Int), .slice A n c])
  have hown0 := own_lit (w.alloc (.cells #[.int .i64 (nb : Int), .slice A n c] 25))
  simp only [World.size_alloc] at hown0
  have S0 := Lib.hid (show NumSt w ((w.alloc (.cells #[.int .i64 (nb : Int), .slice A n c] 25)).alloc (.cells #[] 3)) nb n c A (.slice (some ⟨w.heap.size + 1, 0, none⟩) 0 0) [] from
    ⟨hown0, hbx.alloc (by simp) _, BX.out.alloc (.cells #[] 3)⟩)
  clear hr hs ha ho hp hi hown0 hbx BX hlen
  generalize hW : wayF ls ts us b = W at *
  have HW := Lib.hid hW
  clear hW
  go_enter Tryd.func55, Tryd.ntmps55
  go_upto_region 2 with fail
  generalize (w.alloc (.cells #[.int .i64 (nb : Int), .slice A n c] 25)).alloc (.cells #[] 3) = W0 at *
  go_loopw [2, 7] (fun bus v wr => ∃ (y G cG : Nat) (acc ws : List Nat), bus = .int .i64 y ∧ y < nb ∧ v = .slice (some ⟨G, 0, none⟩) acc.length cG ∧ W = acc ++ ws ∧ wayF ls ts us y = ws ∧ NumSt w wr nb n c A v (ofN acc.reverse)) (fun _ v _ => 100 - lenV v)
  case atStart => exact ⟨b, _, _, [], W, rfl, hb, rfl, rfl, HW.out, S0.out⟩
  case round =>
    obtain ⟨y, G, cG, acc, ws, rfl, hy, rfl, hacc, hwy, hst⟩ := hrel
    have SK := Lib.hid hst
    have hal : acc.length + ws.length ≤ 10 := by have := HWL.out; rw [hacc, List.length_append] at this; exact this
    obtain ⟨gp, op, z, rfl, hgp, hpz, e0⟩ := HPA.out.at_ hy
    rw [← SK.out.bel.cell (p := ⟨gp, op + y, none⟩) hgp] at e0
    have ii0 : (0 : Int) ≤ (y : Int) := by omega
    have ii1 : (y : Int) < (nb : Int) := by omega
    obtain ⟨p0, p1, _, _⟩ := hst.box.two
    cases ws with
    | nil =>
      have hz := par_nil hpz hy hwy
      have hacc2 : W = acc := by rw [hacc, List.append_nil]
      have HF := Lib.hid (show ofN acc.reverse = ofN W.reverse by rw [hacc2])
      clear hst hacc hacc2 hwy hpz S0
      go_wp2
      go_ret
      exact ⟨_, rfl, by rw [← HF.out]; exact OwnI.more SK.out.own (by omega), SK.out.bel⟩
    | cons k ws =>
      obtain rfl := par_cons hpz hy hwy
      obtain ⟨o, hl, hwo, hwf⟩ := wayF_cons HA.out HO.out hwy
      obtain ⟨l, hl1, hl2, hl3⟩ := hl
      have hoy : otherF nb ls k y = (o : Int) ∧ o < nb := by
        rcases otherF_on HV.out hl1 hl2 (x := y) with ⟨o', h1, h2, h3⟩ | ⟨_, h⟩
        · rcases Ln.two h2 ⟨l, hl1, hl2, hl3⟩ with ⟨e1, e2⟩ | ⟨e1, e2⟩
          · exact absurd e1 (Ln.ne HV.out (⟨l, hl1, hl2, hl3⟩ : Ln ls ts k o y))
          · subst e1; exact ⟨h1, h3⟩
        · exact absurd (Ln.symm ⟨l, hl1, hl2, hl3⟩) (h o)
      have HOY := Lib.hid hoy.1
      have hon : o < nb := hoy.2
      have ii2 : (0 : Int) ≤ (k : Int) := by omega
      have hle3 : acc.length ≤ 9 := by simp at hal; omega
      have HWO := Lib.hid hwf
      have HACC := Lib.hid (show W = (acc ++ [k]) ++ ws by rw [hacc]; simp)
      have HLIT := Lib.hid (World.ownsRow_lit (base := w.heap.size + 1) (size := 1) (e := 3) wr #[.int .i64 (k : Int)] 1 (by have := hst.box.lt; omega) (by simp [maxLen]) rfl)
      have HCL := Lib.hid (World.ownsRow.cells (World.ownsRow.alloc SK.out.own (.cells #[.int .i64 (k : Int)] 3)) (g := G) rfl)
      have hbz := hst.box.lt
      have S1 := Lib.hid (SK.out.next (below_bx wr (.cells #[.int .i64 (k : Int)] 3)))
      have hgp2 : gp < wr.heap.size := Nat.lt_of_lt_of_le hgp SK.out.bel.size
      have HE := Lib.hid e0
      clear hst hacc hwy hl1 hl2 hl3 hoy hwo hwf S0 hpz
      go_wp2_with (
        at_builtin
        refine wpList_append_own _ rfl _ _ _ rfl (w.heap.size + 1) 3 i0 (.int .i64 0) 1 8 Tryd.underlying28 HI.out hz0 hz1 hz2 rfl (by decide) _ _ _ rfl HLIT.out ⟨G, 0, none⟩ acc.length cG ((ofN acc.reverse).map (Value.int .i64)) rfl ?c0 ?c1 ?c2 ?c3 ?c4 ?c5 ?_
        case c0 => simp [ofN]
        case c1 => exact HCL.out
        case c2 => intro u hu; obtain ⟨_, _, rfl⟩ := List.mem_map.1 hu; rfl
        case c3 => simp only [maxLen]; omega
        case c4 => omega
        case c5 => simp; omega
        intro v' w3 hown' hgrow _
        have hb3 : Below wr.heap.size (wr.alloc (.cells #[.int .i64 (k : Int)] 3)) w3 := (Below.refl _ _).grown hgrow (by simp) (fun q hq => by cases hq; exact Nat.le_refl _)
        have S3 := Lib.hid (show NumSt w w3 nb n c A v' (ofN (acc ++ [k]).reverse) from
          ⟨by rw [List.reverse_append]; simpa [OwnI, ofN, Nat.add_comm] using hown', S1.out.bel.trans (hb3.mono SK.out.bel.size), S1.out.box.below hb3 hbz⟩)
        have e3 := (hb3.cell (p := ⟨gp, op + y, none⟩) hgp2).trans (((below_bx wr (.cells #[.int .i64 (k : Int)] 3)).cell (p := ⟨gp, op + y, none⟩) hgp2).trans HE.out)
        clear p0 p1 e0
        obtain ⟨p0, p1, _, _⟩ := S3.out.box.two)
      have hXw := S3.out.box.lt
      have hgw : gp < w3.heap.size := Nat.lt_of_lt_of_le hgp S3.out.bel.size
      clear hown' hgrow hb3
      go_region_held3 (fun w' => Below w3.heap.size w3 w' ∧ w'.cell? ⟨w.heap.size, 0, none⟩ = some (.int .i64 (nb : Int)) ∧ w'.cell? ⟨w.heap.size, 1, none⟩ = some (.slice A n c) ∧ w'.cell? ⟨gp, op + y, none⟩ = some (.int .i64 (k : Int)))
        (first | exact holdC p0 p1 hXw e3 hgw hB4 | exact holdC p0 p1 hXw e3 hgw (Below.drew (Below.refl _ _)) | exact holdC p0 p1 hXw e3 hgw (Below.refl _ _))
        ((go_at_call 68; refine (specOtherEnd_any nb A n c ls k y _ (by omega) (HR.out.below (S3.out.bel.trans ((And.left (by assumption) : Below w3.heap.size w3 _).mono S3.out.bel.size)))).mono ?_; rintro e w4 ⟨rfl, hb4⟩; rw [HOY.out]; have hB4 := runQ (by assumption) hb4))
      have S4 := Lib.hid (S3.out.next hB4)
      obtain ⟨G4, c4, e4⟩ := own_some S4.out.own (by simp [ofN])
      have HE4 := Lib.hid (show v' = .slice (some ⟨G4, 0, none⟩) (acc ++ [k]).length c4 by rw [e4, ofN_len, List.length_reverse])
      clear e4 e3 p0 p1
      go_wp2
      go_roundw
      case rel => exact ⟨o, G4, c4, acc ++ [k], ws, rfl, hon, HE4.out, HACC.out, HWO.out, S4.out⟩
      case measure =>
        rw [HE4.out]
        simp [lenV]
        omega
end Go.Proofs.YtpmkeagdoehbhaaDoor

/- PathLines, BelowLine, of the model. -/
namespace Go.Proofs.YtpmkeagdoehbhaaDoor
open Go.ChangeShapes Go.WideShapes Go.ChangeAt Go.RowKit

theorem holdW {w w' : World} {X : Nat} {u v : Value} (p0 : w.cell? ⟨X, 0, none⟩ = some u) (p1 : w.cell? ⟨X, 1, none⟩ = some v) (hX : X < w.heap.size) (hb : Below w.heap.size w w') :
    Below w.heap.size w w' ∧ w'.cell? ⟨X, 0, none⟩ = some u ∧ w'.cell? ⟨X, 1, none⟩ = some v :=
  ⟨hb, (hb.cell (p := ⟨X, 0, none⟩) hX).trans p0, (hb.cell (p := ⟨X, 1, none⟩) hX).trans p1⟩

theorem patF_len (bs : Int) (ls : List L3) (ts : List Bool) (us : List U2) (bus : Int) : (patF bs ls ts us bus).length ≤ 10 := by
  rw [patF]
  split
  · rename_i h
    obtain ⟨hok, ha, ho⟩ := radF_iff.1 h.1
    rw [ofN_len, List.length_reverse]
    exact Nat.le_trans (wayF_len ha ho _) (stOk_len (okU_st hok)).2
  · simp
theorem belF_len (bs : Int) (ls : List L3) (ts : List Bool) (us : List U2) (line : Int) : (belF bs ls ts us line).length ≤ 8 := by
  rw [belF]
  split
  · rename_i h
    have hbs := okU_bs (radF_iff.1 h).1
    rw [ofN_len]
    exact Nat.le_trans (belTo_len _ _ _ _ _) (by omega)
  · simp

end Go.Proofs.YtpmkeagdoehbhaaDoor
