/- IslandsOf, of the program and of the model. -/
import Derived.Test.YtcdliaabbhoagaaDoorJ0
import Derived.OwnWalk
namespace Go.Proofs.YtcdliaabbhoagaaDoor
open Go.ChangeShapes Go.WideShapes Go.ChangeAt Go.RowKit

/-- The islands whose first bus is less than k. -/
noncomputable def iofTo (es : List E2) (nb k : Nat) : List (List Int) := (heads es k).map fun b => ofN (reachF es nb b)
theorem iofTo_yes {es : List E2} {nb k : Nat} (h : leastF es k = k) : iofTo es nb (k + 1) = iofTo es nb k ++ [ofN (reachF es nb k)] := by rw [iofTo, heads_yes h, List.map_append]; rfl
theorem iofTo_no {es : List E2} {nb k : Nat} (h : leastF es k ≠ k) : iofTo es nb (k + 1) = iofTo es nb k := by rw [iofTo, heads_no h]; rfl
theorem iofTo_len (es : List E2) (nb k : Nat) : (iofTo es nb k).length ≤ k := by rw [iofTo, List.length_map]; exact heads_len es k

set_option maxRecDepth 100000 in
set_option maxHeartbeats 400000 in
theorem iof_any (bs : Int) (A : Option Addr) (n c : Nat) (ls : List L3) (B : Option Addr) (m d : Nat) (ts : List Bool) (w : World) (hn : n ≤ 1048576) (hr : RowL w A n ls) (hm : m ≤ 1048576) (hrt : RowT w B m ts) :
    Calls Tryd.prog 26 #[.agg #[.int .i64 bs, .slice A n c], .slice B m d] w fun e w' => ∃ v, e = .returned v ∧ OwnSS w' w.heap.size v (iofF bs ls ts) ∧ Below w.heap.size w w' := by
  obtain ⟨i0, hi, hz0, hz1, hz2⟩ := info_parts sliceInfo
  have HI := Lib.hid hi
  have HR := Lib.hid hr
  have HT := Lib.hid hrt
  have HL := Lib.hid hrt.len
  clear hr hrt hi
  go_enter Tryd.func26, Tryd.ntmps26
  go_wp2_with fail
  refine (isl_any bs _ n c ls _ m d ts _ hn (HR.out.below (below_bx w _)) hm (HT.out.below (below_bx w _))).mono ?_
  rintro e w1 ⟨v, rfl, hO, hb1⟩
  have a1 : Below w.heap.size w w1 := (below_bx w _).trans (hb1.mono (by simp))
  have K1 := Lib.hid ((IsBlk.new w 25 #[.int .i64 bs, .slice A n c]).keep hb1)
  obtain ⟨A1, c1, rfl, hz⟩ := hO.sl
  have HZ := Lib.hid hz
  clear hz hO
  by_cases hs : stOk bs ls m = true
  · have hbs := stOk_bs hs
    obtain ⟨nb, rfl⟩ := Int.eq_ofNat_of_zero_le (show 0 ≤ bs by omega)
    have hnb : nb ≤ 8 := by omega
    have HF := Lib.hid (show islF nb ls ts = ofN (islL (edgesOn ls ts) nb) by rw [islF, HL.out, if_pos hs]; rfl)
    have HA := Lib.hid (show iofF nb ls ts = iofTo (edgesOn ls ts) nb nb by rw [iofF, HL.out, if_pos hs]; rfl)
    have HS := Lib.hid hs
    have hlen : (islF nb ls ts).length = nb := by rw [HF.out, ofN_len, islL_len]
    rw [hlen] at HZ ⊢
    clear hlen hs
    go_wp2
    go_loopw [5, 12] (fun v i wr => ∃ k vs, k ≤ nb ∧ i = .int .i64 (k : Nat) ∧ OwnVS wr w1.heap.size v vs (iofTo (edgesOn ls ts) nb k) ∧ Below w1.heap.size w1 wr) (fun _ i _ => nb - (intOf i).toNat)
    case atStart => exact ⟨0, [], by omega, rfl, OwnVS.nil, Below.refl _ _⟩
    case round =>
      obtain ⟨k, vs, hk, rfl, hown, hbel⟩ := hrel
      have HO := Lib.hid hown
      have K2 := Lib.hid (K1.out.keep hbel)
      obtain ⟨p0, p1, _, _⟩ := K2.out.two
      clear hown
      by_cases hlt : k < nb
      · obtain ⟨b, off, x, rfl, hb, hkx, g0⟩ := HZ.out.at_ hlt
        rw [← hbel.cell (p := ⟨b, off + k, none⟩) hb] at g0
        rw [HF.out, ofN_get (islL_get hlt)] at hkx
        injection hkx with hkx
        subst hkx
        by_cases hh : leastF (edgesOn ls ts) k = k
        · have HN := Lib.hid (iofTo_yes (nb := nb) hh)
          have hle := iofTo_len (edgesOn ls ts) nb k
          rw [hh] at g0
          have HA2 := Lib.hid (show rchF nb ls ts k = ofN (reachF (edgesOn ls ts) nb k) by rw [rchF, HL.out, if_pos ⟨HS.out, by simp [inB]; omega⟩]; rfl)
          clear hh
          go_wp2_with fail
          refine (rch_any nb _ n c ls _ m d ts k _ hn (HR.out.below (a1.trans (hbel.mono a1.size))) hm (HT.out.below (a1.trans (hbel.mono a1.size)))).mono ?_
          rintro e w2 ⟨v2, rfl, hO2, hb2⟩
          have HU := Lib.hid hO2
          have hl2 := (HO.out.keep hb2)
          have HO2 := Lib.hid hl2
          have hzr := hbel.size
          have hz2' := hb2.size
          obtain ⟨A2, c2, rfl, _⟩ := hO2.sl
          clear hO2 hl2 p0 p1
          go_wp2_with (
            at_builtin
            refine wpList_append_lies _ rfl _ _ _ rfl w1.heap.size 34 i0 (.slice none 0 0) 1 24 Tryd.underlying47 HI.out hz0 hz1 hz2 rfl (by decide) _ _ _ rfl (World.ownsRow.alloc HO2.out.row _) ⟨w2.heap.size, 0, none⟩ 1 1 [.slice A2 (rchF nb ls ts k).length c2] rfl rfl ?c1 ?c2 ?c0 ?c3 ?c4 ?c5 _ rfl ?_
            case c1 => exact cell_one_new _ _ _
            case c2 => intro u hu; simp at hu; subst hu; rfl
            case c0 => omega
            case c3 => simp only [maxLen]; omega
            case c4 => omega
            case c5 => simp; omega
            intro g' cap' w3 hown' hgrow hat hlt3
            have S3 := Lib.hid (HO.out.push hb2 HU.out hzr (.cells #[.slice A2 (rchF nb ls ts k).length c2] 34) hown' hgrow hat)
            have hb3 : Below w1.heap.size w1 w3 := ((hbel.trans (hb2.mono hzr)).alloc (by omega) _).grown hgrow (by simp; omega) (fun q hq => (World.ownsRow.lt HO.out.row q hq).1))
          go_roundw
          case rel => exact ⟨k + 1, _, by omega, by go_num, by rw [HN.out, ← HA2.out]; exact S3.out, hb3⟩
          case measure => simp [intOf]; omega
        · have HN := Lib.hid (iofTo_no (nb := nb) hh)
          have hne : (((k : Nat) : Int) == ((leastF (edgesOn ls ts) k : Nat) : Int)) = false := by rw [beq_eq_false_iff_ne]; omega
          clear hh
          go_wp2
          go_roundw
          case rel => exact ⟨k + 1, vs, by omega, by go_num, by rw [HN.out]; exact HO.out, hbel⟩
          case measure => simp [intOf]; omega
      · go_wp2
        go_ret
        obtain rfl : k = nb := by omega
        exact ⟨_, rfl, by rw [HA.out]; exact ⟨_, HO.out.more a1.size⟩, a1.trans (hbel.mono a1.size)⟩
  · have hs' : stOk bs ls m = false := by rwa [Bool.not_eq_true] at hs
    have HF := Lib.hid (show islF bs ls ts = [] by rw [islF, HL.out, if_neg (by rw [hs']; decide)])
    have HA := Lib.hid (show iofF bs ls ts = [] by rw [iofF, HL.out, if_neg (by rw [hs']; decide)])
    have hlen : (islF bs ls ts).length = 0 := by rw [HF.out]; rfl
    rw [hlen] at HZ ⊢
    clear hs hs' hlen
    go_wp2
    go_loopw [5, 12] (fun v i wr => v = .slice none 0 0 ∧ i = .int .i64 0 ∧ wr = w1) (fun _ _ _ => 0)
    case atStart => exact ⟨rfl, rfl, rfl⟩
    case round =>
      obtain ⟨rfl, rfl, rfl⟩ := hrel
      go_wp2
      go_ret
      exact ⟨_, rfl, by rw [HA.out]; exact ⟨_, OwnVS.nil⟩, a1⟩
end Go.Proofs.YtcdliaabbhoagaaDoor
