/- CycleLines, BridgeLines, HasCycle, of the program. -/
import Derived.Test.YtbhlkcnkijihcaaDoorQ2
import Derived.Test.YtbhlkcnkijihcaaDoorBCD
namespace Go.Proofs.YtbhlkcnkijihcaaDoor
open Go.ChangeShapes Go.WideShapes Go.ChangeAt Go.RowKit

theorem linTo_next (ls : List L3) (ts : List Bool) (br : Bool) (k : Nat) : ofN (linTo ls ts br (k + 1)) = ofN (linTo ls ts br k) ++ (if linB ls ts br k = true then [(k : Int)] else []) := by
  cases h : linB ls ts br k
  · rw [linTo_no h]; simp
  · rw [linTo_yes h]; simp [ofN]
theorem boolsB_get {bb : List Bool} {k : Nat} (h : k < bb.length) : (boolsB bb)[k]? = some (.bool (brF bb k)) := by
  have : bb[k]? = some (brF bb k) := getD_get h
  simp [boolsB, this]
theorem linB_off {ls : List L3} {ts : List Bool} {k : Nat} (br : Bool) (h : ts[k]? = some false) : linB ls ts br k = false := by
  rw [linB, briB, cycB, getD_some h]; cases br <;> rfl
theorem linB_on {ls : List L3} {ts : List Bool} {k : Nat} (br : Bool) (h : ts[k]? = some true) : linB ls ts br k = (briB ls ts k == br) := by
  rw [linB, briB, getD_some h]; cases br <;> cases cycB ls ts k <;> rfl

set_option maxRecDepth 100000 in
set_option maxHeartbeats 400000 in
theorem linesOn_any (bs : Int) (A : Option Addr) (n c : Nat) (ls : List L3) (B : Option Addr) (m d : Nat) (ts : List Bool) (br : Bool) (w : World) (hn : n ≤ 1048576) (hr : RowL w A n ls) (hm : m ≤ 1048576) (hrt : RowT w B m ts) :
    Calls Tryd.prog 95 #[.agg #[.int .i64 bs, .slice A n c], .slice B m d, .bool br] w fun e w' => ∃ v, e = .returned v ∧ OwnI 3 w' w.heap.size v (linF bs ls ts br) ∧ Below w.heap.size w w' := by
  obtain ⟨i0, hi, hz0, hz1, hz2⟩ := info_parts intInfo6
  have HI := Lib.hid hi
  have HR := Lib.hid hr
  have HT := Lib.hid hrt
  have HL := Lib.hid hrt.len
  clear hr hrt hi
  have hbx := below_bx w (.cells #[.int .i64 bs, .slice A n c] 25)
  by_cases hs : stOk bs ls m = true
  · have hbs := stOk_bs hs
    have HS := Lib.hid hs
    have HS2 := Lib.hid (show stOk bs ls ts.length = true by rw [HL.out]; exact hs)
    have hm10 := (stOk_len hs).2
    obtain ⟨nb, rfl⟩ := Int.eq_ofNat_of_zero_le (show 0 ≤ bs by omega)
    have HF := Lib.hid (show linF nb ls ts br = ofN (linTo ls ts br m) by rw [linF_of HS2.out, HL.out])
    clear hs hbs
    go_enter Tryd.func95, Tryd.ntmps95
    go_wp2_with fail
    refine (stateValid_any nb _ n c ls _ m d _ hn (HR.out.below hbx) (by omega)).mono ?_
    rintro e w1 ⟨rfl, hb1⟩
    rw [HS.out]
    have a1 : Below w.heap.size w w1 := hbx.trans (hb1.mono (by simp))
    obtain ⟨p0, p1, _, _⟩ := ((IsBlk.new w 25 #[.int .i64 (nb : Int), .slice A n c]).keep hb1).two
    go_wp2_with fail
    refine (bridgesOf_any nb _ n c ls _ m d ts _ (HR.out.below a1) (HT.out.below a1) HS2.out).mono ?_
    rintro e w2 ⟨bb, rfl, hbl, hbb, hb2⟩
    have a2 : Below w.heap.size w w2 := a1.trans (hb2.mono a1.size)
    have HBB := Lib.hid hbb
    have HBL := Lib.hid hbl
    clear hbb hbl
    go_wp2_with (first
      | (refine wpList_store_row rfl 92 _ _ rfl w2.heap.size (boolsB bb) rfl rfl _ _ (heap_alloc_new w2 _) (by rw [show (boolsB bb).size = 10 by simp [boolsB, HBL.out]]; kernel_rfl) (by simp [boolsB, HBL.out]) (boolsB_one bb) ?_)
      | fail)
    have BK := Lib.hid (show IsBlk ((w2.alloc (.cells (boolsB (List.replicate 10 false)) 92)).setRow w2.heap.size (boolsB bb)) w2.heap.size 92 (boolsB bb) from setRow_heap _ _ _ _ _ _ (heap_alloc_new w2 _))
    have a3 : Below w.heap.size w ((w2.alloc (.cells (boolsB (List.replicate 10 false)) 92)).setRow w2.heap.size (boolsB bb)) := below_setRow (a2.alloc a2.size _) a2.size _
    change Code.wp _ _ _ _ ((w2.alloc (.cells (boolsB (List.replicate 10 false)) 92)).setRow w2.heap.size (boolsB bb))
    generalize (w2.alloc (.cells (boolsB (List.replicate 10 false)) 92)).setRow w2.heap.size (boolsB bb) = w3 at *
    generalize w2.heap.size = gb at *
    clear p0 p1 a1 a2 hb1 hb2 hbx
    go_loopw [8, 20] (fun v i wr => ∃ k : Nat, k ≤ m ∧ i = .int .i64 k ∧ OwnI 3 wr w3.heap.size v (ofN (linTo ls ts br k)) ∧ Below w3.heap.size w3 wr) (fun _ i _ => m - (intOf i).toNat)
    case atStart => exact ⟨0, by omega, rfl, World.ownsRow_nil _ _ _ _, Below.refl _ _⟩
    case round =>
      obtain ⟨k, hk, rfl, hown, hbel⟩ := hrel
      have HO := Lib.hid hown
      have KB := Lib.hid (BK.out.keep hbel)
      clear hown
      by_cases hlt : k < m
      · obtain ⟨b, off, t, rfl, hb, hkt, g0⟩ := HT.out.at_ hlt
        rw [← (a3.trans (hbel.mono a3.size)).cell (p := ⟨b, off + k, none⟩) hb] at g0
        have g1 : wr.cell? ⟨gb, k, none⟩ = some (.bool (brF bb k)) := by rw [KB.out.cell, boolsB_get (by rw [HBL.out]; omega)]
        have HN := Lib.hid (linTo_next ls ts br k)
        have hle2 : (ofN (linTo ls ts br k)).length ≤ k := by rw [ofN_len]; exact linTo_len ls ts br k
        have q0 : (0 : Int) ≤ (k : Int) := by omega
        have q1 : (k : Int) < (m : Int) := by omega
        have q2 : (k : Int) < 10 := by omega
        have hzw := hbel.size
        cases t
        · have HN2 := Lib.hid (show ofN (linTo ls ts br (k + 1)) = ofN (linTo ls ts br k) by rw [HN.out, linB_off br hkt]; simp)
          clear hkt HN
          go_wp2
          go_roundw
          case rel => exact ⟨k + 1, by omega, by go_num, by rw [HN2.out]; exact HO.out, hbel⟩
          case measure => simp [intOf]; omega
        · have hbr := HBB.out k hkt
          have hlb := linB_on (ls := ls) br hkt
          rw [← hbr] at hlb
          generalize brF bb k = q at *
          by_cases hq : q = br
          · subst hq
            have hqq : (q == q) = true := by simp
            rw [hqq] at hlb
            have HN2 := Lib.hid (show ofN (linTo ls ts q (k + 1)) = ofN (linTo ls ts q k) ++ [(k : Int)] by rw [HN.out, hlb]; rfl)
            clear hkt HN hlb hbr
            go_wp2_with (
              at_builtin
              refine wpList_append_own _ rfl _ _ _ rfl w3.heap.size 3 i0 (.int .i64 0) 1 8 Tryd.underlying33 HI.out hz0 hz1 hz2 rfl (by decide) _ _ _ rfl (World.ownsRow.alloc HO.out _) ⟨wr.heap.size, 0, none⟩ 1 1 [.int .i64 (k : Int)] rfl rfl ?c1 ?c2 ?c3 ?c4 ?c5 ?_
              case c1 => exact cell_one_new _ _ _
              case c2 => intro u hu; simp at hu; subst hu; rfl
              case c3 => simp only [maxLen]; omega
              case c4 => omega
              case c5 => have := hbel.size; simp; omega
              intro v' w4 hown' hgrow _
              have hb4 : Below w3.heap.size w3 w4 := (hbel.alloc hbel.size _).grown hgrow (by have := hbel.size; simp; omega) (fun q hq => (World.ownsRow.lt HO.out q hq).1))
            go_roundw
            case rel => exact ⟨k + 1, by omega, by go_num, by rw [HN2.out]; simpa [OwnI] using hown', hb4⟩
            case measure => simp [intOf]; omega
          · have hqq : (q == br) = false := by rw [beq_eq_false_iff_ne]; exact hq
            rw [hqq] at hlb
            have HN2 := Lib.hid (show ofN (linTo ls ts br (k + 1)) = ofN (linTo ls ts br k) by rw [HN.out, hlb]; simp)
            clear hkt HN hlb hbr hq
            go_wp2
            go_roundw
            case rel => exact ⟨k + 1, by omega, by go_num, by rw [HN2.out]; exact HO.out, hbel⟩
            case measure => simp [intOf]; omega
      · go_wp2
        go_ret
        obtain rfl : k = m := by omega
        exact ⟨_, rfl, by rw [HF.out]; exact OwnI.more HO.out a3.size, a3.trans (hbel.mono a3.size)⟩
  · have hs' : stOk bs ls m = false := by rwa [Bool.not_eq_true] at hs
    have HS := Lib.hid hs'
    have HF := Lib.hid (show linF bs ls ts br = [] from linF_not (by rw [HL.out]; exact hs') br)
    clear hs hs'
    go_enter Tryd.func95, Tryd.ntmps95
    go_wp2_with fail
    refine (stateValid_any bs _ n c ls _ m d _ hn (HR.out.below hbx) (by omega)).mono ?_
    rintro e w1 ⟨rfl, hb1⟩
    rw [HS.out]
    go_wp2
    go_ret
    exact ⟨_, rfl, by rw [HF.out]; exact OwnI.nil, hbx.trans (hb1.mono (by simp))⟩

theorem cycleLines_any (bs : Int) (A : Option Addr) (n c : Nat) (ls : List L3) (B : Option Addr) (m d : Nat) (ts : List Bool) (w : World) (hn : n ≤ 1048576) (hr : RowL w A n ls) (hm : m ≤ 1048576) (hrt : RowT w B m ts) :
    Calls Tryd.prog 82 #[.agg #[.int .i64 bs, .slice A n c], .slice B m d] w fun e w' => ∃ v, e = .returned v ∧ OwnI 3 w' w.heap.size v (linF bs ls ts false) ∧ Below w.heap.size w w' := by
  have hbx := below_bx w (.cells #[.int .i64 bs, .slice A n c] 25)
  go_enter Tryd.func82, Tryd.ntmps82
  go_wp2_with fail
  refine (linesOn_any bs _ n c ls _ m d ts false _ hn (hr.below hbx) hm (hrt.below hbx)).mono ?_
  rintro e w1 ⟨v, rfl, hO, hb1⟩
  go_wp2
  go_ret
  exact ⟨_, rfl, hO.more (by simp), hbx.trans (hb1.mono (by simp))⟩
theorem hasCycle_any (bs : Int) (A : Option Addr) (n c : Nat) (ls : List L3) (B : Option Addr) (m d : Nat) (ts : List Bool) (w : World) (hn : n ≤ 1048576) (hr : RowL w A n ls) (hm : m ≤ 1048576) (hrt : RowT w B m ts) :
    Calls Tryd.prog 54 #[.agg #[.int .i64 bs, .slice A n c], .slice B m d] w fun e w' => e = .returned (.bool (hasF bs ls ts)) ∧ Below w.heap.size w w' := by
  have hbx := below_bx w (.cells #[.int .i64 bs, .slice A n c] 25)
  go_enter Tryd.func54, Tryd.ntmps54
  go_wp2_with fail
  refine (cycleLines_any bs _ n c ls _ m d ts _ hn (hr.below hbx) hm (hrt.below hbx)).mono ?_
  rintro e w1 ⟨v, rfl, hO, hb1⟩
  obtain ⟨A1, c1, rfl, _⟩ := hO.sl
  go_wp2
  go_ret
  exact ⟨retB (by rw [hasF_eq]; first | rfl | (rw [decide_eq_decide]; omega)), hbx.trans (hb1.mono (by simp))⟩
end Go.Proofs.YtbhlkcnkijihcaaDoor
