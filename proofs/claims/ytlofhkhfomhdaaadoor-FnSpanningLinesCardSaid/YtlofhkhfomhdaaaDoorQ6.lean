/- BridgeLines, HasCycle, of the model. -/
import Derived.Test.YtlofhkhfomhdaaaDoorQ5
namespace Go.Proofs.YtlofhkhfomhdaaaDoor
open Go.ChangeShapes Go.WideShapes Go.ChangeAt Go.RowKit

theorem mem_lin {bs : Int} {ls : List L3} {ts : List Bool} {k : Nat} (br : Bool) (hs : stOk bs ls ts.length = true) (hk : k < ts.length) : decide ((k : Int) ∈ linF bs ls ts br) = linB ls ts br k := by
  rw [linF_of hs, Bool.eq_iff_iff, decide_eq_true_eq, ofN_mem]
  constructor
  · rintro ⟨b, hb, e⟩
    rw [linTo, List.mem_filter] at hb
    rw [show k = b by omega]; exact hb.2
  · intro h
    exact ⟨k, by rw [linTo, List.mem_filter, List.mem_range]; exact ⟨hk, h⟩, rfl⟩
/-- While bridges are listed beside the list of the lines of cycles. -/
structure BriSt (w wr : World) (bs : Int) (n c : Nat) (A : Option Addr) (A1 : Option Addr) (n1 : Nat) (ys : List Int) (v : Value) (zs : List Int) : Prop where
  st : NumSt w wr bs n c A v zs
  row : RowZ wr A1 n1 ys
  far : ∀ b off, A1 = some ⟨b, off, none⟩ → b < wr.heap.size ∧ v.ownBlock ≠ some b
section
variable {w wr w' : World} {bs : Int} {n c : Nat} {A A1 : Option Addr} {n1 : Nat} {ys : List Int} {v : Value} {zs zs' : List Int}
theorem BriSt.next (h : BriSt w wr bs n c A A1 n1 ys v zs) (hb : Below wr.heap.size wr w') : BriSt w w' bs n c A A1 n1 ys v zs :=
  ⟨h.st.next hb, h.row.below hb, fun b off e => ⟨Nat.lt_of_lt_of_le (h.far b off e).1 hb.size, (h.far b off e).2⟩⟩
theorem BriSt.push {g' n' cap' : Nat} (h : BriSt w wr bs n c A A1 n1 ys v zs) (o : Obj) (hown : OwnI 3 w' (w.heap.size + 1) (.slice (some ⟨g', 0, none⟩) n' cap') zs') (hg : (wr.alloc o).grownBy w' v.ownBlock) (hat : v.ownBlock = some g' ∨ g' = (wr.alloc o).heap.size) :
    BriSt w w' bs n c A A1 n1 ys (.slice (some ⟨g', 0, none⟩) n' cap') zs' := by
  refine ⟨h.st.push o hown hg, (RowV.grown (h.row.below (below_bx wr o)) hg (fun b off e e2 => (h.far b off e).2 e2)), fun b off e => ?_⟩
  obtain ⟨f1, f2⟩ := h.far b off e
  have hs := hg.size
  simp only [World.size_alloc] at hs
  refine ⟨by omega, fun e2 => ?_⟩
  have e3 : g' = b := by simpa [Value.ownBlock] using e2
  rcases hat with hat | hat
  · exact f2 (by rw [hat, e3])
  · rw [World.size_alloc] at hat; omega
end

set_option maxRecDepth 100000 in
set_option maxHeartbeats 800000 in
theorem specBri_any (bs : Int) (A : Option Addr) (n c : Nat) (ls : List L3) (B : Option Addr) (m d : Nat) (ts : List Bool) (w : World) (hn : n ≤ 1048576) (hr : RowL w A n ls) (hm : m ≤ 1048576) (hrt : RowT w B m ts) :
    Calls Tryd.prog 35 #[.agg #[.int .i64 bs, .slice A n c], .slice B m d] w fun e w' => ∃ v, e = .returned v ∧ OwnI 3 w' w.heap.size v (linF bs ls ts true) ∧ Below w.heap.size w w' := by
  obtain ⟨i0, hi, hz0, hz1, hz2⟩ := info_parts intInfo6
  have HI := Lib.hid hi
  have HR := Lib.hid hr
  have HT := Lib.hid hrt
  have HL := Lib.hid hrt.len
  have HLR := Lib.hid hr.1
  have S0 := Lib.hid (numSt_start w bs n c A)
  clear hr hrt hi
  have hz0' : w.heap.size + 2 = ((w.alloc (.cells #[.int .i64 bs, .slice A n c] 25)).alloc (.cells #[] 3)).heap.size := by simp
  go_enter Tryd.func35, Tryd.ntmps35
  go_upto_region 2 with fail
  generalize (w.alloc (.cells #[.int .i64 bs, .slice A n c] 25)).alloc (.cells #[] 3) = W0 at *
  obtain ⟨p0, p1, _, _⟩ := S0.out.box.two
  go_wp2_with fail
  refine (specCyc_any bs A n c ls B m d ts _ hn (HR.out.below S0.out.bel) hm (HT.out.below S0.out.bel)).mono ?_
  rintro e w1 ⟨v1, rfl, hO1, hb1⟩
  obtain ⟨A1, c1, rfl, hz⟩ := hO1.sl
  have ST := Lib.hid (show BriSt w w1 bs n c A A1 (linF bs ls ts false).length (linF bs ls ts false) (.slice (some ⟨w.heap.size + 1, 0, none⟩) 0 0) [] from ⟨S0.out.next hb1, hz, fun b off e => by
    have hl := OwnI.lt hO1 b (by rw [e]; simp [Value.ownBlock])
    refine ⟨hl.2, fun e2 => ?_⟩
    have e3 : w.heap.size + 1 = b := by simpa [Value.ownBlock] using e2
    omega⟩)
  have hl10 := linF_len bs ls ts false
  clear hz hO1 hb1 p0 p1 S0 hz0'
  by_cases hs : stOk bs ls m = true
  · have HF := Lib.hid (show linF bs ls ts true = ofN (linTo ls ts true m) by rw [linF_of (by rw [HL.out]; exact hs), HL.out])
    have HS := Lib.hid hs
    have hm10 : m ≤ 10 := (stOk_len hs).2
    have HML := Lib.hid (stOk_len hs).1
    clear hs
    go_wp2
    go_loopw [5, 7] (fun v i wr => ∃ k : Nat, k ≤ m ∧ i = .int .i64 k ∧ BriSt w wr bs n c A A1 (linF bs ls ts false).length (linF bs ls ts false) v (ofN (linTo ls ts true k))) (fun _ i _ => m - (intOf i).toNat)
    case atStart => exact ⟨0, by omega, rfl, ST.out⟩
    case round =>
      obtain ⟨k, hk, rfl, hst⟩ := hrel
      have SK := Lib.hid hst
      clear hst ST
      obtain ⟨p0, p1, _, _⟩ := SK.out.st.box.two
      by_cases hlt : k < m
      · have q4 : (0 : Int) ≤ (k : Int) := by omega
        have q5 : (k : Int) < (m : Int) := by omega
        obtain ⟨b', off', t, rfl, hb', hkt, e0⟩ := HT.out.at_ hlt
        go_wp2_with fail
        refine (specStateValid_any bs A n c ls _ m d _ hn (HR.out.below SK.out.st.bel) (by omega)).mono ?_
        rintro e w2 ⟨rfl, hb2⟩
        rw [HS.out]
        have S2 := Lib.hid (SK.out.next hb2)
        rw [← S2.out.st.bel.cell (p := ⟨b', off' + k, none⟩) hb'] at e0
        clear SK p0 p1 hb2
        have HNX := Lib.hid (linTo_next ls ts true k)
        have hbr : linB ls ts true k = (t && !linB ls ts false k) := by
          rw [linB, linB, if_pos rfl, if_neg (by decide), briB, getD_some hkt]
        have HM := Lib.hid (mem_lin (ls := ls) (bs := bs) (ts := ts) (k := k) false (by rw [HL.out]; exact HS.out) (by rw [HL.out]; exact hlt))
        rw [hbr] at HNX
        have hle2 : (ofN (linTo ls ts true k)).length ≤ k := by rw [ofN_len]; exact linTo_len ls ts true k
        have hzw := S2.out.st.bel.size
        have hzb := S2.out.st.box.lt
        clear hkt hbr
        cases t
        · have HN2 := Lib.hid (show ofN (linTo ls ts true (k + 1)) = ofN (linTo ls ts true k) by rw [HNX.out]; simp)
          clear HNX
          go_wp2
          go_roundw
          case rel => exact ⟨k + 1, by omega, by go_num, by rw [HN2.out]; exact S2.out⟩
          case measure => simp [intOf]; omega
        · cases hcb : linB ls ts false k
          · rw [hcb] at HNX HM
            have HN2 := Lib.hid (show ofN (linTo ls ts true (k + 1)) = ofN (linTo ls ts true k) ++ [(k : Int)] by rw [HNX.out]; rfl)
            clear HNX hcb
            go_wp2_with (first
              | (go_at_call 56; refine (l1Has_any _ _ c1 (linF bs ls ts false) k _ (by omega) S2.out.row).mono ?_; rintro e w3 ⟨rfl, rfl⟩; rw [HM.out])
              | (at_builtin
                 refine wpList_append_lies _ rfl _ _ _ rfl (w.heap.size + 1) 3 i0 (.int .i64 0) 1 8 Tryd.underlying29 HI.out hz0 hz1 hz2 rfl (by decide) _ _ _ rfl (World.ownsRow.alloc S2.out.st.own _) ⟨w2.heap.size, 0, none⟩ 1 1 [.int .i64 (k : Int)] rfl rfl ?c1 ?c2 ?c0 ?c3 ?c4 ?c5 _ rfl ?_
                 case c1 => exact cell_one_new _ _ _
                 case c2 => intro u hu; simp at hu; subst hu; rfl
                 case c0 => omega
                 case c3 => simp only [maxLen]; omega
                 case c4 => omega
                 case c5 => simp; omega
                 intro g' cap' w5 hown' hgrow hat hlt3
                 have S5 := Lib.hid (S2.out.push (zs' := ofN (linTo ls ts true (k + 1))) (.cells #[.int .i64 (k : Int)] 3) (by rw [HN2.out]; simpa [OwnI] using hown') hgrow hat))
              | fail)
            go_roundw
            case rel => exact ⟨k + 1, by omega, by go_num, S5.out⟩
            case measure => simp [intOf]; omega
          · rw [hcb] at HNX HM
            have HN2 := Lib.hid (show ofN (linTo ls ts true (k + 1)) = ofN (linTo ls ts true k) by rw [HNX.out]; simp)
            clear HNX hcb
            go_wp2_with (first
              | (go_at_call 56; refine (l1Has_any _ _ c1 (linF bs ls ts false) k _ (by omega) S2.out.row).mono ?_; rintro e w3 ⟨rfl, rfl⟩; rw [HM.out])
              | fail)
            go_roundw
            case rel => exact ⟨k + 1, by omega, by go_num, by rw [HN2.out]; exact S2.out⟩
            case measure => simp [intOf]; omega
      · go_wp2
        go_ret
        obtain rfl : k = m := by omega
        exact ⟨_, rfl, by rw [HF.out]; exact OwnI.more SK.out.st.own (by omega), SK.out.st.bel⟩
  · have hs' : stOk bs ls m = false := by rwa [Bool.not_eq_true] at hs
    have HA := Lib.hid (show linF bs ls ts true = [] from linF_not (by rw [HL.out]; exact hs') true)
    have HS := Lib.hid hs'
    clear hs hs'
    go_wp2
    go_loopw [5, 7] (fun v i wr => v = .slice (some ⟨w.heap.size + 1, 0, none⟩) 0 0 ∧ i = .int .i64 0 ∧ wr = w1) (fun _ _ _ => 0)
    case atStart => exact ⟨rfl, rfl, rfl⟩
    case round =>
      obtain ⟨rfl, rfl, rfl⟩ := hrel
      obtain ⟨p0, p1, _, _⟩ := ST.out.st.box.two
      by_cases hb : 0 < m
      · have hbi : (0 : Int) < (m : Int) := by omega
        go_wp2_with fail
        refine (specStateValid_any bs A n c ls B m d _ hn (HR.out.below ST.out.st.bel) (by omega)).mono ?_
        rintro e w2 ⟨rfl, hb2⟩
        rw [HS.out]
        go_wp2
        go_ret
        exact ⟨_, rfl, by rw [HA.out]; exact OwnI.more (ST.out.st.next hb2).own (by omega), (ST.out.st.next hb2).bel⟩
      · go_wp2
        go_ret
        exact ⟨_, rfl, by rw [HA.out]; exact OwnI.more ST.out.st.own (by omega), ST.out.st.bel⟩
theorem specHas_any (bs : Int) (A : Option Addr) (n c : Nat) (ls : List L3) (B : Option Addr) (m d : Nat) (ts : List Bool) (w : World) (hn : n ≤ 1048576) (hr : RowL w A n ls) (hm : m ≤ 1048576) (hrt : RowT w B m ts) :
    Calls Tryd.prog 40 #[.agg #[.int .i64 bs, .slice A n c], .slice B m d] w fun e w' => e = .returned (.bool (hasF bs ls ts)) ∧ Below w.heap.size w w' := by
  have hbx := below_bx w (.cells #[.int .i64 bs, .slice A n c] 25)
  go_enter Tryd.func40, Tryd.ntmps40
  go_wp2_with fail
  refine (specCyc_any bs _ n c ls _ m d ts _ hn (hr.below hbx) hm (hrt.below hbx)).mono ?_
  rintro e w1 ⟨v, rfl, hO, hb1⟩
  obtain ⟨A1, c1, rfl, _⟩ := hO.sl
  go_wp2
  go_ret
  exact ⟨retB (by rw [hasF_eq]; first | rfl | (rw [decide_eq_decide]; omega)), hbx.trans (hb1.mono (by simp))⟩
end Go.Proofs.YtlofhkhfomhdaaaDoor
