/- Texts joined: CycleLines, of the model; BridgeLines, HasCycle, of the model. -/
import Derived.Test.YtpmkeagdoehbhaaDoorBQA
import Derived.Test.YtpmkeagdoehbhaaDoorBCE

/- CycleLines, of the model. -/
namespace Go.Proofs.YtpmkeagdoehbhaaDoor
open Go.ChangeShapes Go.WideShapes Go.ChangeAt Go.RowKit

theorem holdQ {w w' : World} {X b o o1 b' o' : Nat} {u v x y z : Value} (p0 : w.cell? ⟨X, 0, none⟩ = some u) (p1 : w.cell? ⟨X, 1, none⟩ = some v) (hX : X < w.heap.size) (g0 : w.cell? ⟨b, o, none⟩ = some x) (g1 : w.cell? ⟨b, o1, none⟩ = some y) (hbb : b < w.heap.size) (e0 : w.cell? ⟨b', o', none⟩ = some z) (hbe : b' < w.heap.size) (hb : Below w.heap.size w w') :
    Below w.heap.size w w' ∧ w'.cell? ⟨X, 0, none⟩ = some u ∧ w'.cell? ⟨X, 1, none⟩ = some v ∧ w'.cell? ⟨b, o, none⟩ = some x ∧ w'.cell? ⟨b, o1, none⟩ = some y ∧ w'.cell? ⟨b', o', none⟩ = some z :=
  ⟨hb, (hb.cell (p := ⟨X, 0, none⟩) hX).trans p0, (hb.cell (p := ⟨X, 1, none⟩) hX).trans p1, (hb.cell (p := ⟨b, o, none⟩) hbb).trans g0, (hb.cell (p := ⟨b, o1, none⟩) hbb).trans g1, (hb.cell (p := ⟨b', o', none⟩) hbe).trans e0⟩
theorem runQ {w0 w w' : World} {p : Prop} (h : Below w0.heap.size w0 w ∧ p) (hb : Below w.heap.size w w') : Below w0.heap.size w0 w' := h.1.trans (hb.mono h.1.size)
theorem samF_line {bs : Int} {ls : List L3} {ts : List Bool} {k : Nat} {l : L3} (hs : stOk bs ls ts.length = true) (hk : ls[k]? = some l) : samF bs ls ts l.1 l.2.1 = connB (edgesOn ls ts) l.1.toNat l.2.1.toNat := by
  obtain ⟨a0, a1, b0, b1⟩ := line_in hs hk
  rw [samF, hs, show inB l.1 0 (bs - 1) = true by simp [inB]; omega, show inB l.2.1 0 (bs - 1) = true by simp [inB]; omega]; rfl
theorem RowT.cast_ {w : World} {A : Option Addr} {n n' : Nat} {ts : List Bool} (h : RowT w A n ts) (e : n = n') : RowT w A n' ts := e ▸ h
/-- The memory in which the model lists lines: the network's box and an empty list. -/
theorem numSt_start (w : World) (bs : Int) (n c : Nat) (A : Option Addr) : NumSt w ((w.alloc (.cells #[.int .i64 bs, .slice A n c] 25)).alloc (.cells #[] 3)) bs n c A (.slice (some ⟨w.heap.size + 1, 0, none⟩) 0 0) [] := by
  have hown0 := own_lit (w.alloc (.cells #[.int .i64 bs, .slice A n c] 25))
  simp only [World.size_alloc] at hown0
  exact ⟨hown0, (below_bx w _).alloc (by simp) _, (IsBlk.new w 25 #[.int .i64 bs, .slice A n c]).alloc (.cells #[] 3)⟩

set_option maxRecDepth 100000 in
set_option maxHeartbeats 800000 in
theorem specCyc_any (bs : Int) (A : Option Addr) (n c : Nat) (ls : List L3) (B : Option Addr) (m d : Nat) (ts : List Bool) (w : World) (hn : n ≤ 1048576) (hr : RowL w A n ls) (hm : m ≤ 1048576) (hrt : RowT w B m ts) :
    Calls Tryd.prog 80 #[.agg #[.int .i64 bs, .slice A n c], .slice B m d] w fun e w' => ∃ v, e = .returned v ∧ OwnI 3 w' w.heap.size v (linF bs ls ts false) ∧ Below w.heap.size w w' := by
  obtain ⟨i0, hi, hz0, hz1, hz2⟩ := info_parts intInfo6
  have HI := Lib.hid hi
  have HR := Lib.hid hr
  have HT := Lib.hid hrt
  have HL := Lib.hid hrt.len
  have HLR := Lib.hid hr.1
  have S0 := Lib.hid (numSt_start w bs n c A)
  clear hr hrt hi
  go_enter Tryd.func80, Tryd.ntmps80
  go_upto_region 2 with fail
  generalize (w.alloc (.cells #[.int .i64 bs, .slice A n c] 25)).alloc (.cells #[] 3) = W0 at *
  by_cases hs : stOk bs ls m = true
  · have HF := Lib.hid (show linF bs ls ts false = ofN (linTo ls ts false m) by rw [linF_of (by rw [HL.out]; exact hs), HL.out])
    have HS := Lib.hid hs
    have hm10 : m ≤ 10 := (stOk_len hs).2
    have HML := Lib.hid (stOk_len hs).1
    clear hs
    go_wp2
    go_loopw [5, 6] (fun v i wr => ∃ k : Nat, k ≤ m ∧ i = .int .i64 k ∧ NumSt w wr bs n c A v (ofN (linTo ls ts false k))) (fun _ i _ => m - (intOf i).toNat)
    case atStart => exact ⟨0, by omega, rfl, S0.out⟩
    case round =>
      obtain ⟨k, hk, rfl, hst⟩ := hrel
      have SK := Lib.hid hst
      clear hst S0
      obtain ⟨p0, p1, _, _⟩ := SK.out.box.two
      by_cases hlt : k < m
      · have q4 : (0 : Int) ≤ (k : Int) := by omega
        have q5 : (k : Int) < (m : Int) := by omega
        have q6 : (k : Int) < (n : Int) := by have := HML.out; have := HLR.out; omega
        go_wp2_with fail
        refine (specStateValid_any bs A n c ls B m d _ hn (HR.out.below SK.out.bel) (by omega)).mono ?_
        rintro e w1 ⟨rfl, hb1⟩
        rw [HS.out]
        have S1 := Lib.hid (SK.out.next hb1)
        clear SK p0 p1 hb1
        obtain ⟨p0, p1, _, _⟩ := S1.out.box.two
        go_wp2_with fail
        refine (specSwitchLine_any bs A n c ls B m d ts k false _ hn (HR.out.below S1.out.bel) hm (HT.out.below S1.out.bel)).mono ?_
        rintro e w2 ⟨v2, rfl, hO2, hb2⟩
        have S2 := Lib.hid (S1.out.next hb2)
        rw [show swF bs ls ts k false = ts.set k false by rw [swF, HL.out, if_pos HS.out, if_pos (by omega)]; rfl] at hO2
        obtain ⟨A2, c2, rfl, _, hr2⟩ := hO2.row
        have HR2 := Lib.hid hr2
        clear S1 p0 p1 hO2 hr2 hb2
        obtain ⟨p0, p1, _, _⟩ := S2.out.box.two
        obtain ⟨b, off, rfl, hb, HC⟩ := HR.out.2 (by omega)
        have hkl : ls[k]? = some (ls[k]'(by have := HLR.out; omega)) := List.getElem?_eq_getElem _
        generalize (ls[k]'(by have := HLR.out; omega)) = l at hkl
        obtain ⟨g0, g1, _⟩ := HC k l hkl
        rw [← S2.out.bel.cell (p := ⟨b, off + k * 3, none⟩) hb] at g0
        rw [← S2.out.bel.cell (p := ⟨b, off + k * 3 + 1, none⟩) hb] at g1
        obtain ⟨b', off', t, rfl, hb', hkt, e0⟩ := HT.out.at_ hlt
        rw [← S2.out.bel.cell (p := ⟨b', off' + k, none⟩) hb'] at e0
        have hcb := cycB_at hkl hkt
        have hsl := samF_line (ls := ls) (ts := ts.set k false) (bs := bs) (k := k) (l := l) (by rw [List.length_set, HL.out]; exact HS.out) hkl
        rw [← hsl] at hcb
        have HNX := Lib.hid (linTo_next ls ts false k)
        have hlB : linB ls ts false k = cycB ls ts k := by rw [linB, if_neg (by decide)]
        have hle2 : (ofN (linTo ls ts false k)).length ≤ k := by rw [ofN_len]; exact linTo_len ls ts false k
        rw [hlB, hcb] at HNX
        have hbw : b < w2.heap.size := Nat.lt_of_lt_of_le hb S2.out.bel.size
        have hbw' : b' < w2.heap.size := Nat.lt_of_lt_of_le hb' S2.out.bel.size
        have hXw := S2.out.box.lt
        have hzw := S2.out.bel.size
        clear hkl hkt HC hcb hsl hlB
        obtain ⟨x, y, z⟩ := l
        simp only at g0 g1 HNX
        cases t
        · have HN2 := Lib.hid (show ofN (linTo ls ts false (k + 1)) = ofN (linTo ls ts false k) by rw [HNX.out]; simp)
          clear HNX
          go_upto_region 6 with fail
          go_quiet (fail)
          rename_i nq
          go_wp2
          go_roundw
          case rel => exact ⟨k + 1, by omega, by go_num, by rw [HN2.out]; exact S2.out.next (below_drewN (Below.refl _ _) nq)⟩
          case measure => simp [intOf]; omega
        · rw [Bool.true_and] at HNX
          have CA := fun (W : World) (hW : Below w2.heap.size w2 W) => specSam_any bs (some ⟨b, off, none⟩) n c ls A2 ts.length c2 (ts.set k false) x y W hn (HR.out.below (S2.out.bel.trans (hW.mono S2.out.bel.size))) (by have := HL.out; omega) ((HR2.out.below hW).cast_ (by simp))
          generalize samF bs ls (ts.set k false) x y = q at *
          have HA := Lib.hid CA
          clear CA
          go_upto_region 6 with fail
          go_region_held3 (fun w' => Below w2.heap.size w2 w' ∧ w'.cell? ⟨w.heap.size, 0, none⟩ = some (.int .i64 bs) ∧ w'.cell? ⟨w.heap.size, 1, none⟩ = some (.slice (some ⟨b, off, none⟩) n c) ∧ w'.cell? ⟨b, off + k * 3, none⟩ = some (.int .i64 x) ∧ w'.cell? ⟨b, off + k * 3 + 1, none⟩ = some (.int .i64 y) ∧ w'.cell? ⟨b', off' + k, none⟩ = some (.bool true))
            (first | exact holdQ p0 p1 hXw g0 g1 hbw e0 hbw' hB8 | exact holdQ p0 p1 hXw g0 g1 hbw e0 hbw' (Below.drew (Below.refl _ _)) | exact holdQ p0 p1 hXw g0 g1 hbw e0 hbw' (Below.refl _ _))
            ((go_at_call 67; (with_reducible refine (HA.out _ (And.left (by assumption))).mono ?_); rintro e w8 ⟨rfl, hb8⟩; have hB8 := runQ (by assumption) hb8))
          rename_i hF
          have S3 := Lib.hid (S2.out.next hF.1)
          have hsz3 := hF.1.size
          clear hF p0 p1 g0 g1 e0 HA
          cases q
          · have HN2 := Lib.hid (show ofN (linTo ls ts false (k + 1)) = ofN (linTo ls ts false k) by rw [HNX.out]; simp)
            clear HNX
            go_wp2
            go_roundw
            case rel => exact ⟨k + 1, by omega, by go_num, by rw [HN2.out]; exact S3.out⟩
            case measure => simp [intOf]; omega
          · have HN2 := Lib.hid (show ofN (linTo ls ts false (k + 1)) = ofN (linTo ls ts false k) ++ [(k : Int)] by rw [HNX.out]; rfl)
            clear HNX
            go_wp2_with (
              at_builtin
              refine wpList_append_own _ rfl _ _ _ rfl (w.heap.size + 1) 3 i0 (.int .i64 0) 1 8 Tryd.underlying28 HI.out hz0 hz1 hz2 rfl (by decide) _ _ _ rfl (World.ownsRow.alloc S3.out.own _) ⟨w8.heap.size, 0, none⟩ 1 1 [.int .i64 (k : Int)] rfl rfl ?c1 ?c2 ?c3 ?c4 ?c5 ?_
              case c1 => exact cell_one_new _ _ _
              case c2 => intro u hu; simp at hu; subst hu; rfl
              case c3 => simp only [maxLen]; omega
              case c4 => omega
              case c5 => simp; omega
              intro v' w4 hown' hgrow _
              have S4 := Lib.hid (S3.out.push (zs' := ofN (linTo ls ts false (k + 1))) (.cells #[.int .i64 (k : Int)] 3) (by rw [HN2.out]; simpa [OwnI] using hown') hgrow))
            go_roundw
            case rel => exact ⟨k + 1, by omega, by go_num, S4.out⟩
            case measure => simp [intOf]; omega
      · go_wp2
        go_ret
        obtain rfl : k = m := by omega
        exact ⟨_, rfl, by rw [HF.out]; exact OwnI.more SK.out.own (by omega), SK.out.bel⟩
  · have hs' : stOk bs ls m = false := by rwa [Bool.not_eq_true] at hs
    have HA := Lib.hid (show linF bs ls ts false = [] from linF_not (by rw [HL.out]; exact hs') false)
    have HS := Lib.hid hs'
    clear hs hs'
    go_wp2
    go_loopw [5, 6] (fun v i wr => v = .slice (some ⟨w.heap.size + 1, 0, none⟩) 0 0 ∧ i = .int .i64 0 ∧ wr = W0) (fun _ _ _ => 0)
    case atStart => exact ⟨rfl, rfl, rfl⟩
    case round =>
      obtain ⟨rfl, rfl, rfl⟩ := hrel
      obtain ⟨p0, p1, _, _⟩ := S0.out.box.two
      by_cases hb : 0 < m
      · have hbi : (0 : Int) < (m : Int) := by omega
        go_wp2_with fail
        refine (specStateValid_any bs A n c ls B m d _ hn (HR.out.below S0.out.bel) (by omega)).mono ?_
        rintro e w1 ⟨rfl, hb1⟩
        rw [HS.out]
        go_wp2
        go_ret
        exact ⟨_, rfl, by rw [HA.out]; exact OwnI.more (S0.out.next hb1).own (by omega), (S0.out.next hb1).bel⟩
      · go_wp2
        go_ret
        exact ⟨_, rfl, by rw [HA.out]; exact OwnI.more S0.out.own (by omega), S0.out.bel⟩
end Go.Proofs.YtpmkeagdoehbhaaDoor

/- BridgeLines, HasCycle, of the model. -/
namespace Go.Proofs.YtpmkeagdoehbhaaDoor
open Go.ChangeShapes Go.WideShapes Go.ChangeAt Go.RowKit

theorem mem_lin {bs : Int} {ls : List L3} {ts : List Bool} {k : Nat} (br : Bool) (hs : stOk bs ls ts.length = true) (hk : k < ts.length) : decide ((k : Int) ∈ linF bs ls ts br) = linB ls ts br k := by
  rw [linF_of hs, Bool.eq_iff_iff, decide_eq_true_eq, ofN_mem]
  constructor
  · rintro ⟨b, hb, e⟩
    rw [linTo, List.mem_filter] at hb
    rw [show k = b by omega]; exact hb.2
  · intro h
    exact ⟨k, by rw [linTo, List.mem_filter, List.mem_range]; exact ⟨hk, h⟩, rfl⟩
/-- While bridges are listed beside the list of the lines of cycles. -/
structure BriSt (w wr : World) (bs : Int) (n c : Nat) (A : Option Addr) (A1 : Option Addr) (n1 : Nat) (ys : List Int) (v : Value) (zs : List Int) : Prop where
  st : NumSt w wr bs n c A v zs
  row : RowZ wr A1 n1 ys
  far : ∀ b off, A1 = some ⟨b, off, none⟩ → b < wr.heap.size ∧ v.ownBlock ≠ some b
section
variable {w wr w' : World} {bs : Int} {n c : Nat} {A A1 : Option Addr} {n1 : Nat} {ys : List Int} {v : Value} {zs zs' : List Int}
theorem BriSt.next (h : BriSt w wr bs n c A A1 n1 ys v zs) (hb : Below wr.heap.size wr w') : BriSt w w' bs n c A A1 n1 ys v zs :=
  ⟨h.st.next hb, h.row.below hb, fun b off e => ⟨Nat.lt_of_lt_of_le (h.far b off e).1 hb.size, (h.far b off e).2⟩⟩
theorem BriSt.push {g' n' cap' : Nat} (h : BriSt w wr bs n c A A1 n1 ys v zs) (o : Obj) (hown : OwnI 3 w' (w.heap.size + 1) (.slice (some ⟨g', 0, none⟩) n' cap') zs') (hg : (wr.alloc o).grownBy w' v.ownBlock) (hat : v.ownBlock = some g' ∨ g' = (wr.alloc o).heap.size) :
    BriSt w w' bs n c A A1 n1 ys (.slice (some ⟨g', 0, none⟩) n' cap') zs' := by
  refine ⟨h.st.push o hown hg, (RowV.grown (h.row.below (below_bx wr o)) hg (fun b off e e2 => (h.far b off e).2 e2)), fun b off e => ?_⟩
  obtain ⟨f1, f2⟩ := h.far b off e
  have hs := hg.size
  simp only [World.size_alloc] at hs
  refine ⟨by omega, fun e2 => ?_⟩
  have e3 : g' = b := by simpa [Value.ownBlock] using e2
  rcases hat with hat | hat
  · exact f2 (by rw [hat, e3])
  · rw [World.size_alloc] at hat; omega
end

theorem specHas_any (bs : Int) (A : Option Addr) (n c : Nat) (ls : List L3) (B : Option Addr) (m d : Nat) (ts : List Bool) (w : World) (hn : n ≤ 1048576) (hr : RowL w A n ls) (hm : m ≤ 1048576) (hrt : RowT w B m ts) :
    Calls Tryd.prog 66 #[.agg #[.int .i64 bs, .slice A n c], .slice B m d] w fun e w' => e = .returned (.bool (hasF bs ls ts)) ∧ Below w.heap.size w w' := by
  have hbx := below_bx w (.cells #[.int .i64 bs, .slice A n c] 25)
  go_enter Tryd.func66, Tryd.ntmps66
  go_wp2_with fail
  refine (specCyc_any bs _ n c ls _ m d ts _ hn (hr.below hbx) hm (hrt.below hbx)).mono ?_
  rintro e w1 ⟨v, rfl, hO, hb1⟩
  obtain ⟨A1, c1, rfl, _⟩ := hO.sl
  go_wp2
  go_ret
  exact ⟨retB (by rw [hasF_eq]; first | rfl | (rw [decide_eq_decide]; omega)), hbx.trans (hb1.mono (by simp))⟩
end Go.Proofs.YtpmkeagdoehbhaaDoor
