/- SpanningLines, of the model. -/
import Derived.Test.YtcdliaabbhoagaaDoorQ4
import Derived.Test.YtcdliaabbhoagaaDoorQ5
namespace Go.Proofs.YtcdliaabbhoagaaDoor
open Go.ChangeShapes Go.WideShapes Go.ChangeAt Go.RowKit

theorem RchSt.next {w wr w' : World} {bs : Int} {n c g2 : Nat} {A : Option Addr} {t2 : TypeId} {cur2 : Array Value} {v : Value} {zs : List Int} (h : RchSt w wr bs n c A g2 t2 cur2 v zs) (hb : Below wr.heap.size wr w') : RchSt w w' bs n c A g2 t2 cur2 v zs :=
  ⟨OwnI.keep h.own hb, h.bel.trans (hb.mono h.bel.size), h.box.keep hb, h.blk.keep hb, h.far⟩
theorem RchSt.mark {w wr : World} {bs : Int} {n c g2 : Nat} {A : Option Addr} {t2 : TypeId} {cur2 : Array Value} {v : Value} {zs : List Int} (h : RchSt w wr bs n c A g2 t2 cur2 v zs) (hg : w.heap.size < g2) (k : Nat) (u : Value) : RchSt w (wr.setCell ⟨g2, k, none⟩ u) bs n c A g2 t2 (cur2.setIfInBounds k u) v zs := by
  refine ⟨OwnI.far h.own (grown_put wr g2 k u) (fun q hq e => h.far (by injection e with e; rw [hq, e])), h.bel.setCell (Nat.le_of_lt hg) _, h.box.far (by simp; omega) _, h.blk.put k u, h.far⟩

theorem one_new_at {w : World} {g : Nat} {u : Value} {t : TypeId} (e : w.heap.size = g) : ∀ (j : Nat) (v : Value), [u][j]? = some v → (w.alloc (.cells #[u] t)).cell? ((⟨g, 0, none⟩ : Addr).add j) = some v := by subst e; exact cell_one_new w u t

set_option maxRecDepth 100000 in
set_option maxHeartbeats 800000 in
theorem specSpan_any (bs : Int) (A : Option Addr) (n c : Nat) (ls : List L3) (B : Option Addr) (m d : Nat) (ts : List Bool) (w : World) (hn : n ≤ 1048576) (hr : RowL w A n ls) (hm : m ≤ 1048576) (hrt : RowT w B m ts) :
    Calls Tryd.prog 15 #[.agg #[.int .i64 bs, .slice A n c], .slice B m d] w fun e w' => ∃ v, e = .returned v ∧ OwnI 3 w' w.heap.size v (spaF bs ls ts) ∧ Below w.heap.size w w' := by
  obtain ⟨i0, hi, hz0, hz1, hz2⟩ := info_parts intInfo6
  have HI := Lib.hid hi
  have HR := Lib.hid hr
  have HT := Lib.hid hrt
  have HL := Lib.hid hrt.len
  have HLR := Lib.hid hr.1
  have S0 := Lib.hid (show RchSt w (((w.alloc (.cells #[.int .i64 bs, .slice A n c] 25)).alloc (.cells #[] 3)).alloc (.cells (madeCells #[Value.bool false] m) 4)) bs n c A (w.heap.size + 1 + 1) 4 (truthsB (List.replicate m false)) (.slice (some ⟨w.heap.size + 1, 0, none⟩) 0 0) [] from by
    have s := numSt_start w bs n c A
    refine ⟨s.own.alloc _, s.bel.alloc s.bel.size _, s.box.alloc _, ?_, fun e => by simp [Value.ownBlock] at e⟩
    have : madeCells #[Value.bool false] m = truthsB (List.replicate m false) := truthsB_made m
    rw [this]
    exact IsBlk.at_ (by simp) rfl rfl)
  have hmk := makeTruthsN m hm
  clear hr hrt hi
  go_enter Tryd.func15, Tryd.ntmps15
  go_upto_region 3 with fail
  clear hmk
  generalize ((w.alloc (.cells #[.int .i64 bs, .slice A n c] 25)).alloc (.cells #[] 3)).alloc (.cells (madeCells #[Value.bool false] m) 4) = W0 at *
  by_cases hs : stOk bs ls m = true
  · have HF := Lib.hid (show spaF bs ls ts = ofN (spTo ls ts m) by rw [spaF_of (by rw [HL.out]; exact hs), HL.out])
    have HS := Lib.hid hs
    have hm10 : m ≤ 10 := (stOk_len hs).2
    have HML := Lib.hid (stOk_len hs).1
    clear hs
    go_wp2
    go_loopw [5, 7] (fun v i wr => ∃ k : Nat, k ≤ m ∧ i = .int .i64 k ∧ RchSt w wr bs n c A (w.heap.size + 1 + 1) 4 (truthsB (spX ls ts k)) v (ofN (spTo ls ts k))) (fun _ i _ => m - (intOf i).toNat)
    case atStart => exact ⟨0, by omega, rfl, by rw [spX, HL.out]; exact S0.out⟩
    case round =>
      obtain ⟨k, hk, rfl, hst⟩ := hrel
      have SK := Lib.hid hst
      clear hst S0
      obtain ⟨p0, p1, _, _⟩ := SK.out.box.two
      by_cases hlt : k < m
      · have q4 : (0 : Int) ≤ (k : Int) := by omega
        have q5 : (k : Int) < (m : Int) := by omega
        have q6 : (k : Int) < (n : Int) := by have := HML.out; have := HLR.out; omega
        go_wp2_with fail
        refine (specStateValid_any bs A n c ls B m d _ hn (HR.out.below SK.out.bel) (by omega)).mono ?_
        rintro e w2 ⟨rfl, hb2⟩
        rw [HS.out]
        have S2 := Lib.hid (SK.out.next hb2)
        clear SK p0 p1 hb2
        obtain ⟨p0, p1, _, _⟩ := S2.out.box.two
        obtain ⟨b, off, rfl, hb, HC⟩ := HR.out.2 (by omega)
        have hkl : ls[k]? = some (ls[k]'(by have := HLR.out; omega)) := List.getElem?_eq_getElem _
        generalize (ls[k]'(by have := HLR.out; omega)) = l at hkl
        obtain ⟨g0, g1, _⟩ := HC k l hkl
        rw [← S2.out.bel.cell (p := ⟨b, off + k * 3, none⟩) hb] at g0
        rw [← S2.out.bel.cell (p := ⟨b, off + k * 3 + 1, none⟩) hb] at g1
        obtain ⟨b', off', t, rfl, hb', hkt, e0⟩ := HT.out.at_ hlt
        rw [← S2.out.bel.cell (p := ⟨b', off' + k, none⟩) hb'] at e0
        have hsp := spB_at (x := spX ls ts k) hkl hkt
        have hxl : (spX ls ts k).length = m := by rw [spX_len, HL.out]
        have hsl := samF_line (ls := ls) (ts := spX ls ts k) (bs := bs) (k := k) (l := l) (by rw [hxl]; exact HS.out) hkl
        rw [← hsl] at hsp
        have HSP := Lib.hid hsp
        have HNX := Lib.hid (spTo_next ls ts k)
        have hle2 : (ofN (spTo ls ts k)).length ≤ k := by rw [ofN_len]; exact spTo_len ls ts k
        have hbw : b < w2.heap.size := Nat.lt_of_lt_of_le hb S2.out.bel.size
        have hbw' : b' < w2.heap.size := Nat.lt_of_lt_of_le hb' S2.out.bel.size
        have hXw := S2.out.box.lt
        have hzw := S2.out.bel.size
        have hr2 : RowT w2 (some ⟨w.heap.size + 1 + 1, 0, none⟩) m (spX ls ts k) := S2.out.blk.truths (by simp only [truthsB]; rw [List.take_of_length_le (by simp [hxl])]) hxl
        have HR2 := Lib.hid hr2
        clear hkl hkt HC hsp hsl hr2
        obtain ⟨x, y, z⟩ := l
        simp only at g0 g1 HSP
        cases t
        · rw [Bool.false_and] at HSP
          have HN1 := Lib.hid (spX_no HSP.out)
          have HN2 := Lib.hid (show ofN (spTo ls ts (k + 1)) = ofN (spTo ls ts k) by rw [HNX.out, HSP.out]; simp)
          clear HNX HSP
          go_upto_region 6 with fail
          go_quiet (fail)
          rename_i nq
          go_wp2
          go_roundw
          case rel => exact ⟨k + 1, by omega, by go_num, by rw [HN1.out, HN2.out]; exact S2.out.next (below_drewN (Below.refl _ _) nq)⟩
          case measure => simp [intOf]; omega
        · rw [Bool.true_and] at HSP
          have CA := fun (W : World) (hW : Below w2.heap.size w2 W) => specSam_any bs (some ⟨b, off, none⟩) n c ls (some ⟨w.heap.size + 1 + 1, 0, none⟩) m m (spX ls ts k) x y W hn (HR.out.below (S2.out.bel.trans (hW.mono S2.out.bel.size))) hm (HR2.out.below hW)
          generalize samF bs ls (spX ls ts k) x y = q at *
          have HA := Lib.hid CA
          clear CA
          go_upto_region 6 with fail
          go_region_held3 (fun w' => Below w2.heap.size w2 w' ∧ w'.cell? ⟨w.heap.size, 0, none⟩ = some (.int .i64 bs) ∧ w'.cell? ⟨w.heap.size, 1, none⟩ = some (.slice (some ⟨b, off, none⟩) n c) ∧ w'.cell? ⟨b, off + k * 3, none⟩ = some (.int .i64 x) ∧ w'.cell? ⟨b, off + k * 3 + 1, none⟩ = some (.int .i64 y) ∧ w'.cell? ⟨b', off' + k, none⟩ = some (.bool true))
            (first | exact holdQ p0 p1 hXw g0 g1 hbw e0 hbw' hB8 | exact holdQ p0 p1 hXw g0 g1 hbw e0 hbw' (Below.drew (Below.refl _ _)) | exact holdQ p0 p1 hXw g0 g1 hbw e0 hbw' (Below.refl _ _))
            ((go_at_call 30; (with_reducible refine (HA.out _ (And.left (by assumption))).mono ?_); rintro e w8 ⟨rfl, hb8⟩; have hB8 := runQ (by assumption) hb8))
          rename_i hF
          have S3 := Lib.hid (S2.out.next hF.1)
          have hsz3 := hF.1.size
          clear hF p0 p1 g0 g1 e0 HA
          cases q
          · rw [Bool.not_false] at HSP
            have HN1 := Lib.hid (spX_yes HSP.out)
            have HN2 := Lib.hid (show ofN (spTo ls ts (k + 1)) = ofN (spTo ls ts k) ++ [(k : Int)] by rw [HNX.out, HSP.out]; rfl)
            have hkx : k < (truthsB (spX ls ts k)).size := by simp [truthsB, hxl, hlt]
            have c7 : w8.cell? ⟨w.heap.size + 1 + 1, k, none⟩ = some (truthsB (spX ls ts k))[k] := (S3.out.blk.cell k).trans (Array.getElem?_eq_getElem hkx)
            have f7 := S3.out.blk.thaw k
            have S4 := Lib.hid (S3.out.mark (by omega) k (.bool true))
            generalize (truthsB (spX ls ts k))[k] = u at c7
            clear HNX HSP
            go_wp2_with (
              at_builtin
              refine wpList_append_lies _ rfl _ _ _ rfl (w.heap.size + 1) 3 i0 (.int .i64 0) 1 8 Tryd.underlying34 HI.out hz0 hz1 hz2 rfl (by decide) _ _ _ rfl (World.ownsRow.alloc S4.out.own _) ⟨w8.heap.size, 0, none⟩ 1 1 [.int .i64 (k : Int)] rfl rfl ?c1 ?c2 ?c0 ?c3 ?c4 ?c5 _ rfl ?_
              case c1 => exact one_new_at (by simp)
              case c2 => intro u hu; simp at hu; subst hu; rfl
              case c0 => omega
              case c3 => simp only [maxLen]; omega
              case c4 => omega
              case c5 => simp; omega
              intro g' cap' w5 hown' hgrow hat hlt3
              have S5 := Lib.hid (S4.out.push (zs' := ofN (spTo ls ts (k + 1))) (.cells #[.int .i64 (k : Int)] 3) (by rw [HN2.out]; simpa [OwnI] using hown') hgrow hat))
            go_roundw
            case rel => exact ⟨k + 1, by omega, by go_num, by rw [HN1.out, ← truthsB_set]; exact S5.out⟩
            case measure => simp [intOf]; omega
          · rw [Bool.not_true] at HSP
            have HN1 := Lib.hid (spX_no HSP.out)
            have HN2 := Lib.hid (show ofN (spTo ls ts (k + 1)) = ofN (spTo ls ts k) by rw [HNX.out, HSP.out]; simp)
            clear HNX HSP
            go_wp2
            go_roundw
            case rel => exact ⟨k + 1, by omega, by go_num, by rw [HN1.out, HN2.out]; exact S3.out⟩
            case measure => simp [intOf]; omega
      · go_wp2
        go_ret
        obtain rfl : k = m := by omega
        exact ⟨_, rfl, by rw [HF.out]; exact OwnI.more SK.out.own (by omega), SK.out.bel⟩
  · have hs' : stOk bs ls m = false := by rwa [Bool.not_eq_true] at hs
    have HA := Lib.hid (show spaF bs ls ts = [] from spaF_not (by rw [HL.out]; exact hs'))
    have HS := Lib.hid hs'
    clear hs hs'
    go_wp2
    go_loopw [5, 7] (fun v i wr => v = .slice (some ⟨w.heap.size + 1, 0, none⟩) 0 0 ∧ i = .int .i64 0 ∧ wr = W0) (fun _ _ _ => 0)
    case atStart => exact ⟨rfl, rfl, rfl⟩
    case round =>
      obtain ⟨rfl, rfl, rfl⟩ := hrel
      obtain ⟨p0, p1, _, _⟩ := S0.out.box.two
      by_cases hb : 0 < m
      · have hbi : (0 : Int) < (m : Int) := by omega
        go_wp2_with fail
        refine (specStateValid_any bs A n c ls B m d _ hn (HR.out.below S0.out.bel) (by omega)).mono ?_
        rintro e w2 ⟨rfl, hb2⟩
        rw [HS.out]
        go_wp2
        go_ret
        exact ⟨_, rfl, by rw [HA.out]; exact OwnI.more (S0.out.next hb2).own (by omega), (S0.out.next hb2).bel⟩
      · go_wp2
        go_ret
        exact ⟨_, rfl, by rw [HA.out]; exact OwnI.more S0.out.own (by omega), S0.out.bel⟩
end Go.Proofs.YtcdliaabbhoagaaDoor
