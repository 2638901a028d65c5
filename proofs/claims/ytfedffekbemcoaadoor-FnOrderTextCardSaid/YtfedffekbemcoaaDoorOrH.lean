/- Switching orders: ReadOrder, of the model. -/
import Derived.Test.YtfedffekbemcoaaDoorOrE
import Derived.Test.YtfedffekbemcoaaDoorOrG
import Derived.Test.YtfedffekbemcoaaDoorR3
import Derived.Deep.RegionWith
import Derived.Deep.RegionLaw
import Derived.Deep.AppendLies
import Derived.Deep.CutBlock
namespace Go.Proofs.YtfedffekbemcoaaDoor
open Go.ChangeShapes Go.WideShapes Go.ChangeAt Go.RowKit

/-- A list of steps in the making beside a row of texts that is read. -/
structure TwoV (w wr : World) (v : Value) (us : List TP) (Z : Option Addr) (zs : List Bs) : Prop where
  own : OwnP wr w.heap.size v us
  row : RowV wr Z zs.length (zs.map strV)
  ne : ∀ b off, Z = some ⟨b, off, none⟩ → b < wr.heap.size ∧ v.ownBlock ≠ some b
  bel : Below w.heap.size w wr
section
variable {w wr w' : World} {v v' : Value} {us us' : List TP} {Z : Option Addr} {zs : List Bs}
theorem TwoV.next (h : TwoV w wr v us Z zs) (hb : Below wr.heap.size wr w') : TwoV w w' v us Z zs :=
  ⟨h.own.keep hb, h.row.below hb, fun b off e => ⟨Nat.lt_of_lt_of_le (h.ne b off e).1 hb.size, (h.ne b off e).2⟩, h.bel.trans (hb.mono h.bel.size)⟩
theorem TwoV.drew (h : TwoV w wr v us Z zs) : TwoV w wr.drew v us Z zs := h.next ((Below.refl _ _).drew)
theorem TwoV.push (h : TwoV w wr v us Z zs) (o : Obj) (hv : OwnP w' w.heap.size v' us') (hg : (wr.alloc o).grownBy w' v.ownBlock) (hat : v'.ownBlock = v.ownBlock ∨ v'.ownBlock = some (wr.alloc o).heap.size) : TwoV w w' v' us' Z zs := by
  have hg2 := grown_low h.own hg
  refine ⟨hv, RowV.grown h.row hg2 (fun b off e => (h.ne b off e).2), fun b off e => ⟨Nat.lt_of_lt_of_le (h.ne b off e).1 hg2.size, fun e2 => ?_⟩, h.bel.grown hg2 h.bel.size (fun q hq => (h.own.lt q hq).1)⟩
  rcases hat with h1 | h1
  · exact (h.ne b off e).2 (h1 ▸ e2)
  · rw [h1] at e2; injection e2 with e2; have := (h.ne b off e).1; simp at e2; omega
end
theorem OwnS.lt {w : World} {base : Nat} {v : Value} {ps : List Bs} (h : OwnS w base v ps) : ∀ q, v.ownBlock = some q → base ≤ q ∧ q < w.heap.size := fun q hq => World.ownsRow.lt h q hq
theorem ownP_none (w : World) (base : Nat) (hb : base ≤ w.heap.size) : OwnP (w.alloc (.cells #[] 27)) base (.slice (some ⟨w.heap.size, 0, none⟩) 0 0) [] := (ownP_lit w).more hb

set_option maxRecDepth 100000 in
set_option maxHeartbeats 4000000 in
theorem specReadOrder_any (s : ByteArray) (w : World) (hs : s.size ≤ 1048576) :
    Calls Tryd.prog 21 #[.string s] w (ReadEndO (readO s) w) := by
  obtain ⟨i0, hi, hz0, hz1, hz2⟩ := info_parts stepInfo3
  have I0 := Lib.hid hi
  clear hi
  have b0 := below_bx w (.cells #[] 27)
  have O0 := Lib.hid (ownP_lit w)
  by_cases hn : s.data.toList = nothingB
  · have HF := Lib.hid (show readO s = some [] by rw [readO, if_pos hn])
    have h1 : (s.toList == [110, 111, 116, 104, 105, 110, 103]) = true := by rw [Lib.toList_data, hn]; rfl
    rw [HF.out]
    go_enter Tryd.func21, Tryd.ntmps21
    go_wp2
    go_ret2
    exact ⟨_, rfl, O0.out, b0⟩
  have h1 : (s.toList == [110, 111, 116, 104, 105, 110, 103]) = false := by
    rw [beq_eq_false_iff_ne, Lib.toList_data]; exact hn
  have HM := Lib.hid (fun c (h : allS (cutA 59 [] s.data.toList) = some c) => readO_model hn h)
  have HN := Lib.hid (fun (h : allS (cutA 59 [] s.data.toList) = none) => readO_none hn h)
  have HL := Lib.hid (show ∀ p ∈ cutA 59 [] s.data.toList, p.length ≤ 2000000 from fun p hp => by have := cutA_le 59 s.data.toList [] p hp; rw [sized] at this; simp at this; omega)
  have hlen := cutA_len 59 s.data.toList []
  rw [sized] at hlen
  clear hn
  generalize readO s = res at *
  go_enter Tryd.func21, Tryd.ntmps21
  go_wp2_with fail
  refine (l1Cut_any s 59 59 rfl _ (by omega)).mono ?_
  rintro e w1 ⟨v, rfl, hO, hb1⟩
  have a1 := b0.trans (hb1.mono b0.size)
  obtain ⟨Z, cz, rfl, hz⟩ := hO.row
  have S1 := Lib.hid (show TwoV w w1 (.slice (some ⟨w.heap.size, 0, none⟩) 0 0) [] Z (cutA 59 [] s.data.toList) from
    ⟨O0.out.keep hb1, hz, fun b off e => by have := hO.lt b (by rw [e]; rfl); exact ⟨this.2, fun e2 => by have e3 : w.heap.size = b := Option.some.inj e2; have := this.1; rw [World.size_alloc] at this; omega⟩, a1⟩)
  clear hO hz hb1 b0 O0 a1 h1
  generalize cutA 59 [] s.data.toList = xs at *
  go_wp2
  go_loopw [4, 6] (fun v i wr => ∃ (k : Nat) (ps : List TP), k ≤ xs.length ∧ i = .int .i64 (k : Int) ∧ allS (xs.take k) = some ps ∧ ps.length = k ∧ TwoV w wr v ps Z xs) (fun _ i _ => xs.length - (intOf i).toNat)
  case atStart => exact ⟨0, [], by omega, rfl, rfl, rfl, S1.out⟩
  case round =>
    obtain ⟨k, ps, hk, rfl, hall, hpl, hst⟩ := hrel
    have S := Lib.hid hst
    have HA := Lib.hid hall
    have PL := Lib.hid hpl
    clear hst hall hpl S1
    by_cases hlt : k < xs.length
    · obtain ⟨b, off, x1, rfl, hb, hx1, g1⟩ := S.out.row.at hlt
      have hxk : xs[k]? = some (xs[k]'hlt) := List.getElem?_eq_getElem hlt
      generalize xs[k]'hlt = p at hxk
      obtain rfl : x1 = strV p := by rw [List.getElem?_map, hxk] at hx1; simpa using hx1.symm
      have HP := Lib.hid (HL.out p (List.mem_of_getElem? hxk))
      have XK := Lib.hid hxk
      unfold strV at g1
      clear hx1 hxk
      have hk0 : (0 : Int) ≤ (k : Int) := by omega
      have hkx : (k : Int) < (xs.length : Int) := by omega
      go_wp2_with fail
      refine (l1Cut_any ⟨p.toArray⟩ 32 32 rfl _ (by rw [size_str]; exact HP.out)).mono ?_
      rw [data_str]
      rintro e w2 ⟨v2, rfl, hO2, hb2⟩
      have S2 := Lib.hid (S.out.next hb2)
      obtain ⟨Y, cy, rfl, hy⟩ := hO2.row
      have HSS := Lib.hid (show stepS p = if (cutA 32 [] p).length = 2 then some (readS ((cutA 32 [] p).getD 1 []), (cutA 32 [] p).getD 0 [] == [111, 110]) else none from rfl)
      have HY := Lib.hid (show ∀ q ∈ cutA 32 [] p, q.length ≤ 2000000 from fun q hq => by have := cutA_le 32 p [] q hq; simp at this; have := HP.out; omega)
      clear hO2 hb2 g1
      generalize cutA 32 [] p = ys at *
      by_cases h2 : ys.length = 2
      · obtain ⟨y0, y1, rfl⟩ : ∃ y0 y1, ys = [y0, y1] := by
          match ys, h2 with
          | [y0, y1], _ => exact ⟨y0, y1, rfl⟩
        rw [if_pos (by rfl)] at HSS
        simp only [List.getD_cons_zero, List.getD_cons_succ] at HSS
        have HNX := Lib.hid (allS_step XK.out HA.out HSS.out)
        obtain ⟨by_, oy, rfl, hby, hcy⟩ := hy.2 (by simp)
        have c0 := hcy 0 (strV y0) rfl
        have c1 := hcy 1 (strV y1) rfl
        rw [Nat.add_zero] at c0
        have HY1 := Lib.hid (HY.out y1 (by simp))
        generalize hx : readS y1 = x at *
        generalize ht : (y0 == [111, 110]) = t at *
        have HX := Lib.hid hx
        have HT := Lib.hid ht
        clear hy hcy h2 hx ht
        unfold strV at c0 c1
        simp only [List.length_cons, List.length_nil, Nat.zero_add, Nat.reduceAdd]
        have D2 := Lib.hid S2.out.drew
        go_upto_region 11 with fail
        have ht := HT.out
        go_region_law (first
          | (refine step_append_lies _ rfl (.tmp 29) (.tmp 39) 23 rfl w.heap.size 27 i0 (.agg #[.int .i64 0, .bool false]) 2 16 Tryd.underlying23 I0.out hz0 hz1 hz2 rfl (by decide) _ ps.length (ps.flatMap fP) rfl (World.ownsRow.alloc D2.out.own _) ⟨w2.heap.size, 0, none⟩ 1 1 (fP (x, t)) rfl rfl ?c1 ?c2 (by decide) ?c3 ?c4 ?c5 _ rfl ?_
             case c1 => exact newP w2.drew (x, t) _
             case c2 => intro u hu; simp [fP] at hu; rcases hu with rfl | rfl <;> rfl
             case c3 => have := PL.out; simp only [maxLen]; omega
             case c4 => have := PL.out; omega
             case c5 => have := D2.out.bel.size; simp at this ⊢; omega
             intro g cap w8 hown8 hgrow8 hat8 hlt8
             have S8 := Lib.hid (D2.out.push _ (OwnP.snoc hown8) hgrow8 (hat8.elim (fun h => Or.inl h.symm) (fun h => Or.inr (congrArg some h)))))
          | (go_simp; go_at_call 52; refine (l1Read_still y1 HY1.out _).mono ?_; rintro e w7 ⟨rfl, hw7⟩; have hw7 := hw7.symm; subst hw7; rw [HX.out]))
        all_goals go_wp2
        all_goals
          go_roundw
          case rel => exact ⟨k + 1, ps ++ [(x, t)], by omega, by go_num, HNX.out, by rw [List.length_append, PL.out]; rfl, S8.out⟩
          case measure => simp [intOf]; omega
      · have hne : ((ys.length : Int) != 2) = true := by rw [bne_iff_ne]; omega
        rw [if_neg h2] at HSS
        have HX := Lib.hid (HN.out (allS_stop XK.out HA.out HSS.out))
        go_wp2
        go_ret2
        rw [HX.out]
        exact ⟨⟨_, rfl, ownP_none _ _ S2.out.bel.size⟩, S2.out.bel.alloc S2.out.bel.size _⟩
    · obtain rfl : k = xs.length := by omega
      rw [List.take_length] at HA
      have HX := Lib.hid (HM.out ps HA.out)
      obtain ⟨A', c', rfl, hrow⟩ := S.out.own.row
      have RU := Lib.hid hrow
      clear hrow
      go_wp2_with fail
      refine (specOrderText_any A' ps.length c' ps _ (by have := PL.out; omega) RU.out).mono ?_
      rintro e w5 ⟨rfl, hb5⟩
      have S5 := Lib.hid (S.out.next hb5)
      by_cases ht : textO ps = s
      · rw [if_pos ht] at HX
        rw [ht]
        clear ht
        go_wp2
        go_ret2
        rw [HX.out]
        exact ⟨_, rfl, S5.out.own, S5.out.bel⟩
      · rw [if_neg ht] at HX
        generalize textO ps = t at *
        have h3 := str_neO ht
        clear ht
        go_wp2
        go_ret2
        rw [HX.out]
        exact ⟨⟨_, rfl, ownP_none _ _ S5.out.bel.size⟩, S5.out.bel.alloc S5.out.bel.size _⟩
end Go.Proofs.YtfedffekbemcoaaDoor
