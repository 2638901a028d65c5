/- Reading of texts, the model's half: ReadNet. -/
import Derived.Test.YtciciidndjkdiaaDoorR3
import Derived.Test.YtciciidndjkdiaaDoorT2
import Derived.Test.YtciciidndjkdiaaDoorD2
namespace Go.Proofs.YtciciidndjkdiaaDoor
open Go.ChangeShapes Go.WideShapes Go.ChangeAt Go.RowKit

/-- While a text is read: the result's block, the variable's block X, its lines, the words. -/
structure ReadSt (w0 w : World) (X : Nat) (bs : Int) (v : Value) (ls : List L3) (b off n : Nat) (ws : List Value) : Prop where
  ret : IsBlk w w0.heap.size 25 #[.int .i64 0, .slice none 0 0]
  far : w0.heap.size < X
  var : IsBlk w X 25 #[.int .i64 bs, v]
  own : OwnL w (X + 1) v ls
  row : RowV w (some ⟨b, off, none⟩) n ws
  low : b < X
  bel : Below w0.heap.size w0 w
section
variable {w0 w w' : World} {X b off n : Nat} {bs : Int} {v : Value} {ls : List L3} {ws : List Value}
theorem ReadSt.keep (h : ReadSt w0 w X bs v ls b off n ws) (hb : Below w.heap.size w w') : ReadSt w0 w' X bs v ls b off n ws :=
  ⟨h.ret.keep hb, h.far, h.var.keep hb, h.own.keep hb, h.row.below hb, h.low, h.bel.trans (hb.mono h.bel.size)⟩
theorem ReadSt.drew (h : ReadSt w0 w X bs v ls b off n ws) : ReadSt w0 w.drew X bs v ls b off n ws := ⟨h.ret, h.far, h.var, h.own, h.row, h.low, h.bel.drew⟩
/-- A line is appended. -/
theorem ReadSt.push (h : ReadSt w0 w X bs v ls b off n ws) (o : Obj) {w8 : World} {v' : Value} {l : L3} (hown : w8.ownsRow (X + 1) 46 3 v' (ls.length + 1) (ls.flatMap fL ++ fL l)) (hg : (w.alloc o).grownBy w8 v.ownBlock) :
    ReadSt w0 (w8.setCell ⟨X, 1, none⟩ v') X bs v' (ls ++ [l]) b off n ws ∧ IsBlk w8 X 25 #[.int .i64 bs, v] := by
  have hf := h.far
  have hl := h.low
  have hq : ∀ q, v.ownBlock = some q → X + 1 ≤ q := fun q e => (World.ownsRow.lt h.own q e).1
  have hx : X < w.heap.size := h.var.lt
  have hr : w0.heap.size < w.heap.size := h.ret.lt
  have keep : ∀ k, k < w.heap.size → k ≤ X → w8.heap[k]? = w.heap[k]? := fun k hk hkX => (hg.block k (by simp; omega) (fun e => by have := hq k e.symm; omega)).trans (Below.heap_alloc w o k hk)
  have var8 : IsBlk w8 X 25 #[.int .i64 bs, v] := (keep X hx (Nat.le_refl _)).trans h.var
  have hgp : w8.grownBy (w8.setCell ⟨X, 1, none⟩ v') (some X) := grown_put _ _ _ _
  have own8 : OwnL w8 (X + 1) v' (ls ++ [l]) := by
    show World.ownsRow _ _ _ _ _ (ls ++ [l]).length _
    rw [List.length_append, List.flatMap_append, List.flatMap_singleton]; exact hown
  have hsz : w.heap.size ≤ w8.heap.size := by have := hg.size; simp at this; omega
  have b8 : Below w0.heap.size w0 w8 := (h.bel.alloc h.bel.size o).grown hg (by have := h.bel.size; simp; omega) (fun q e => by have := hq q e; omega)
  have g9 : (w.alloc o).grownBy w8 v.ownBlock := hg
  refine ⟨⟨IsBlk.far ((keep _ hr (by omega)).trans h.ret) (by simp; omega) _, hf, var8.put 1 _, own8.far hgp (fun q e e2 => by injection e2 with e2; have := (World.ownsRow.lt own8 q e).1; omega), ?_, hl, b8.setCell (by simp; omega) _⟩, var8⟩
  refine RowV.grown (RowV.grown (h.row.below (below_bx w o)) g9 (fun b' off' e e2 => ?_)) hgp (fun b' off' e e2 => ?_)
  · injection e with e; injection e with e _; subst e; have := hq _ e2; omega
  · injection e with e; injection e with e _; subst e; injection e2 with e2; omega
end

theorem OwnL.more {w : World} {base base' : Nat} {v : Value} {ls : List L3} (h : OwnL w base v ls) (hb : base' ≤ base) : OwnL w base' v ls := by
  refine ⟨h.1, ?_⟩
  rcases h.2 with h | ⟨g, cap, cur, h1, h2, h3⟩
  · exact .inl h
  · exact .inr ⟨g, cap, cur, h1, by omega, h3⟩
theorem ReadSt.done {w0 w : World} {X b off n : Nat} {bs : Int} {v : Value} {ls : List L3} {ws : List Value} (h : ReadSt w0 w X bs v ls b off n ws) (u u' : Value) :
    OwnL ((w.setCell ⟨w0.heap.size, 0, none⟩ u).setCell ⟨w0.heap.size, 1, none⟩ u') w0.heap.size v ls ∧ Below w0.heap.size w0 ((w.setCell ⟨w0.heap.size, 0, none⟩ u).setCell ⟨w0.heap.size, 1, none⟩ u') := by
  have hf := h.far
  exact ⟨(h.own.far (grown_then (grown_put _ _ _ _) (grown_put _ _ _ _)) (fun q hq e => by injection e with e; have := (World.ownsRow.lt h.own q hq).1; omega)).more (by omega), (h.bel.setCell (Nat.le_refl _) _).setCell (Nat.le_refl _) _⟩
theorem l1Line_at (p : Bs) (hp : p.length ≤ 2000000) (x y z : Int) (h : lineS p = (x, y, z)) (w : World) :
    Calls Tryd.prog 36 #[.string ⟨p.toArray⟩] w fun e w' => e = .returned (.agg #[.int .i64 x, .int .i64 y, .int .i64 z]) ∧ Below w.heap.size w w' :=
  (l1Line_any ⟨p.toArray⟩ w (by rw [size_str]; exact hp)).mono fun _ _ hh => ⟨by rw [hh.1, data_str, h]; rfl, hh.2⟩

theorem str_ne {t s : ByteArray} (h : ¬ t = s) : (t.toList == s.toList) = false := by
  rw [beq_eq_false_iff_ne]; intro e
  rw [Lib.toList_data, Lib.toList_data] at e
  exact h (by rw [← Lib.mk_data t, ← Lib.mk_data s, e])
/-- What is read of a text, if it is that of the network c. -/
def resF (c : Int × List L3) (s : ByteArray) : Option (Int × List L3) := if netOk c.1 c.2 = true ∧ textF c.1 c.2 = s then some c else none
def ReadEnd (r : Option (Int × List L3)) (w : World) (e : Ending) (w' : World) : Prop :=
  match r with
  | some c => ∃ v, e = .returned (.tuple #[.agg #[.int .i64 c.1, v], .bool true]) ∧ OwnL w' w.heap.size v c.2 ∧ Below w.heap.size w w'
  | none => e = .returned (.tuple #[.agg #[.int .i64 0, .slice none 0 0], .bool false]) ∧ Below w.heap.size w w'

set_option maxRecDepth 100000 in
set_option maxHeartbeats 4000000 in
theorem specReadNet_any (s : ByteArray) (w : World) (hs : s.size ≤ 1048576) :
    Calls Tryd.prog 15 #[.string s] w (ReadEnd (resF (candS s.data.toList) s) w) := by
  obtain ⟨i0, hi, hz0, hz1, hz2⟩ := info_parts lineInfo
  have I0 := Lib.hid hi
  clear hi
  have HL := Lib.hid (show ∀ p ∈ cutA 32 [] s.data.toList, p.length ≤ 2000000 from fun p hp => by have := cutA_le 32 s.data.toList [] p hp; rw [sized] at this; simp at this; omega)
  have HC := Lib.hid (show candS s.data.toList = (readS ((cutA 32 [] s.data.toList).getD 0 []), (cutA 32 [] s.data.toList).tail.map lineS) from rfl)
  have hlen := cutA_len 32 s.data.toList []
  rw [sized] at hlen
  have hne := cutA_ne 32 s.data.toList []
  generalize candS s.data.toList = cand at *
  go_enter Tryd.func15, Tryd.ntmps15
  go_wp2_with fail
  refine (l1Cut_any s 32 32 rfl _ (by omega)).mono ?_
  rintro e w1 ⟨v, rfl, hO, hb1⟩
  have a1 : Below w.heap.size w w1 := (below_bx w _).trans (hb1.mono (by simp))
  have k1 := (IsBlk.new w 25 #[.int .i64 0, .slice none 0 0]).keep hb1
  have hs1 : w.heap.size + 1 ≤ w1.heap.size := by have := hb1.size; simpa using this
  obtain ⟨A1, c1, rfl, hr1⟩ := hO.row
  clear hO
  generalize cutA 32 [] s.data.toList = xs at *
  have hpos : 0 < xs.length := List.length_pos_iff.2 hne
  have hposI : (0 : Int) < (xs.length : Int) := by omega
  obtain ⟨b, off, x0, rfl, hbl, hx0, g0⟩ := hr1.at hpos
  obtain ⟨p0, hp0, rfl⟩ : ∃ p0, xs[0]? = some p0 ∧ strV p0 = x0 := by simpa using hx0
  have HP0 := Lib.hid (HL.out p0 (List.mem_of_getElem? hp0))
  have e0 : xs.getD 0 [] = p0 := by rw [List.getD_eq_getElem?_getD, hp0]; rfl
  rw [e0] at HC
  rw [Nat.add_zero] at g0
  unfold strV at g0
  have S1 := Lib.hid (show ReadSt w (w1.alloc (.cells #[.int .i64 (readS p0), .slice none 0 0] 25)) w1.heap.size (readS p0) (.slice none 0 0) [] b off xs.length (xs.map strV) from
    ⟨k1.alloc _, by omega, IsBlk.new _ _ _, World.ownsRow_nil _ _ _ _, hr1.below (below_bx _ _), hbl, a1.alloc a1.size _⟩)
  clear hne hx0 e0 hr1 hp0 k1 hb1 a1
  go_wp2_with fail
  refine (l1Read_still p0 HP0.out _).mono ?_
  rintro e w' ⟨rfl, hw⟩
  have hw := hw.symm
  subst hw
  generalize readS p0 = bs at *
  clear g0
  have h1n : 1 ≤ xs.length := hpos
  go_wp2_with fail
  generalize hX : w1.heap.size = X at *
  have HX := Lib.hid hX
  clear hX
  go_loopw [6] (fun i wr => ∃ (k : Nat) (v : Value), k + 1 ≤ xs.length ∧ i = .int .i64 ((k + 1 : Nat) : Int) ∧ ReadSt w wr X bs v ((xs.tail.take k).map lineS) b off xs.length (xs.map strV)) (fun i _ => xs.length - (intOf i).toNat)
  case atStart => exact ⟨0, _, by omega, rfl, by simpa using S1.out⟩
  case round =>
    obtain ⟨k, v, hk, rfl, hS⟩ := hrel
    have S2 := Lib.hid hS
    have hlk : ((xs.tail.take k).map lineS).length = k := by rw [List.length_map, List.length_take, List.length_tail]; omega
    have HLK := Lib.hid hlk
    clear hS hlk
    by_cases hlt : k + 1 < xs.length
    · have hxk : xs[k + 1]? = some (xs[k + 1]'hlt) := List.getElem?_eq_getElem hlt
      generalize xs[k + 1]'hlt = p at hxk
      have HP := Lib.hid (HL.out p (List.mem_of_getElem? hxk))
      obtain ⟨x, y, z, hl⟩ : ∃ x y z, lineS p = (x, y, z) := ⟨_, _, _, rfl⟩
      have HLP := Lib.hid hl
      have HT := Lib.hid (show (xs.tail.take (k + 1)).map lineS = (xs.tail.take k).map lineS ++ [(x, y, z)] by
        rw [List.take_add_one, List.getElem?_tail, hxk, List.map_append, ← hl]; rfl)
      generalize (xs.tail.take k).map lineS = ls at *
      have hlt2 : (k : Int) + 1 < (xs.length : Int) := by omega
      have hk0 : (0 : Int) ≤ (k : Int) + 1 := by omega
      have hk1 : ((k : Int) + 1).toNat = k + 1 := by omega
      obtain ⟨b', off', x1, e1, _, hx1, g1⟩ := S2.out.row.at hlt
      injection e1 with e1; injection e1 with e1 e2
      subst e1 e2
      obtain rfl : x1 = strV p := by rw [List.getElem?_map, hxk] at hx1; simpa using hx1.symm
      have HXK := Lib.hid hxk
      clear hx1 hxk hl
      unfold strV at g1
      obtain ⟨p0', p1, p2, p3⟩ := S2.out.var.two
      have D2 := Lib.hid S2.out.drew
      go_upto_region 6 with fail
      go_region_law (first
        | (refine step_append_lies _ rfl (.tmp 21) (.tmp 27) 23 rfl (X + 1) 46 i0 (.agg #[.int .i64 0, .int .i64 0, .int .i64 0]) 3 24 Tryd.underlying23 I0.out hz0 hz1 hz2 rfl (by decide) v ls.length (ls.flatMap fL) rfl (World.ownsRow.alloc S10.out.own _) ⟨w7.heap.size, 0, none⟩ 1 1 (fL (x, y, z)) rfl rfl ?c1 ?c2 (by decide) ?c3 ?c4 ?c5 _ rfl ?_
           case c1 => exact news_new w7 (x, y, z) _
           case c2 => intro u hu; simp [fL] at hu; rcases hu with rfl | rfl | rfl <;> rfl
           case c3 => have := HLK.out; simp only [maxLen]; omega
           case c4 => have := HLK.out; omega
           case c5 => have := S10.out.var.lt; simp; omega
           intro g cap w8 hown8 hgrow8 hat8 hlt8
           have S11 := Lib.hid (S10.out.push _ hown8 hgrow8)
           obtain ⟨t0, t1, t2, t3⟩ := S11.out.2.two)
        | (go_simp; go_at_call 36; refine (l1Line_at p HP.out x y z HLP.out _).mono ?_; rintro e w7 ⟨rfl, hb7⟩; have S10 := Lib.hid (D2.out.keep hb7); obtain ⟨q0, q1, q2, q3⟩ := S10.out.var.two; have hX7 := S10.out.var.lt; have hX8 : ¬ w7.heap.size = X := (by omega); have hX9 : ¬ X = w7.heap.size := (by omega)))
      all_goals go_wp2
      all_goals
        go_roundw
        case rel => exact ⟨k + 1, _, by omega, by go_num, by rw [HT.out]; exact S11.out.1⟩
        case measure => simp [intOf]; omega
    · have HT := Lib.hid (show (xs.tail.take k).map lineS = xs.tail.map lineS by rw [List.take_of_length_le (by rw [List.length_tail]; omega)])
      have S3 := Lib.hid (show ReadSt w wr X bs v (xs.tail.map lineS) b off xs.length (xs.map strV) by have := S2.out; rw [HT.out] at this; exact this)
      have hl1 : (xs.tail.map lineS).length ≤ 1048576 := by rw [List.length_map, List.length_tail]; omega
      clear HT S2 HLK
      generalize xs.tail.map lineS = ls at *
      obtain ⟨A', c', rfl, hrow⟩ := S3.out.own.row
      have R3 := Lib.hid hrow
      clear hrow
      obtain ⟨p0', p1, p2, p3⟩ := S3.out.var.two
      obtain ⟨q0, q1, q2, q3⟩ := S3.out.ret.two
      have hXw : ¬ w.heap.size = X := by have := S3.out.far; omega
      have hXw' : ¬ X = w.heap.size := by have := S3.out.far; omega
      by_cases hv : netOk bs ls = true
      · have HV := Lib.hid hv
        go_wp2_with fail
        refine (specNetValid_any bs A' ls.length c' ls _ hl1 R3.out).mono ?_
        rintro e w2 ⟨rfl, hb2⟩
        rw [HV.out]
        have S4 := Lib.hid (S3.out.keep hb2)
        have R4 := Lib.hid (R3.out.below hb2)
        clear p0' p1 p2 p3 q0 q1 q2 q3
        obtain ⟨p0', p1, p2, p3⟩ := S4.out.var.two
        clear hv
        go_wp2_with fail
        refine (specNetText_any bs A' ls.length c' ls _ hl1 R4.out).mono ?_
        rintro e w3 ⟨rfl, hb3⟩
        have S5 := Lib.hid (S4.out.keep hb3)
        clear p0' p1 p2 p3
        obtain ⟨p0', p1, p2, p3⟩ := S5.out.var.two
        obtain ⟨q0, q1, q2, q3⟩ := S5.out.ret.two
        by_cases ht : textF bs ls = s
        · have HR := Lib.hid (show resF cand s = some (bs, ls) by rw [resF, HC.out, if_pos ⟨HV.out, ht⟩])
          rw [ht]
          clear ht
          go_wp2
          refine bodyPost_ret (v := .tuple #[.agg #[.int .i64 bs, .slice A' ls.length c'], .bool true]) (by simp [results, Tryd.results15, go_sem, q0, q1]) rfl ?_
          rw [HR.out]
          exact ⟨_, rfl, S5.out.done _ _⟩
        · have HR := Lib.hid (show resF cand s = none by rw [resF, HC.out, if_neg (fun h => ht h.2)])
          generalize textF bs ls = t at *
          have h3 := str_ne ht
          clear ht
          go_wp2
          refine bodyPost_ret (v := .tuple #[.agg #[.int .i64 0, .slice none 0 0], .bool false]) (by simp [results, Tryd.results15, go_sem, q0, q1]) rfl ?_
          rw [HR.out]
          exact ⟨rfl, (S5.out.done _ _).2⟩
      · have HR := Lib.hid (show resF cand s = none by rw [resF, HC.out, if_neg (fun h => hv h.1)])
        rw [Bool.not_eq_true] at hv
        have HV := Lib.hid hv
        clear hv
        go_wp2_with fail
        refine (specNetValid_any bs A' ls.length c' ls _ hl1 R3.out).mono ?_
        rintro e w2 ⟨rfl, hb2⟩
        rw [HV.out]
        have S4 := Lib.hid (S3.out.keep hb2)
        clear p0' p1 p2 p3 q0 q1 q2 q3
        obtain ⟨q0, q1, q2, q3⟩ := S4.out.ret.two
        go_wp2
        refine bodyPost_ret (v := .tuple #[.agg #[.int .i64 0, .slice none 0 0], .bool false]) (by simp [results, Tryd.results15, go_sem, q0, q1]) rfl ?_
        rw [HR.out]
        exact ⟨rfl, (S4.out.done _ _).2⟩
end Go.Proofs.YtciciidndjkdiaaDoor
