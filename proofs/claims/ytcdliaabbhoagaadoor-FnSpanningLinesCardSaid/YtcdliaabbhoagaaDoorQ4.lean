/- SpanningLines, of the program. -/
import Derived.Test.YtcdliaabbhoagaaDoorP1
import Derived.Test.YtcdliaabbhoagaaDoorP2
import Derived.Test.YtcdliaabbhoagaaDoorBCD
namespace Go.Proofs.YtcdliaabbhoagaaDoor
open Go.ChangeShapes Go.WideShapes Go.ChangeAt Go.RowKit

theorem Rt.deep {s : List Nat} {b r r' d d' : Nat} (h : Rt s b r d) (h' : Rt s b r' d') : d = d' := by
  induction h generalizing d' with
  | here h =>
    cases h' with
    | here _ => rfl
    | up h1 h2 _ => rw [h] at h1; injection h1 with h1; exact absurd h1.symm h2
  | up h1 h2 _ ih =>
    cases h' with
    | here h => rw [h1] at h; injection h with h; exact absurd h h2
    | up h3 _ h4 => rw [h1] at h3; injection h3 with h3; subst h3; rw [ih h4]
theorem Rt.split {s : List Nat} {b r d : Nat} (h : Rt s b r d) : (b = r ∧ s[b]? = some b) ∨ ∃ p d', s[b]? = some p ∧ p ≠ b ∧ Rt s p r d' := by
  cases h with
  | here h => exact .inl ⟨rfl, h⟩
  | up h1 h2 h3 => exact .inr ⟨_, _, h1, h2, h3⟩
open Classical in
/-- How far a bus stands behind. -/
noncomputable def deepF (s : List Nat) (b : Nat) : Nat := if h : ∃ d, ∃ r, Rt s b r d then h.choose else 0
theorem deepF_eq {s : List Nat} {b r d : Nat} (h : Rt s b r d) : deepF s b = d := by
  have hx : ∃ d, ∃ r, Rt s b r d := ⟨d, r, h⟩
  rw [deepF, dif_pos hx]
  obtain ⟨r', h'⟩ := hx.choose_spec
  exact h'.deep h
theorem intsB_get {s : List Nat} {k z : Nat} (h : s[k]? = some z) : (intsB s)[k]? = some (.int .i64 (z : Int)) := by simp [intsB, ofN, h]

set_option maxRecDepth 100000 in
theorem standsFor_any (g nb x r dd : Nat) (s : List Nat) (w : World) (hg : IsBlk w g 3 (intsB s)) (hl : s.length = nb) (hb : ∀ b z : Nat, s[b]? = some z → z < nb) (hr : Rt s x r dd) (hx : x < nb) :
    Calls Tryd.prog 40 #[.slice (some ⟨g, 0, none⟩) nb nb, .int .i64 (x : Int)] w fun e w' => e = .returned (.int .i64 (r : Int)) ∧ w' = w := by
  have HG := Lib.hid hg
  have HL := Lib.hid hl
  have HB := Lib.hid hb
  have HR := Lib.hid hr
  clear hg hl hb hr
  go_enter Tryd.func40, Tryd.ntmps40
  go_wp2
  go_loopw [1] (fun v wr => ∃ y dy : Nat, v = .int .i64 (y : Int) ∧ y < nb ∧ Rt s y r dy ∧ wr = w) (fun v _ => deepF s (intOf v).toNat)
  case atStart => exact ⟨x, dd, rfl, hx, HR.out, rfl⟩
  case round =>
    obtain ⟨y, dy, rfl, hy, hry, rfl⟩ := hrel
    have q0 : (0 : Int) ≤ (y : Int) := by omega
    have q1 : (y : Int) < (nb : Int) := by omega
    rcases hry.split with ⟨rfl, h⟩ | ⟨p, d', h1, h2, h3⟩
    · have c0 : wr.cell? ⟨g, y, none⟩ = some (.int .i64 (y : Int)) := by rw [HG.out.cell, intsB_get h]
      have hne : ((y : Int) != (y : Int)) = false := by simp
      clear h hry HR
      go_wp2
      go_ret
      exact ⟨rfl, rfl⟩
    · have c0 : wr.cell? ⟨g, y, none⟩ = some (.int .i64 (p : Int)) := by rw [HG.out.cell, intsB_get h1]
      have hne : ((p : Int) != (y : Int)) = true := by simp; omega
      have HP := Lib.hid (HB.out y p h1)
      have H3 := Lib.hid h3
      have HD := Lib.hid (show deepF s y = d' + 1 from deepF_eq (.up h1 h2 h3))
      clear h1 h2 h3 hry
      go_wp2
      go_roundw
      case rel => exact ⟨p, d', rfl, HP.out, H3.out, trivial⟩
      case measure => simp only [intOf, Int.toNat_natCast]; rw [HD.out, deepF_eq H3.out]; omega

set_option maxRecDepth 100000 in
theorem unite_any (g nb a b ra rb da db : Nat) (s : List Nat) (w : World) (hg : IsBlk w g 3 (intsB s)) (hl : s.length = nb) (hb : ∀ b z : Nat, s[b]? = some z → z < nb) (ha : Rt s a ra da) (hrb : Rt s b rb db) (hla : a < nb) (hlb : b < nb) :
    Calls Tryd.prog 29 #[.slice (some ⟨g, 0, none⟩) nb nb, .int .i64 (a : Int), .int .i64 (b : Int)] w fun e w' => e = .returned (.bool ((ra : Int) != (rb : Int))) ∧ w' = w.setCell ⟨g, ra, none⟩ (.int .i64 (rb : Int)) := by
  have hral : ra < nb := by have := ha.lt; omega
  have S1 := Lib.hid (standsFor_any g nb a ra da s w hg hl hb ha hla)
  have S2 := Lib.hid (standsFor_any g nb b rb db s w hg hl hb hrb hlb)
  have c0 : w.cell? ⟨g, ra, none⟩ = some (.int .i64 (ra : Int)) := by rw [hg.cell, intsB_get ha.top]
  have f0 := hg.thaw ra
  have q0 : (0 : Int) ≤ (ra : Int) := by omega
  have q1 : (ra : Int) < (nb : Int) := by omega
  clear hg hl hb ha hrb
  go_enter Tryd.func29, Tryd.ntmps29
  go_wp2_with fail
  refine S1.out.mono ?_
  rintro e w' ⟨rfl, rfl⟩
  go_wp2_with fail
  refine S2.out.mono ?_
  rintro e w' ⟨rfl, rfl⟩
  clear S1 S2
  go_wp2
  go_ret
  exact ⟨rfl, rfl⟩
theorem Rt.src {s : List Nat} {b r d : Nat} (h : Rt s b r d) : b < s.length := by
  rcases h.split with ⟨_, h⟩ | ⟨p, d', h, _⟩ <;> exact (List.getElem?_eq_some_iff.1 h).1
theorem SetsInv.lt {es : List E2} {nb : Nat} {s : List Nat} (h : SetsInv es nb s) : ∀ b z : Nat, s[b]? = some z → z < nb := by
  intro b z hz
  have hb : b < nb := by have := (List.getElem?_eq_some_iff.1 hz).1; have := h.len; omega
  obtain ⟨r, d, hr⟩ := h.root b hb
  rcases hr.split with ⟨_, h1⟩ | ⟨p, d', h1, _, h3⟩
  · rw [h1] at hz; injection hz with hz; omega
  · rw [h1] at hz; injection hz with hz
    have := h3.src
    have := h.len
    omega
theorem nat_set_same {s : List Nat} {k z : Nat} (h : s[k]? = some z) : s.set k z = s := by
  apply List.ext_getElem?
  intro j
  by_cases hj : k = j
  · subst hj; rw [List.getElem?_set_self (List.getElem?_eq_some_iff.1 h).1, h]
  · rw [List.getElem?_set_ne hj]
theorem unite_sets (g nb a b : Nat) (s : List Nat) (es es' : List E2) (w : World) (hg : IsBlk w g 3 (intsB s)) (hs : SetsInv es nb s) (hadj : ∀ x y, Adj es' x y ↔ Adj es x y ∨ (x = a ∧ y = b) ∨ (x = b ∧ y = a)) (hla : a < nb) (hlb : b < nb) :
    Calls Tryd.prog 29 #[.slice (some ⟨g, 0, none⟩) nb nb, .int .i64 (a : Int), .int .i64 (b : Int)] w fun e w' => e = .returned (.bool (!connB es a b)) ∧ (∃ s', IsBlk w' g 3 (intsB s') ∧ SetsInv (if connB es a b = true then es else es') nb s') ∧ w.grownBy w' (some g) := by
  obtain ⟨ra, da, ha⟩ := hs.root a hla
  obtain ⟨rb, db, hb⟩ := hs.root b hlb
  have hc := hs.conn a b ra rb da db hla hlb ha hb
  refine (unite_any g nb a b ra rb da db s w hg hs.len hs.lt ha hb hla hlb).mono ?_
  rintro e w' ⟨rfl, rfl⟩
  have hblk : IsBlk (w.setCell ⟨g, ra, none⟩ (.int .i64 (rb : Int))) g 3 (intsB (s.set ra rb)) := by
    rw [← intsB_set]; exact hg.put ra _
  refine ⟨retB ?_, ⟨s.set ra rb, hblk, ?_⟩, grown_put _ _ _ _⟩
  · rw [Bool.eq_iff_iff, Bool.not_eq_true', connB_no, ← hc, bne_iff_ne]
    omega
  · by_cases h : ra = rb
    · rw [if_pos (connB_iff.2 (hc.1 h))]
      subst h
      rw [nat_set_same ha.top]; exact hs
    · rw [if_neg (by rw [connB_iff]; exact fun e => h (hc.2 e))]
      exact sets_join hs hadj hla hlb ha hb h

theorem spTo_next (ls : List L3) (ts : List Bool) (k : Nat) : ofN (spTo ls ts (k + 1)) = ofN (spTo ls ts k) ++ (if spB ls ts (spX ls ts k) k = true then [(k : Int)] else []) := by
  cases h : spB ls ts (spX ls ts k) k
  · rw [spTo_no h]; simp
  · rw [spTo_yes h]; simp [ofN]
/-- While the spanning lines are taken. -/
structure SpanSt (w wr : World) (g nb : Nat) (ls : List L3) (ts : List Bool) (v : Value) (k : Nat) : Prop where
  bel : Below w.heap.size w wr
  le : w.heap.size ≤ g
  sets : ∃ s, IsBlk wr g 3 (intsB s) ∧ SetsInv (edgesOn ls (spX ls ts k)) nb s
  own : OwnI 3 wr (g + 1) v (ofN (spTo ls ts k))
theorem SpanSt.push {w wr w' : World} {g nb k : Nat} {ls : List L3} {ts : List Bool} {v : Value} {g' n' cap' : Nat} (bel : Below w.heap.size w wr) (le : w.heap.size ≤ g) (sets : ∃ s, IsBlk wr g 3 (intsB s) ∧ SetsInv (edgesOn ls (spX ls ts (k + 1))) nb s) (own : OwnI 3 wr (g + 1) v (ofN (spTo ls ts k))) (o : Obj)
    (hown : OwnI 3 w' (g + 1) (.slice (some ⟨g', 0, none⟩) n' cap') (ofN (spTo ls ts (k + 1)))) (hg : (wr.alloc o).grownBy w' v.ownBlock) :
    SpanSt w w' g nb ls ts (.slice (some ⟨g', 0, none⟩) n' cap') (k + 1) := by
  obtain ⟨s, hs, hsi⟩ := sets
  have hlow := OwnI.lt own
  have hsz := bel.size
  refine ⟨(bel.alloc hsz o).grown hg (by simp; omega) (fun q hq => by have := (hlow q hq).1; omega), le, ⟨s, (hs.alloc o).farG hg (fun e => by have := (hlow _ e).1; omega), hsi⟩, hown⟩

set_option maxRecDepth 100000 in
set_option maxHeartbeats 800000 in
theorem spanningLines_any (bs : Int) (A : Option Addr) (n c : Nat) (ls : List L3) (B : Option Addr) (m d : Nat) (ts : List Bool) (w : World) (hn : n ≤ 1048576) (hr : RowL w A n ls) (hm : m ≤ 1048576) (hrt : RowT w B m ts) :
    Calls Tryd.prog 13 #[.agg #[.int .i64 bs, .slice A n c], .slice B m d] w fun e w' => ∃ v, e = .returned v ∧ OwnI 3 w' w.heap.size v (spaF bs ls ts) ∧ Below w.heap.size w w' := by
  obtain ⟨i0, hi, hz0, hz1, hz2⟩ := info_parts intInfo6
  have HI := Lib.hid hi
  have HR := Lib.hid hr
  have HT := Lib.hid hrt
  have HL := Lib.hid hrt.len
  have HLR := Lib.hid hr.1
  clear hr hrt hi
  have hbx := below_bx w (.cells #[.int .i64 bs, .slice A n c] 25)
  by_cases hs : stOk bs ls m = true
  · have hbs := stOk_bs hs
    have HS := Lib.hid hs
    have HS2 := Lib.hid (show stOk bs ls ts.length = true by rw [HL.out]; exact hs)
    have HN := Lib.hid (stOk_net hs)
    have hm10 : m ≤ 10 := (stOk_len hs).2
    obtain rfl : m = n := by have := (stOk_len hs).1; have := HLR.out; omega
    obtain ⟨nb, rfl⟩ := Int.eq_ofNat_of_zero_le (show 0 ≤ bs by omega)
    have hnb : nb ≤ 8 := by omega
    have HF := Lib.hid (show spaF nb ls ts = ofN (spTo ls ts m) by rw [spaF_of HS2.out, HL.out])
    clear hs hbs
    go_enter Tryd.func13, Tryd.ntmps13
    go_wp2_with fail
    refine (stateValid_any nb A m c ls B m d (w.alloc (.cells #[.int .i64 (nb : Int), .slice A m c] 25)) hn (HR.out.below hbx) (by omega)).mono ?_
    rintro e w1 ⟨rfl, hb1⟩
    rw [HS.out]
    have a1 : Below w.heap.size w w1 := hbx.trans (hb1.mono (by simp))
    obtain ⟨p0, p1, _, _⟩ := ((IsBlk.new w 25 #[.int .i64 (nb : Int), .slice A m c]).keep hb1).two
    have BX := Lib.hid ((IsBlk.new w 25 #[.int .i64 (nb : Int), .slice A m c]).keep hb1)
    go_wp2_with fail
    refine (apart_any nb (by omega) w1).mono ?_
    rintro e w2 ⟨rfl, hbk, hb2⟩
    have a2 : Below w.heap.size w w2 := a1.trans (hb2.mono a1.size)
    obtain ⟨p2, p3, _, _⟩ := (BX.out.keep hb2).two
    have ST0 := Lib.hid (show SpanSt w w2 w1.heap.size nb ls ts (.slice none 0 0) 0 from ⟨a2, a1.size, ⟨_, hbk, sets_same (sets_start nb) (fun a b => by rw [spX, none_on])⟩, OwnI.nil⟩)
    generalize w1.heap.size = g at *
    clear hbk hb2 a1 a2 p0 p1 hb1 hbx BX
    go_wp2
    go_loopw [6, 19] (fun v i wr => ∃ k : Nat, k ≤ m ∧ i = .int .i64 k ∧ SpanSt w wr g nb ls ts v k) (fun _ i _ => m - (intOf i).toNat)
    case atStart => exact ⟨0, by omega, rfl, ST0.out⟩
    case round =>
      obtain ⟨k, hk, rfl, hst⟩ := hrel
      have ST := Lib.hid hst
      clear hst ST0 p2 p3
      by_cases hlt : k < m
      · obtain ⟨b, off, rfl, hb, HC⟩ := HR.out.2 (by omega)
        have hkl : ls[k]? = some (ls[k]'(by have := HLR.out; omega)) := List.getElem?_eq_getElem _
        generalize (ls[k]'(by have := HLR.out; omega)) = l at hkl
        obtain ⟨g0, g1, g2⟩ := HC k l hkl
        rw [← ST.out.bel.cell (p := ⟨b, off + k * 3, none⟩) hb] at g0
        rw [← ST.out.bel.cell (p := ⟨b, off + k * 3 + 1, none⟩) hb] at g1
        rw [← ST.out.bel.cell (p := ⟨b, off + k * 3 + 2, none⟩) hb] at g2
        obtain ⟨b', off', t, rfl, hb', hkt, e0⟩ := HT.out.at_ hlt
        rw [← ST.out.bel.cell (p := ⟨b', off' + k, none⟩) hb'] at e0
        have hlo := netOk_line HN.out hkl
        have hspb := spB_at (x := spX ls ts k) hkl hkt
        obtain ⟨_, i2, _, _, _⟩ := span_inv HN.out (stOk_len HS2.out).1 k (by have := HL.out; omega)
        have hkx : k < (spX ls ts k).length := by rw [spX_len]; have := HL.out; omega
        have hxf : (spX ls ts k)[k]? = some false := by
          have := i2 k (Nat.le_refl _)
          rw [List.getElem?_eq_getElem hkx] at this ⊢
          congr 1
          rcases h : (spX ls ts k)[k] with _ | _
          · rfl
          · rw [h] at this; exact absurd rfl this
        have hadj := adj_set (ls := ls) hkl hkx
        rw [set_same hxf] at hadj
        clear i2 hkx hxf HC
        obtain ⟨x, y, z⟩ := l
        simp [lineOk, inB] at hlo
        simp only at g0 g1 g2 hspb hadj
        obtain ⟨xa, rfl⟩ := Int.eq_ofNat_of_zero_le hlo.1.1.1.1
        obtain ⟨ya, rfl⟩ := Int.eq_ofNat_of_zero_le hlo.1.1.2.1
        have hxa : xa < nb := by omega
        have hya : ya < nb := by omega
        simp only [Int.toNat_natCast] at hspb hadj
        have q4 : (0 : Int) ≤ (k : Int) := by omega
        have q5 : (k : Int) < (m : Int) := by omega
        have HSP := Lib.hid hspb
        have HADJ := Lib.hid hadj
        have HNX := Lib.hid (spTo_next ls ts k)
        have hle2 : (ofN (spTo ls ts k)).length ≤ k := by rw [ofN_len]; exact spTo_len ls ts k
        have hbo := below_bx wr (.cells #[.int .i64 (xa : Int), .int .i64 (ya : Int), .int .i64 z] 45)
        have e1 := (hbo.cell (p := ⟨b', off' + k, none⟩) (Nat.lt_of_lt_of_le hb' ST.out.bel.size)).trans e0
        have HBO := Lib.hid hbo
        clear hlo hkl hkt hspb hadj hbo
        cases t
        · have hsp : spB ls ts (spX ls ts k) k = false := by rw [HSP.out]; rfl
          have HX1 := Lib.hid (spX_no hsp)
          have HX2 := Lib.hid (show ofN (spTo ls ts (k + 1)) = ofN (spTo ls ts k) by rw [HNX.out, hsp]; simp)
          clear hsp
          go_wp2
          go_roundw
          case rel =>
            obtain ⟨s, hs1, hs2⟩ := ST.out.sets
            exact ⟨k + 1, by omega, by go_num, ST.out.bel.trans (HBO.out.mono ST.out.bel.size), ST.out.le, ⟨s, hs1.keep HBO.out, by rw [HX1.out]; exact hs2⟩, by rw [HX2.out]; exact OwnI.keep ST.out.own HBO.out⟩
          case measure => simp [intOf]; omega
        · obtain ⟨s, hs1, hs2⟩ := ST.out.sets
          have UN := Lib.hid (unite_sets g nb xa ya s _ _ _ (hs1.keep HBO.out) hs2 HADJ.out hxa hya)
          have OW := Lib.hid (OwnI.keep ST.out.own HBO.out)
          have a3 := ST.out.bel.trans (HBO.out.mono ST.out.bel.size)
          clear hs1 hs2
          cases hc : connB (edgesOn ls (spX ls ts k)) xa ya
          · rw [hc] at HSP UN
            have hsp : spB ls ts (spX ls ts k) k = true := by rw [HSP.out]; rfl
            have HX1 := Lib.hid (spX_yes hsp)
            have HX2 := Lib.hid (show ofN (spTo ls ts (k + 1)) = ofN (spTo ls ts k) ++ [(k : Int)] by rw [HNX.out, hsp]; rfl)
            clear hsp hc
            go_wp2_with (first
              | (go_at_call 29; refine UN.out.mono ?_; rintro e w4 ⟨rfl, hse4, hgr4⟩; have OW4 := Lib.hid (OwnI.far OW.out hgr4 (fun q hq e => by injection e with e; have := (OwnI.lt OW.out q hq).1; omega)); have a4 := a3.grown hgr4 a3.size (fun q hq => by injection hq with hq; have := ST.out.le; omega); have HSE := Lib.hid hse4; have hg4 : g < w4.heap.size := by { obtain ⟨s4, h4, _⟩ := hse4; exact h4.lt })
              | (at_builtin
                 refine wpList_append_lies _ rfl _ _ _ rfl (g + 1) 3 i0 (.int .i64 0) 1 8 Tryd.underlying34 HI.out hz0 hz1 hz2 rfl (by decide) _ _ _ rfl (World.ownsRow.alloc OW4.out _) ⟨w4.heap.size, 0, none⟩ 1 1 [.int .i64 (k : Int)] rfl rfl ?c1 ?c2 ?c0 ?c3 ?c4 ?c5 _ rfl ?_
                 case c1 => exact cell_one_new _ _ _
                 case c2 => intro u hu; simp at hu; subst hu; rfl
                 case c0 => omega
                 case c3 => simp only [maxLen]; omega
                 case c4 => omega
                 case c5 => simp; omega
                 intro g' cap' w5 hown' hgrow hat hlt3
                 have S5 := Lib.hid (SpanSt.push (k := k) (ls := ls) (ts := ts) (nb := nb) a4 ST.out.le (by rw [HX1.out]; exact HSE.out) OW4.out (.cells #[.int .i64 (k : Int)] 3) (by rw [HX2.out]; simpa [OwnI] using hown') hgrow))
              | fail)
            go_roundw
            case rel => exact ⟨k + 1, by omega, by go_num, S5.out⟩
            case measure => simp [intOf]; omega
          · rw [hc] at HSP UN
            have hsp : spB ls ts (spX ls ts k) k = false := by rw [HSP.out]; rfl
            have HX1 := Lib.hid (spX_no hsp)
            have HX2 := Lib.hid (show ofN (spTo ls ts (k + 1)) = ofN (spTo ls ts k) by rw [HNX.out, hsp]; simp)
            clear hsp hc
            go_wp2_with (first
              | (go_at_call 29; refine UN.out.mono ?_; rintro e w4 ⟨rfl, hse4, hgr4⟩)
              | fail)
            go_roundw
            case rel =>
              refine ⟨k + 1, by omega, by go_num, a3.grown hgr4 a3.size (fun q hq => by injection hq with hq; have := ST.out.le; omega), ST.out.le, ?_, ?_⟩
              · rw [HX1.out]; exact hse4
              · rw [HX2.out]; exact OwnI.far OW.out hgr4 (fun q hq e => by injection e with e; have := (OwnI.lt OW.out q hq).1; omega)
            case measure => simp [intOf]; omega
      · go_wp2
        go_ret
        obtain rfl : k = m := by omega
        exact ⟨_, rfl, by rw [HF.out]; exact OwnI.more ST.out.own (by have := ST.out.le; omega), ST.out.bel⟩
  · have hs' : stOk bs ls m = false := by rwa [Bool.not_eq_true] at hs
    have HS := Lib.hid hs'
    have HF := Lib.hid (show spaF bs ls ts = [] from spaF_not (by rw [HL.out]; exact hs'))
    clear hs hs'
    go_enter Tryd.func13, Tryd.ntmps13
    go_wp2_with fail
    refine (stateValid_any bs _ n c ls _ m d _ hn (HR.out.below hbx) (by omega)).mono ?_
    rintro e w1 ⟨rfl, hb1⟩
    rw [HS.out]
    go_wp2
    go_ret
    exact ⟨_, rfl, by rw [HF.out]; exact OwnI.nil, hbx.trans (hb1.mono (by simp))⟩
end Go.Proofs.YtcdliaabbhoagaaDoor
