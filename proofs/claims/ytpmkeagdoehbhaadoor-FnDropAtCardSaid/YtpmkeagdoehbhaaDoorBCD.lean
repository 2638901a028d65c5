/- Texts joined: The numbers of the buses apart, of the program; IslandNumbers, of the program; Reached and SameIsland, of the program; SameIsland, of the program. -/
import Derived.Test.YtpmkeagdoehbhaaDoorBPC
import Derived.Test.YtpmkeagdoehbhaaDoorBCC
import Derived.ScopeJumps
import Derived.Deep.DeepCutAuto
import Derived.Laws.Small
import Derived.WalkMore
import Derived.StillTailTactics
import Derived.Deep.RegionHeld3

/- The numbers of the buses apart, of the program. -/
namespace Go.Proofs.YtpmkeagdoehbhaaDoor
open Go.ChangeShapes Go.WideShapes Go.ChangeAt Go.RowKit

theorem makeIntsN (n : Nat) (hn : n ≤ 1048576) (w : World) : (Instr.makeSlice 28 (.int .i64 (n : Int)) (.int .i64 (n : Int))).run Tryd.prog w = .ok (.slice (some ⟨w.heap.size, 0, none⟩) n n) (w.alloc (.cells (madeCells (Value.int .i64 0).cells n) 3)) := by
  obtain ⟨i0, hi, hz0, hz1, hz2⟩ := info_parts intInfo6
  have := run_make (P := Tryd.prog) w 28 3 i0 _ Tryd.underlying28 hi hz0 .i64 .i64 n n (by omega) (by omega) (by rw [hz2]; omega) (by omega)
  rw [this, Int.toNat_natCast, hz1, Nat.mul_one]

def intsB (zs : List Nat) : Array Value := ((ofN zs).map (Value.int .i64)).toArray
theorem intsB_set (zs : List Nat) (a z : Nat) : (intsB zs).setIfInBounds a (.int .i64 (z : Int)) = intsB (zs.set a z) := by
  apply Array.ext'
  simp [intsB, ofN, List.map_set]

set_option maxRecDepth 100000 in
theorem apart_any (nb : Nat) (hnb : nb ≤ 1048576) (w : World) : Calls Tryd.prog 85 #[.int .i64 (nb : Int)] w fun e w' => e = .returned (.slice (some ⟨w.heap.size, 0, none⟩) nb nb) ∧ IsBlk w' w.heap.size 3 (intsB (List.range nb)) ∧ Below w.heap.size w w' := by
  have hmk := makeIntsN nb hnb
  go_enter Tryd.func85, Tryd.ntmps85
  go_wp2
  clear hmk
  go_loopw [9] (fun i wr => ∃ k : Nat, k ≤ nb ∧ i = .int .i64 k ∧ Below w.heap.size w wr ∧ ∃ cu : Array Value, IsBlk wr w.heap.size 3 cu ∧ cu.size = nb ∧ cu.toList.take k = (ofN (List.range k)).map (Value.int .i64)) (fun i _ => nb - (intOf i).toNat)
  case atStart => exact ⟨0, by omega, rfl, below_bx _ _, _, IsBlk.new w _ _, size_madeCells _ _, by simp [ofN]⟩
  case round =>
    obtain ⟨k, hk, rfl, hbel, cu, hblk, hsz, htk⟩ := hrel
    by_cases hlt : k < nb
    · have hkc : k < cu.size := by omega
      have c0 : wr.cell? ⟨w.heap.size, k, none⟩ = some cu[k] := (hblk.cell k).trans (Array.getElem?_eq_getElem hkc)
      have f0 : wr.frozen? ⟨w.heap.size, k, none⟩ = false := hblk.thaw k
      generalize cu[k] = u at c0
      have HB := Lib.hid hblk
      have HS2 := Lib.hid hsz
      have HK := Lib.hid htk
      clear hblk hsz htk
      go_wp2
      go_roundw
      case rel =>
        refine ⟨k + 1, by omega, by go_num, hbel.setCell (Nat.le_refl _) _, _, HB.out.put k _, by simp [HS2.out], ?_⟩
        rw [take_set1 _ _ _ hkc, HK.out, List.range_succ]; simp [ofN]
      case measure => simp [intOf]; omega
    · obtain rfl : k = nb := by omega
      have hcu : cu = intsB (List.range k) := by
        apply Array.ext'
        rw [List.take_of_length_le (by simp; omega)] at htk
        rw [htk]; simp [intsB]
      subst hcu
      have HB := Lib.hid hblk
      have HL := Lib.hid hbel
      clear hblk hsz htk hbel
      go_wp2
      go_ret
      exact ⟨rfl, HB.out, HL.out⟩
end Go.Proofs.YtpmkeagdoehbhaaDoor

/- IslandNumbers, of the program. -/
namespace Go.Proofs.YtpmkeagdoehbhaaDoor
open Go.ChangeShapes Go.WideShapes Go.ChangeAt Go.RowKit

/-- A scope with one label behind which the run may come back to it: the code behind the label once, from whatever frame holds J. -/
theorem wp_scope_again {P : Program} {a : Act} {w : World} {Q : Exit → Act → World → Prop} {c b : Code} (l : Nat) (J : Act → World → Prop) (μ : Act → World → Nat) (hf : findLabel c l = some (.seq .skip b))
    (pass : ∀ a w, J a w → b.wp P (Exit.jump l (fun a' w' => J a' w' ∧ μ a' w' < μ a w) Q) a w)
    (first : (∀ a w, J a w → b.wp P (Exit.jump l J Q) a w) → c.wp P (Exit.jump l J Q) a w) : (Code.scope c).wp P Q a w := by
  refine wp_scope_jumps l J μ hf (first fun a w h => wp_mono (pass a w h) ?_) (fun a w h => wp_seq (wp_skip (pass a w h)))
  intro e a' w' hq
  cases e with
  | goto l' => exact ⟨hq.1, hq.2.1⟩
  | _ => exact hq

/-- The frame at the label. -/
def IslFrame (nb n m c d g0 g : Nat) (A B : Option Addr) (a : Act) : Prop := ∃ u3 u6 u7 u8 u9 u10 u11 u12 u13 u14 u15 u16 u17 u18 u19 u20 u21 u22 u23 u24 u25 u26 u27 u28 u29 u30 u31 u32 u33 u34 u35 u36 u37 u38 u39 u40 u41 u42 u43 u44 u45 u46 u47 u48 u49 u50 u51 u52 u53 u54 u55 u56 u57 u58 u59 u60 u61 u62 u63 : Value, a = { tmps := #[.agg #[.int .i64 (nb : Int), .slice A n c], .slice B m d, .pointer (some ⟨g0, 0, none⟩), u3, .slice none 0 0, .slice (some ⟨g, 0, none⟩) nb nb, u6, u7, u8, u9, u10, u11, u12, u13, u14, u15, u16, u17, u18, u19, u20, u21, u22, u23, u24, u25, u26, u27, u28, u29, u30, u31, u32, u33, u34, u35, u36, u37, u38, u39, u40, u41, u42, u43, u44, u45, u46, u47, u48, u49, u50, u51, u52, u53, u54, u55, u56, u57, u58, u59, u60, u61, u62, u63], defers := [] }
/-- What holds at the label: the numbers lie in a block of the call's own. -/
structure IslSt (es : List E2) (nb n c : Nat) (A : Option Addr) (w wx : World) (g : Nat) (zs : List Nat) : Prop where
  lt : w.heap.size < g
  bel : Below w.heap.size w wx
  box : IsBlk wx w.heap.size 25 #[.int .i64 (nb : Int), .slice A n c]
  blk : IsBlk wx g 3 (intsB zs)
  inv : NumInv es nb zs
section
variable {es : List E2} {nb n c : Nat} {A : Option Addr} {w wx w' : World} {g : Nat} {zs : List Nat}
theorem IslSt.next (h : IslSt es nb n c A w wx g zs) (hb : Below wx.heap.size wx w') : IslSt es nb n c A w w' g zs :=
  ⟨h.lt, h.bel.trans (hb.mono h.bel.size), h.box.keep hb, h.blk.keep hb, h.inv⟩
theorem IslSt.cell {k z : Nat} (h : IslSt es nb n c A w wx g zs) (hz : zs[k]? = some z) : wx.cell? ⟨g, k, none⟩ = some (.int .i64 (z : Int)) := by
  rw [h.blk.cell]; simp [intsB, ofN, hz]
end
def IslJ (es : List E2) (nb n m c d : Nat) (A B : Option Addr) (w : World) (a : Act) (wx : World) : Prop := ∃ g zs, IslFrame nb n m c d w.heap.size g A B a ∧ IslSt es nb n c A w wx g zs
open Classical in
/-- The sum of the numbers. -/
noncomputable def islMu (a : Act) (wx : World) : Nat := match a.tmps.getD 5 undef with | .slice (some ad) _ _ => (match wx.heap[ad.block]? with | some (.cells cs _ _) => (cs.toList.map fun v => (intOf v).toNat).sum | _ => 0) | _ => 0
theorem islMu_eq {es : List E2} {nb n m c d g0 g : Nat} {A B : Option Addr} {w wx : World} {a : Act} {zs : List Nat} (hf : IslFrame nb n m c d g0 g A B a) (hs : IslSt es nb n c A w wx g zs) : islMu a wx = zs.sum := by
  obtain ⟨u3, u6, u7, u8, u9, u10, u11, u12, u13, u14, u15, u16, u17, u18, u19, u20, u21, u22, u23, u24, u25, u26, u27, u28, u29, u30, u31, u32, u33, u34, u35, u36, u37, u38, u39, u40, u41, u42, u43, u44, u45, u46, u47, u48, u49, u50, u51, u52, u53, u54, u55, u56, u57, u58, u59, u60, u61, u62, u63, rfl⟩ := hf
  have hb := hs.blk
  rw [IsBlk] at hb
  simp only [islMu, Array.getD]
  simp [hb, intsB, ofN, intOf, Function.comp_def]

theorem lineS_start {w : World} {gl : Nat} {u v : Value} (h : w.cell? ⟨gl, 0, none⟩ = some u) (k : w.cell? ⟨gl, 1, none⟩ = some v) : w.drew.cell? ⟨gl, 0, none⟩ = some u ∧ w.drew.cell? ⟨gl, 1, none⟩ = some v := ⟨h, k⟩
theorem lineS_put {w : World} {gl g a : Nat} {u v x : Value} (hg : g ≠ gl) (h : w.cell? ⟨gl, 0, none⟩ = some u ∧ w.cell? ⟨gl, 1, none⟩ = some v) : (w.setCell ⟨g, a, none⟩ x).cell? ⟨gl, 0, none⟩ = some u ∧ (w.setCell ⟨g, a, none⟩ x).cell? ⟨gl, 1, none⟩ = some v := by
  have e := fun i => World.cell?_of_block (w := w) (a := ⟨gl, i, none⟩) (Below.heap_setCell w ⟨g, a, none⟩ x gl (fun e => hg e.symm))
  rw [e, e]; exact h
theorem islJ_mu {es : List E2} {nb n m c d s g : Nat} {A B : Option Addr} {w wx : World} {a : Act} {zs : List Nat} (hf : IslFrame nb n m c d w.heap.size g A B a) (hs : IslSt es nb n c A w wx g zs) (h : zs.sum < s) : IslJ es nb n m c d A B w a wx ∧ islMu a wx < s :=
  ⟨⟨g, zs, hf, hs⟩, by rw [islMu_eq hf hs]; exact h⟩
theorem IslSt.lower {es : List E2} {nb n c : Nat} {A : Option Addr} {w wx : World} {g : Nat} {zs : List Nat} {a b x y M : Nat} (h : IslSt es nb n c A w wx g zs) (he : (a, b) ∈ es) (hx : zs[a]? = some x) (hy : zs[b]? = some y) (hM : M = min x y) :
    IslSt es nb n c A w ((wx.setCell ⟨g, a, none⟩ (.int .i64 (M : Int))).setCell ⟨g, b, none⟩ (.int .i64 (M : Int))) g ((zs.set a M).set b M) := by
  subst hM
  have hl := h.lt
  refine ⟨h.lt, (h.bel.setCell (Nat.le_of_lt h.lt) _).setCell (Nat.le_of_lt h.lt) _, (h.box.far (by simp; omega) _).far (by simp; omega) _, ?_, numInv_step h.inv he hx hy⟩
  rw [← intsB_set, ← intsB_set]
  exact (h.blk.put a _).put b _

set_option maxRecDepth 100000 in
set_option maxHeartbeats 400000 in
theorem isl_any (bs : Int) (A : Option Addr) (n c : Nat) (ls : List L3) (B : Option Addr) (m d : Nat) (ts : List Bool) (w : World) (hn : n ≤ 1048576) (hr : RowL w A n ls) (hm : m ≤ 1048576) (hrt : RowT w B m ts) :
    Calls Tryd.prog 77 #[.agg #[.int .i64 bs, .slice A n c], .slice B m d] w fun e w' => ∃ v, e = .returned v ∧ OwnI 3 w' w.heap.size v (islF bs ls ts) ∧ Below w.heap.size w w' := by
  have HR := Lib.hid hr
  have HT := Lib.hid hrt
  have HLR := Lib.hid hr.1
  have HL := Lib.hid hrt.len
  clear hr hrt
  by_cases hs : stOk bs ls m = true
  · have HS := Lib.hid hs
    have hbs := stOk_bs hs
    have HN := Lib.hid (stOk_net hs)
    obtain rfl : m = n := by have := (stOk_len hs).1; have := HLR.out; omega
    obtain ⟨nb, rfl⟩ := Int.eq_ofNat_of_zero_le (show 0 ≤ bs by omega)
    have hnb : nb ≤ 8 := by omega
    have HF := Lib.hid (show islF nb ls ts = ofN (islL (edgesOn ls ts) nb) by rw [islF, HL.out, if_pos hs]; rfl)
    clear hs
    go_enter Tryd.func77, Tryd.ntmps77
    go_wp2
    refine wp_scope_again 0 (IslJ (edgesOn ls ts) nb m m c d A B w) islMu rfl ?pass ?first
    case first =>
      intro again
      have AG := Lib.hid again
      clear again
      go_wp2_with fail
      refine (stateValid_any nb _ m c ls _ m d _ hn (HR.out.below (below_bx w _)) (by omega)).mono ?_
      rintro e w1 ⟨rfl, hb1⟩
      rw [HS.out]
      have BX := Lib.hid ((IsBlk.new w 25 #[.int .i64 (nb : Int), .slice A m c]).keep hb1)
      obtain ⟨p0, p1, _, _⟩ := BX.out.two
      have a1 : Below w.heap.size w w1 := (below_bx w _).trans (hb1.mono (by simp))
      have hz1 : w.heap.size < w1.heap.size := by have := hb1.size; simp at this; omega
      go_wp2_with (first | (refine (apart_any nb (by omega) _).mono ?_; rintro e w2 ⟨rfl, hbk, hb2⟩) | go_in)
      have ST := Lib.hid (show IslSt (edgesOn ls ts) nb m c A w w2 w1.heap.size (List.range nb) from ⟨hz1, a1.trans (hb2.mono a1.size), BX.out.keep hb2, hbk, numInv_start _ _⟩)
      clear hbk hb2
      go_step3
      rename_i hK
      exact hK _ _ (AG.out _ _ ⟨_, _, ⟨_, _, _, _, _, _, _, _, _, _, _, _, _, _, _, _, _, _, _, _, _, _, _, _, _, _, _, _, _, _, _, _, _, _, _, _, _, _, _, _, _, _, _, _, _, _, _, _, _, _, _, _, _, _, _, _, _, _, _, rfl⟩, ST.out⟩)
    case pass =>
      intro a wx hJ
      obtain ⟨g, zs, hfr, hst⟩ := hJ
      rw [islMu_eq hfr hst]
      obtain ⟨u3, u6, u7, u8, u9, u10, u11, u12, u13, u14, u15, u16, u17, u18, u19, u20, u21, u22, u23, u24, u25, u26, u27, u28, u29, u30, u31, u32, u33, u34, u35, u36, u37, u38, u39, u40, u41, u42, u43, u44, u45, u46, u47, u48, u49, u50, u51, u52, u53, u54, u55, u56, u57, u58, u59, u60, u61, u62, u63, rfl⟩ := hfr
      obtain ⟨p0, p1, _, _⟩ := hst.box.two
      have ST := Lib.hid hst
      clear hst
      go_wp2
      go_loopw [19] (fun i wr => ∃ k : Nat, k ≤ m ∧ i = .int .i64 k ∧ IslSt (edgesOn ls ts) nb m c A w wr g zs ∧ (∀ j l, j < k → ls[j]? = some l → ts[j]? = some true → zs[l.1.toNat]? = zs[l.2.1.toNat]?)) (fun i _ => m - (intOf i).toNat)
      case atStart => exact ⟨0, by omega, rfl, ST.out, fun j l h => absurd h (by omega)⟩
      case round =>
        obtain ⟨k, hk, rfl, hst, hall⟩ := hrel
        have SR := Lib.hid hst
        have HA := Lib.hid hall
        clear hst hall ST
        by_cases hlt : k < m
        · obtain ⟨b, off, rfl, hb, HC⟩ := HR.out.2 (by omega)
          have hkl : ls[k]? = some (ls[k]'(by have := HLR.out; omega)) := List.getElem?_eq_getElem _
          generalize (ls[k]'(by have := HLR.out; omega)) = l at hkl
          obtain ⟨g0, g1, g2⟩ := HC k l hkl
          rw [← SR.out.bel.cell (p := ⟨b, off + k * 3, none⟩) hb] at g0
          rw [← SR.out.bel.cell (p := ⟨b, off + k * 3 + 1, none⟩) hb] at g1
          rw [← SR.out.bel.cell (p := ⟨b, off + k * 3 + 2, none⟩) hb] at g2
          obtain ⟨b', off', t, rfl, hb', hkt, e0⟩ := HT.out.at_ hlt
          rw [← SR.out.bel.cell (p := ⟨b', off' + k, none⟩) hb'] at e0
          have HK := Lib.hid hkl
          have HKT := Lib.hid hkt
          have hlo := netOk_line HN.out hkl
          clear hkl HC hkt
          obtain ⟨x, y, z⟩ := l
          have hne := lineOk_ne hlo
          simp [lineOk, inB] at hlo
          simp only at g0 g1 g2 hne
          obtain ⟨xa, rfl⟩ := Int.eq_ofNat_of_zero_le hlo.1.1.1.1
          obtain ⟨ya, rfl⟩ := Int.eq_ofNat_of_zero_le hlo.1.1.2.1
          have hxa : xa < nb := by omega
          have hya : ya < nb := by omega
          have hxy : xa ≠ ya := by omega
          have q0 : (0 : Int) ≤ (xa : Int) := by omega
          have q1 : (xa : Int) < (nb : Int) := by omega
          have q2 : (0 : Int) ≤ (ya : Int) := by omega
          have q3 : (ya : Int) < (nb : Int) := by omega
          have q4 : (0 : Int) ≤ (k : Int) := by omega
          have q5 : (k : Int) < (m : Int) := by omega
          clear hlo hne
          obtain ⟨px, HX⟩ : ∃ px, Hid (zs[xa]? = some px) := ⟨_, Lib.hid (List.getElem?_eq_getElem (by have := SR.out.inv.1; omega))⟩
          obtain ⟨py, HY⟩ : ∃ py, Hid (zs[ya]? = some py) := ⟨_, Lib.hid (List.getElem?_eq_getElem (by have := SR.out.inv.1; omega))⟩
          have c0 : wr.cell? ⟨g, xa, none⟩ = some (.int .i64 (px : Int)) := SR.out.cell HX.out
          have c1 : wr.cell? ⟨g, ya, none⟩ = some (.int .i64 (py : Int)) := SR.out.cell HY.out
          have hgz := SR.out.blk.lt
          have hbo := below_bx wr (.cells #[.int .i64 (xa : Int), .int .i64 (ya : Int), .int .i64 z] 58)
          have HBO := Lib.hid hbo
          have LN := Lib.hid (IsBlk.new wr 58 #[.int .i64 (xa : Int), .int .i64 (ya : Int), .int .i64 z])
          clear hbo
          go_wp2
          have E1 := (HBO.out.cell (p := ⟨b', off' + k, none⟩) (Nat.lt_of_lt_of_le hb' SR.out.bel.size)).trans e0
          have C0 := (HBO.out.cell (p := ⟨g, xa, none⟩) hgz).trans c0
          have C1 := (HBO.out.cell (p := ⟨g, ya, none⟩) hgz).trans c1
          obtain ⟨L0, L1, _, _⟩ := LN.out.three
          have S1 := Lib.hid (SR.out.next HBO.out)
          have hgl : g ≠ wr.heap.size := by omega
          clear c0 c1 e0 g0 g1 g2 SR HBO
          generalize wr.alloc (.cells #[.int .i64 (xa : Int), .int .i64 (ya : Int), .int .i64 z] 58) = W0 at *
          generalize wr.heap.size = gl at *
          cases t
          · have HA2 := Lib.hid (show ∀ j l, j < k + 1 → ls[j]? = some l → ts[j]? = some true → zs[l.1.toNat]? = zs[l.2.1.toNat]? from by
              intro j l hj hl htj
              rcases Nat.lt_or_ge j k with h | h
              · exact HA.out j l h hl htj
              · obtain rfl : j = k := by omega
                rw [HKT.out] at htj; cases htj)
            clear HA
            go_quiet (fail)
            rename_i nq
            go_wp2
            go_roundw
            case rel => exact ⟨k + 1, by omega, by go_num, S1.out.next (below_drewN (Below.refl _ _) nq), HA2.out⟩
            case measure => simp [intOf]; omega
          · by_cases hpq : px = py
            · have HA2 := Lib.hid (show ∀ j l, j < k + 1 → ls[j]? = some l → ts[j]? = some true → zs[l.1.toNat]? = zs[l.2.1.toNat]? from by
                intro j l hj hl htj
                rcases Nat.lt_or_ge j k with h | h
                · exact HA.out j l h hl htj
                · obtain rfl : j = k := by omega
                  rw [HK.out] at hl; injection hl with hl; subst hl
                  show zs[xa]? = zs[ya]?
                  rw [HX.out, HY.out, hpq])
              subst hpq
              clear HA
              go_quiet (fail)
              rename_i nq
              go_wp2
              go_roundw
              case rel => exact ⟨k + 1, by omega, by go_num, S1.out.next (below_drewN (Below.refl _ _) nq), HA2.out⟩
              case measure => simp [intOf]; omega
            · have hpq1 : ((px : Int) == (py : Int)) = false := by simp; omega
              have hpq2 : ((px : Int) != (py : Int)) = true := by simp; omega
              have HPQ := Lib.hid hpq
              clear hpq HA
              go_quiet (fail)
              rename_i nq
              have S2 := Lib.hid (S1.out.next (below_drewN (Below.refl _ _) nq))
              have c0 : (W0.drewN nq).cell? ⟨g, xa, none⟩ = some (.int .i64 (px : Int)) := C0
              have c1 : (W0.drewN nq).cell? ⟨g, ya, none⟩ = some (.int .i64 (py : Int)) := C1
              have l0 : (W0.drewN nq).cell? ⟨gl, 0, none⟩ = some (.int .i64 (xa : Int)) := L0
              have l1 : (W0.drewN nq).cell? ⟨gl, 1, none⟩ = some (.int .i64 (ya : Int)) := L1
              clear C0 C1 L0 L1 LN E1 S1 HR HT
              generalize W0.drewN nq = W1 at *
              go_upto_region 8 with fail
              go_still_tail 10, (by kernel_rfl)
              change wpList _ _ _ _ _ W1.drew
              go_wp2
              all_goals
                have c2 : W1.drew.cell? ⟨g, xa, none⟩ = some (.int .i64 (px : Int)) := c0
                have c3 : W1.drew.cell? ⟨g, ya, none⟩ = some (.int .i64 (py : Int)) := c1
                have l2 : W1.drew.cell? ⟨gl, 0, none⟩ = some (.int .i64 (xa : Int)) := l0
                have l3 : W1.drew.cell? ⟨gl, 1, none⟩ = some (.int .i64 (ya : Int)) := l1
                have S3 := Lib.hid (S2.out.next (Below.refl _ W1).drew)
                clear c0 c1 l0 l1 S2
                generalize W1.drew = W2 at *
                have f2 : W2.frozen? ⟨g, xa, none⟩ = false := S3.out.blk.thaw xa
                have f3 : W2.frozen? ⟨g, ya, none⟩ = false := S3.out.blk.thaw ya
                go_region_held3 (fun w' => w'.cell? ⟨gl, 0, none⟩ = some (.int .i64 (xa : Int)) ∧ w'.cell? ⟨gl, 1, none⟩ = some (.int .i64 (ya : Int)))
                  (first | exact lineS_start l2 l3 | exact lineS_put hgl (by assumption))
                  (fail)
                go_wp2
                go_step3
                refine ⟨rfl, islJ_mu ⟨_, _, _, _, _, _, _, _, _, _, _, _, _, _, _, _, _, _, _, _, _, _, _, _, _, _, _, _, _, _, _, _, _, _, _, _, _, _, _, _, _, _, _, _, _, _, _, _, _, _, _, _, _, _, _, _, _, _, _, rfl⟩ ((S3.out.lower (a := xa) (b := ya) (x := px) (y := py) (mem_edgesOn.2 ⟨k, _, HK.out, HKT.out, rfl⟩) HX.out HY.out (by omega)).next (Below.refl _ _).drew) ?_⟩
                have := sum_step hxy HX.out HY.out HPQ.out
                first
                  | (rw [show min px py = py by omega] at this; exact this)
                  | (rw [show min px py = px by omega] at this; exact this)
        · obtain rfl : k = m := by omega
          have HE := Lib.hid (numInv_end SR.out.inv (by have := edgesOn_lt HN.out ts; simpa using this) (fun e he => by
            obtain ⟨j, l, h1, h2, rfl⟩ := mem_edgesOn.1 he
            exact HA.out j l (by have := (List.getElem?_eq_some_iff.1 h1).1; have := HLR.out; omega) h1 h2))
          go_wp2
          simp only [Exit.jump]
          go_ret
          refine ⟨_, rfl, OwnI.mk_ (cur := intsB zs) ?_ (by have := SR.out.lt; omega) SR.out.blk (Nat.le_refl _) (by simp only [maxLen]; omega) ?_ ?_, SR.out.bel⟩
          · rw [HF.out, ofN_len, islL_len]
          · simp [intsB, ofN, SR.out.inv.1]
          · rw [HF.out, islL, ← HE.out, List.take_of_length_le (by simp [intsB, ofN, SR.out.inv.1])]; simp [intsB]
  · have hs' : stOk bs ls m = false := by rwa [Bool.not_eq_true] at hs
    have HS := Lib.hid hs'
    have HF := Lib.hid (show islF bs ls ts = [] by rw [islF, HL.out, if_neg (by rw [hs']; decide)])
    clear hs hs'
    go_enter Tryd.func77, Tryd.ntmps77
    go_wp2
    go_step3
    go_wp2_with fail
    refine (stateValid_any bs _ n c ls _ m d _ hn (HR.out.below (below_bx w _)) (by omega)).mono ?_
    rintro e w1 ⟨rfl, hb1⟩
    rw [HS.out]
    go_wp2
    rw [Exit.noGoto_ret]
    go_ret
    exact ⟨_, rfl, by rw [HF.out]; exact OwnI.nil, (below_bx w _).trans (hb1.mono (by simp))⟩
end Go.Proofs.YtpmkeagdoehbhaaDoor

/- Reached and SameIsland, of the program. -/
namespace Go.Proofs.YtpmkeagdoehbhaaDoor
open Go.ChangeShapes Go.WideShapes Go.ChangeAt Go.RowKit

theorem OwnI.sl {e : TypeId} {w : World} {base : Nat} {v : Value} {zs : List Int} (h : OwnI e w base v zs) : ∃ A c, v = .slice A zs.length c ∧ RowZ w A zs.length zs := by
  rcases h.2 with ⟨rfl, h0⟩ | ⟨g, cap, cur, rfl, hb, hg, hn, hc, hsz, ht⟩
  · exact ⟨none, 0, by rw [h0], by
      have hz : zs = [] := List.eq_nil_of_length_eq_zero h0
      subst hz; exact RowZ.none_⟩
  · exact ⟨_, cap, rfl, OwnI.rowZ h⟩
theorem OwnI.more {e : TypeId} {w : World} {base base' : Nat} {v : Value} {zs : List Int} (h : OwnI e w base v zs) (hb : base' ≤ base) : OwnI e w base' v zs := by
  refine ⟨h.1, ?_⟩
  rcases h.2 with h2 | ⟨g, cap, cur, h1, h2, h3⟩
  · exact .inl h2
  · exact .inr ⟨g, cap, cur, h1, Nat.le_trans hb h2, h3⟩
theorem RowZ.keepB {w w' : World} {A : Option Addr} {n : Nat} {zs : List Int} (h : RowZ w A n zs) (hb : Below w.heap.size w w') : RowZ w' A n zs := h.below hb
theorem least_beq (es : List E2) (a b : Nat) : (((leastF es a : Nat) : Int) == ((leastF es b : Nat) : Int)) = connB es a b := by
  rw [Bool.eq_iff_iff, beq_iff_eq, connB_iff, ← leastF_eq]; omega
theorem rchTo_next (es : List E2) (bus k : Nat) : ofN (rchTo es bus (k + 1)) = ofN (rchTo es bus k) ++ (if connB es bus k = true then [(k : Int)] else []) := by
  cases h : connB es bus k
  · rw [rchTo_no h]; simp
  · rw [rchTo_yes h]; simp [ofN]

end Go.Proofs.YtpmkeagdoehbhaaDoor

/- SameIsland, of the program. -/
namespace Go.Proofs.YtpmkeagdoehbhaaDoor
open Go.ChangeShapes Go.WideShapes Go.ChangeAt Go.RowKit

theorem within_q (x a b : Int) {t : Bool} (ht : inB x a b = t) (w : World) :
    Calls Tryd.prog 29 #[.int .i64 x, .int .i64 a, .int .i64 b] w fun e w' => e = .returned (.bool t) ∧ w' = w := by
  subst ht
  refine (within_any x a b w).mono ?_
  rintro e w' ⟨rfl, rfl⟩
  exact ⟨rfl, rfl⟩

end Go.Proofs.YtpmkeagdoehbhaaDoor
