/- The search for bridges, of the program. -/
import Derived.Test.YtbhlkcnkijihcaaDoorP1
import Derived.Test.YtbhlkcnkijihcaaDoorBCB
import Derived.Test.YtbhlkcnkijihcaaDoorBCD
import Derived.OneCell
namespace Go.Proofs.YtbhlkcnkijihcaaDoor
open Go.ChangeShapes Go.WideShapes Go.ChangeAt Go.RowKit

def boolsB (bb : List Bool) : Array Value := (bb.map Value.bool).toArray
theorem boolsB_set (bb : List Bool) (k : Nat) (t : Bool) : (boolsB bb).setIfInBounds k (.bool t) = boolsB (bb.set k t) := by
  apply Array.ext'
  simp [boolsB, List.map_set]
def tF (zs : List Nat) (b : Nat) : Nat := zs.getD b 0
def brF (bb : List Bool) (j : Nat) : Bool := bb.getD j false
theorem tF_set {zs : List Nat} {x v : Nat} (hx : x < zs.length) : tF (zs.set x v) = fun b => if b = x then v else tF zs b := by
  funext b
  unfold tF
  rw [List.getD_eq_getElem?_getD, List.getD_eq_getElem?_getD]
  by_cases e : b = x
  · subst e; rw [if_pos rfl, List.getElem?_set_self hx]; rfl
  · rw [if_neg e, List.getElem?_set_ne (fun e2 => e e2.symm)]
theorem brF_set {bb : List Bool} {k : Nat} {t : Bool} (hk : k < bb.length) : brF (bb.set k t) = fun j => if j = k then t else brF bb j := by
  funext b
  unfold brF
  rw [List.getD_eq_getElem?_getD, List.getD_eq_getElem?_getD]
  by_cases e : b = k
  · subst e; rw [if_pos rfl, List.getElem?_set_self hk]; rfl
  · rw [if_neg e, List.getElem?_set_ne (fun e2 => e e2.symm)]
theorem tF_get {zs : List Nat} {b : Nat} (hb : b < zs.length) : zs[b]? = some (tF zs b) := by
  rw [tF, List.getD_eq_getElem?_getD, List.getElem?_eq_getElem hb]; rfl
/-- The search as a value: it writes the counter, the times and the bridges. -/
def srchV (g : Nat) : Value := .func (.func 102) #[] #[.pointer (some ⟨g + 5, 0, none⟩), .pointer (some ⟨g + 4, 0, none⟩), .pointer (some ⟨g + 1, 0, none⟩), .pointer (some ⟨g, 0, none⟩), .pointer (some ⟨g + 6, 0, none⟩), .pointer (some ⟨g + 3, 0, none⟩)]
/-- The memory of the search. -/
structure DSt (w wr : World) (g : Nat) (bs : Int) (n c m d : Nat) (A B : Option Addr) (zs : List Nat) (now : Nat) (bb : List Bool) : Prop where
  bel : Below w.heap.size w wr
  le : w.heap.size ≤ g
  net : IsBlk wr g 25 #[.int .i64 bs, .slice A n c]
  onb : IsBlk wr (g + 1) 26 #[.slice B m d]
  res : IsBlk wr (g + 2) 92 (boolsB (List.replicate 10 false))
  brb : IsBlk wr (g + 3) 92 (boolsB bb)
  tmb : IsBlk wr (g + 4) 101 (intsB zs)
  nwb : IsBlk wr (g + 5) 3 #[.int .i64 (now : Int)]
  srb : IsBlk wr (g + 6) 102 #[srchV g]
  zl : zs.length = 8
  bl : bb.length = 10
section
variable {w wr w' : World} {g : Nat} {bs : Int} {n c m d : Nat} {A B : Option Addr} {zs : List Nat} {now : Nat} {bb : List Bool}
theorem DSt.keep (h : DSt w wr g bs n c m d A B zs now bb) (hb : Below wr.heap.size wr w') : DSt w w' g bs n c m d A B zs now bb :=
  ⟨h.bel.trans (hb.mono h.bel.size), h.le, h.net.keep hb, h.onb.keep hb, h.res.keep hb, h.brb.keep hb, h.tmb.keep hb, h.nwb.keep hb, h.srb.keep hb, h.zl, h.bl⟩
theorem DSt.putN (h : DSt w wr g bs n c m d A B zs now bb) {z : Int} {v : Nat} (hv : z = (v : Int)) : DSt w (wr.setCell ⟨g + 5, 0, none⟩ (.int .i64 z)) g bs n c m d A B zs v bb := by
  subst hv
  have := h.le
  refine ⟨h.bel.setCell (by simp; omega) _, h.le, h.net.far (by simp) _, h.onb.far (by simp) _, h.res.far (by simp) _, h.brb.far (by simp) _, h.tmb.far (by simp) _, ?_, h.srb.far (by simp) _, h.zl, h.bl⟩
  exact h.nwb.put 0 _
theorem DSt.putT (h : DSt w wr g bs n c m d A B zs now bb) (x : Nat) {z : Int} {v : Nat} (hv : z = (v : Int)) : DSt w (wr.setCell ⟨g + 4, x, none⟩ (.int .i64 z)) g bs n c m d A B (zs.set x v) now bb := by
  subst hv
  have := h.le
  refine ⟨h.bel.setCell (by simp; omega) _, h.le, h.net.far (by simp) _, h.onb.far (by simp) _, h.res.far (by simp) _, h.brb.far (by simp) _, ?_, h.nwb.far (by simp) _, h.srb.far (by simp) _, by simpa using h.zl, h.bl⟩
  rw [← intsB_set]
  exact h.tmb.put x _
theorem DSt.putB (h : DSt w wr g bs n c m d A B zs now bb) (k : Nat) (t : Bool) : DSt w (wr.setCell ⟨g + 3, k, none⟩ (.bool t)) g bs n c m d A B zs now (bb.set k t) := by
  have := h.le
  refine ⟨h.bel.setCell (by simp; omega) _, h.le, h.net.far (by simp) _, h.onb.far (by simp) _, h.res.far (by simp) _, ?_, h.tmb.far (by simp) _, h.nwb.far (by simp) _, h.srb.far (by simp) _, h.zl, by simpa using h.bl⟩
  rw [← boolsB_set]
  exact h.brb.put k _
theorem DSt.time (h : DSt w wr g bs n c m d A B zs now bb) {b : Nat} (hb : b < 8) : wr.cell? ⟨g + 4, b, none⟩ = some (.int .i64 (tF zs b : Int)) := by
  rw [h.tmb.cell]; simp [intsB, ofN, tF_get (show b < zs.length by rw [h.zl]; exact hb)]
theorem DSt.bridge (h : DSt w wr g bs n c m d A B zs now bb) {k : Nat} (hk : k < 10) : wr.cell? ⟨g + 3, k, none⟩ = some (.bool (brF bb k)) := by
  rw [h.brb.cell]
  have : bb[k]? = some (brF bb k) := getD_get (by rw [h.bl]; exact hk)
  simp [boolsB, this]
theorem DSt.count (h : DSt w wr g bs n c m d A B zs now bb) : wr.cell? ⟨g + 5, 0, none⟩ = some (.int .i64 (now : Int)) := by rw [h.nwb.cell]; rfl
theorem DSt.srch (h : DSt w wr g bs n c m d A B zs now bb) : wr.cell? ⟨g + 6, 0, none⟩ = some (srchV g) := by rw [h.srb.cell]; rfl
theorem DSt.onc (h : DSt w wr g bs n c m d A B zs now bb) : wr.cell? ⟨g + 1, 0, none⟩ = some (.slice B m d) := by rw [h.onb.cell]; rfl
end
theorem min_if (a b : Nat) : Value.int .i64 (if b < a then (b : Int) else (a : Int)) = .int .i64 ((min a b : Nat) : Int) := by
  congr 1; split <;> omega
/-- The other end of a line that is on. -/
theorem otherF_on {nb : Nat} {ls : List L3} {ts : List Bool} {k x : Nat} {l : L3} (hv : netOk nb ls = true) (hl : ls[k]? = some l) (ht : ts[k]? = some true) :
    (∃ o : Nat, otherF nb ls k x = (o : Int) ∧ Ln ls ts k x o ∧ o < nb) ∨ (otherF nb ls k x = -1 ∧ ∀ u, ¬ Ln ls ts k x u) := by
  have h2 := netOk_line hv hl
  simp [lineOk, inB] at h2
  have hlen : k < ls.length := (List.getElem?_eq_some_iff.1 hl).1
  have hgd : ls.getD k (0, 0, 0) = l := by rw [List.getD_eq_getElem?_getD, hl]; rfl
  have e : otherF nb ls k x = if l.1 = (x : Int) then l.2.1 else if l.2.1 = (x : Int) then l.1 else -1 := by
    simp only [otherF, Int.toNat_natCast, hgd]
    rw [if_pos ⟨hv, by omega, by omega⟩]
  rw [e]
  by_cases h1 : l.1 = (x : Int)
  · rw [if_pos h1]
    exact .inl ⟨l.2.1.toNat, by omega, ⟨l, hl, ht, .inl ⟨by omega, rfl⟩⟩, by omega⟩
  · rw [if_neg h1]
    by_cases h3 : l.2.1 = (x : Int)
    · rw [if_pos h3]
      exact .inl ⟨l.1.toNat, by omega, ⟨l, hl, ht, .inr ⟨by omega, rfl⟩⟩, by omega⟩
    · rw [if_neg h3]
      refine .inr ⟨rfl, ?_⟩
      rintro u ⟨l', hl', _, h4⟩
      rw [hl] at hl'; injection hl' with hl'; subst hl'
      omega

set_option maxRecDepth 100000 in
set_option maxHeartbeats 800000 in
theorem search_any (w : World) (g nb n c m d : Nat) (A B : Option Addr) (ls : List L3) (ts : List Bool) (hr : RowL w A n ls) (hrt : RowT w B m ts) (hs : stOk nb ls ts.length = true) (f : Nat) :
    ∀ (x : Nat) (by' : Int) (Act : List Nat) (zs : List Nat) (now : Nat) (bb : List Bool) (wr : World), leftN (tF zs) nb ≤ f → x < nb → tF zs x = 0 → DSt w wr g nb n c m d A B zs now bb → DInv ls ts (tF zs) now (brF bb) Act → DTop ls ts Act x by' → now + leftN (tF zs) nb ≤ 8 →
    Calls Tryd.prog 102 #[.int .i64 (x : Int), .int .i64 by', .pointer (some ⟨g + 5, 0, none⟩), .pointer (some ⟨g + 4, 0, none⟩), .pointer (some ⟨g + 1, 0, none⟩), .pointer (some ⟨g, 0, none⟩), .pointer (some ⟨g + 6, 0, none⟩), .pointer (some ⟨g + 3, 0, none⟩)] wr fun e w' =>
      ∃ (zs' : List Nat) (now' : Nat) (bb' : List Bool) (least : Nat), e = .returned (.int .i64 (least : Int)) ∧ DSt w w' g nb n c m d A B zs' now' bb' ∧ DPost ls ts (tF zs) now (brF bb) x by' Act (tF zs') now' (brF bb') least ∧ now' + leftN (tF zs') nb ≤ 8 := by
  have HR := Lib.hid hr
  have HT := Lib.hid hrt
  have HV := Lib.hid (stOk_net hs)
  have hbs := stOk_bs hs
  have hml := hrt.len
  have hnl := hr.1
  have hm10 := stOk_len hs
  have hnb : nb ≤ 8 := by omega
  have hn10 : n ≤ 10 := by omega
  obtain rfl : m = n := by omega
  have HML := Lib.hid hml
  have HNL := Lib.hid hnl
  clear hr hrt hs hbs hml hnl hm10
  induction f with
  | zero =>
    intro x by' Act zs now bb wr h1 h2 h3
    exfalso
    have := leftN_lt (t := tF zs) (t' := fun b => if b = x then 1 else tF zs b) (x := x) (nb := nb) (fun b hb => by split <;> omega) h3 (by simp) h2
    omega
  | succ f ih =>
    intro x by' Act zs now bb wr hf hx hx0 hst hin htop hnow
    have IH := Lib.hid ih
    have HIN := Lib.hid hin
    have HTOP := Lib.hid htop
    have h0 := dfs_start hin hx0 htop
    have hlt := leftN_lt (t := tF zs) (t' := fun b => if b = x then now + 1 else tF zs b) (x := x) (nb := nb) (fun b hb => by split <;> omega) hx0 (by simp) hx
    rw [← tF_set (by rw [hst.zl]; omega)] at h0 hlt
    have HX := Lib.hid hx
    have c0 := hst.count
    have f0 := hst.nwb.thaw 0
    have c1 := hst.time (b := x) (by omega)
    have f1 := hst.tmb.thaw x
    have c2 := hst.onc
    have S1 := Lib.hid ((hst.putN (z := (now : Int) + 1) (v := now + 1) (by omega)).putT x (z := (now : Int) + 1) (v := now + 1) (by omega))
    have H0 := Lib.hid h0
    have HLT := Lib.hid hlt
    have hnow9 : (now : Int) ≤ 8 := by omega
    have hnow0 : (0 : Int) ≤ (now : Int) := by omega
    have q0 : (0 : Int) ≤ (x : Int) := by omega
    have q1 : (x : Int) < 8 := by omega
    have HF := Lib.hid hf
    have HNOW := Lib.hid hnow
    have hnow8 : now < 8 := by omega
    clear ih hin htop h0 hlt hst hf hnow
    go_enter Tryd.func102, Tryd.ntmps102
    go_wp2
    go_loopw [11, 24] (fun v i wk => ∃ (k : Nat) (zs' : List Nat) (now' : Nat) (bb' : List Bool) (least : Nat), k ≤ m ∧ i = .int .i64 k ∧ v = .int .i64 (least : Int) ∧ DSt w wk g nb m c m d A B zs' now' bb' ∧ DLoop ls ts (tF zs) now (brF bb) x by' Act (tF zs') now' (brF bb') least k ∧ now' + leftN (tF zs') nb ≤ 8 ∧ leftN (tF zs') nb ≤ f) (fun _ i _ => m - (intOf i).toNat)
    case atStart => exact ⟨0, _, _, _, _, by omega, rfl, by go_num, S1.out, H0.out, by have := HLT.out; have := HNOW.out; omega, by have := HLT.out; have := HF.out; omega⟩
    case round =>
      obtain ⟨k, zs', now', bb', least, hk, rfl, rfl, hst, hloop, hnow', hleft⟩ := hrel
      clear c0 f0 c1 f1 c2 S1 H0 HLT
      have ST := Lib.hid hst
      have LP := Lib.hid hloop
      have HN2 := Lib.hid hnow'
      have HL2 := Lib.hid hleft
      clear hst hloop hnow' hleft
      by_cases hkm : k < m
      · obtain ⟨b', off', t, rfl, hb', hkt, e0⟩ := HT.out.at_ hkm
        rw [← ST.out.bel.cell (p := ⟨b', off' + k, none⟩) hb'] at e0
        obtain ⟨p0, p1, _, _⟩ := ST.out.net.two
        have c6 := ST.out.srch
        have KT := Lib.hid hkt
        have i0 : (0 : Int) ≤ (k : Int) := by omega
        have i1 : (k : Int) < (m : Int) := by omega
        have hkl : ls[k]? = some (ls[k]'(by have := HNL.out; omega)) := List.getElem?_eq_getElem _
        generalize (ls[k]'(by have := HNL.out; omega)) = l at hkl
        have KL := Lib.hid hkl
        clear hkt hkl
        cases t
        · have SK := Lib.hid (show ∀ u, Ln ls ts k x u → (k : Int) = by' from by
            rintro u ⟨l', _, h2, _⟩
            rw [KT.out] at h2; cases h2)
          go_wp2_with (first
            | (go_at_call 23; refine (otherEnd_any _ _ _ _ ls _ _ _ (by omega) (HR.out.below ST.out.bel)).mono ?_; rintro e w2 ⟨rfl, hb2⟩)
            | fail)
          go_roundw
          case rel => exact ⟨k + 1, _, _, _, _, by omega, by go_num, rfl, ST.out.keep hb2, dfs_skip HIN.out HTOP.out LP.out SK.out, HN2.out, HL2.out⟩
          case measure => simp [intOf]; omega
        · by_cases hby : (k : Int) = by'
          · subst hby
            have HTOP' := HTOP
            go_wp2_with (first
              | (go_at_call 23; refine (otherEnd_any _ _ _ _ ls _ _ _ (by omega) (HR.out.below ST.out.bel)).mono ?_; rintro e w2 ⟨rfl, hb2⟩)
              | fail)
            go_roundw
            case rel => exact ⟨k + 1, _, _, _, _, by omega, by go_num, rfl, ST.out.keep hb2, dfs_skip HIN.out HTOP.out LP.out (fun _ _ => rfl), HN2.out, HL2.out⟩
            case measure => simp [intOf]; omega
          · have HBY := Lib.hid hby
            have hbf : ((k : Int) == by') = false := by rw [beq_eq_false_iff_ne]; exact hby
            clear hby
            rcases otherF_on (x := x) HV.out KL.out KT.out with ⟨o, ho, hln, hob⟩ | ⟨ho, hno⟩
            · have HO := Lib.hid ho
              have HLN := Lib.hid hln
              clear ho hln
              have j0 : (0 : Int) ≤ (o : Int) := by omega
              have j1 : (o : Int) < 8 := by omega
              by_cases hz : tF zs' o = 0
              · have HZ := Lib.hid hz
                have hz0 : ((tF zs' o : Int) == 0) = true := by rw [hz]; rfl
                clear hz
                have k10 : (k : Int) < 10 := by omega
                go_wp2_with (first
                  | (go_at_call 23; refine (otherEnd_any _ _ _ _ ls _ _ _ (by omega) (HR.out.below ST.out.bel)).mono ?_; rintro e w2 ⟨rfl, hb2⟩; rw [HO.out]; have S2 := Lib.hid (ST.out.keep hb2); have c7 := S2.out.time (b := o) (by omega); rw [HZ.out] at c7; have c8 := S2.out.srch; rw [srchV] at c8)
                  | (go_at_call 102; refine (IH.out o k (x :: Act) zs' now' bb' w2 HL2.out hob HZ.out S2.out LP.out.inv (.inr ⟨x, k, rfl, HLN.out, List.mem_cons_self⟩) HN2.out).mono ?_; rintro e w3 ⟨zs3, now3, bb3, least3, rfl, hst3, hp3, hnow3⟩; have S3 := Lib.hid hst3; have P3 := Lib.hid hp3; have N3 := Lib.hid hnow3; have c9 := hst3.time (b := x) (by omega); have c10 := hst3.bridge (k := k) (by omega); have f10 := hst3.brb.thaw k; clear hst3 hp3 hnow3)
                  | fail)
                go_roundw
                case rel =>
                  have P4 := dfs_down HIN.out HTOP.out LP.out HLN.out HZ.out P3.out
                  rw [← brF_set (by rw [S3.out.bl]; omega)] at P4
                  refine ⟨k + 1, _, _, _, _, by omega, by go_num, by rw [min_if], S3.out.putB k _, P4, N3.out, ?_⟩
                  refine Nat.le_trans (leftN_le fun b hb => ?_) HL2.out
                  rw [P3.out.keep b hb]; exact hb
                case measure => simp [intOf]; omega
              · have HZ := Lib.hid hz
                have hzf : ((tF zs' o : Int) == 0) = false := by rw [beq_eq_false_iff_ne]; omega
                clear hz
                go_wp2_with (first
                  | (go_at_call 23; refine (otherEnd_any _ _ _ _ ls _ _ _ (by omega) (HR.out.below ST.out.bel)).mono ?_; rintro e w2 ⟨rfl, hb2⟩; rw [HO.out]; have S2 := Lib.hid (ST.out.keep hb2); have c7 := S2.out.time (b := o) (by omega))
                  | fail)
                go_roundw
                case rel => exact ⟨k + 1, _, _, _, _, by omega, by go_num, by rw [min_if], S2.out, dfs_back LP.out HLN.out HBY.out HZ.out HIN.out, HN2.out, HL2.out⟩
                case measure => simp [intOf]; omega
            · have HO := Lib.hid ho
              have HNO := Lib.hid hno
              clear ho hno
              go_wp2_with (first
                | (go_at_call 23; refine (otherEnd_any _ _ _ _ ls _ _ _ (by omega) (HR.out.below ST.out.bel)).mono ?_; rintro e w2 ⟨rfl, hb2⟩; rw [HO.out])
                | fail)
              go_roundw
              case rel => exact ⟨k + 1, _, _, _, _, by omega, by go_num, rfl, ST.out.keep hb2, dfs_skip HIN.out HTOP.out LP.out (fun u hu => absurd hu (HNO.out u)), HN2.out, HL2.out⟩
              case measure => simp [intOf]; omega
      · obtain rfl : k = m := by omega
        go_wp2
        go_ret
        have hk : ts.length = k := HML.out
        refine ⟨_, _, _, _, rfl, ST.out, dfs_end HIN.out (by rw [hk]; exact LP.out), HN2.out⟩
end Go.Proofs.YtbhlkcnkijihcaaDoor
