/- Texts joined: The search for bridges, of the program; The bridges, of the program; CycleLines, BridgeLines, HasCycle, of the program. -/
import Derived.Test.YtpmkeagdoehbhaaBFA
import Derived.Test.YtpmkeagdoehbhaaBCB
import Derived.Test.YtpmkeagdoehbhaaBCD
import Derived.OneCell
import Derived.Laws.EntriesVeiled

/- The search for bridges, of the program. -/
namespace Go.Proofs.Ytpmkeagdoehbhaa
open Go.ChangeShapes Go.WideShapes Go.ChangeAt Go.RowKit

def boolsB (bb : List Bool) : Array Value := (bb.map Value.bool).toArray
theorem boolsB_set (bb : List Bool) (k : Nat) (t : Bool) : (boolsB bb).setIfInBounds k (.bool t) = boolsB (bb.set k t) := by
  apply Array.ext'
  simp [boolsB, List.map_set]
def tF (zs : List Nat) (b : Nat) : Nat := zs.getD b 0
def brF (bb : List Bool) (j : Nat) : Bool := bb.getD j false
theorem tF_set {zs : List Nat} {x v : Nat} (hx : x < zs.length) : tF (zs.set x v) = fun b => if b = x then v else tF zs b := by
  funext b
  unfold tF
  rw [List.getD_eq_getElem?_getD, List.getD_eq_getElem?_getD]
  by_cases e : b = x
  · subst e; rw [if_pos rfl, List.getElem?_set_self hx]; rfl
  · rw [if_neg e, List.getElem?_set_ne (fun e2 => e e2.symm)]
theorem brF_set {bb : List Bool} {k : Nat} {t : Bool} (hk : k < bb.length) : brF (bb.set k t) = fun j => if j = k then t else brF bb j := by
  funext b
  unfold brF
  rw [List.getD_eq_getElem?_getD, List.getD_eq_getElem?_getD]
  by_cases e : b = k
  · subst e; rw [if_pos rfl, List.getElem?_set_self hk]; rfl
  · rw [if_neg e, List.getElem?_set_ne (fun e2 => e e2.symm)]
theorem tF_get {zs : List Nat} {b : Nat} (hb : b < zs.length) : zs[b]? = some (tF zs b) := by
  rw [tF, List.getD_eq_getElem?_getD, List.getElem?_eq_getElem hb]; rfl
/-- The search as a value: it writes the counter, the times and the bridges. -/
def srchV (g : Nat) : Value := .func (.func 88) #[] #[.pointer (some ⟨g + 5, 0, none⟩), .pointer (some ⟨g + 4, 0, none⟩), .pointer (some ⟨g + 1, 0, none⟩), .pointer (some ⟨g, 0, none⟩), .pointer (some ⟨g + 6, 0, none⟩), .pointer (some ⟨g + 3, 0, none⟩)]
/-- The memory of the search. -/
structure DSt (w wr : World) (g : Nat) (bs : Int) (n c m d : Nat) (A B : Option Addr) (zs : List Nat) (now : Nat) (bb : List Bool) : Prop where
  bel : Below w.heap.size w wr
  le : w.heap.size ≤ g
  net : IsBlk wr g 33 #[.int .i64 bs, .slice A n c]
  onb : IsBlk wr (g + 1) 25 #[.slice B m d]
  res : IsBlk wr (g + 2) 110 (boolsB (List.replicate 10 false))
  brb : IsBlk wr (g + 3) 110 (boolsB bb)
  tmb : IsBlk wr (g + 4) 112 (intsB zs)
  nwb : IsBlk wr (g + 5) 3 #[.int .i64 (now : Int)]
  srb : IsBlk wr (g + 6) 113 #[srchV g]
  zl : zs.length = 8
  bl : bb.length = 10
section
variable {w wr w' : World} {g : Nat} {bs : Int} {n c m d : Nat} {A B : Option Addr} {zs : List Nat} {now : Nat} {bb : List Bool}
theorem DSt.keep (h : DSt w wr g bs n c m d A B zs now bb) (hb : Below wr.heap.size wr w') : DSt w w' g bs n c m d A B zs now bb :=
  ⟨h.bel.trans (hb.mono h.bel.size), h.le, h.net.keep hb, h.onb.keep hb, h.res.keep hb, h.brb.keep hb, h.tmb.keep hb, h.nwb.keep hb, h.srb.keep hb, h.zl, h.bl⟩
theorem DSt.putN (h : DSt w wr g bs n c m d A B zs now bb) {z : Int} {v : Nat} (hv : z = (v : Int)) : DSt w (wr.setCell ⟨g + 5, 0, none⟩ (.int .i64 z)) g bs n c m d A B zs v bb := by
  subst hv
  have := h.le
  refine ⟨h.bel.setCell (by simp; omega) _, h.le, h.net.far (by simp) _, h.onb.far (by simp) _, h.res.far (by simp) _, h.brb.far (by simp) _, h.tmb.far (by simp) _, ?_, h.srb.far (by simp) _, h.zl, h.bl⟩
  exact h.nwb.put 0 _
theorem DSt.putT (h : DSt w wr g bs n c m d A B zs now bb) (x : Nat) {z : Int} {v : Nat} (hv : z = (v : Int)) : DSt w (wr.setCell ⟨g + 4, x, none⟩ (.int .i64 z)) g bs n c m d A B (zs.set x v) now bb := by
  subst hv
  have := h.le
  refine ⟨h.bel.setCell (by simp; omega) _, h.le, h.net.far (by simp) _, h.onb.far (by simp) _, h.res.far (by simp) _, h.brb.far (by simp) _, ?_, h.nwb.far (by simp) _, h.srb.far (by simp) _, by simpa using h.zl, h.bl⟩
  rw [← intsB_set]
  exact h.tmb.put x _
theorem DSt.putB (h : DSt w wr g bs n c m d A B zs now bb) (k : Nat) (t : Bool) : DSt w (wr.setCell ⟨g + 3, k, none⟩ (.bool t)) g bs n c m d A B zs now (bb.set k t) := by
  have := h.le
  refine ⟨h.bel.setCell (by simp; omega) _, h.le, h.net.far (by simp) _, h.onb.far (by simp) _, h.res.far (by simp) _, ?_, h.tmb.far (by simp) _, h.nwb.far (by simp) _, h.srb.far (by simp) _, h.zl, by simpa using h.bl⟩
  rw [← boolsB_set]
  exact h.brb.put k _
theorem DSt.time (h : DSt w wr g bs n c m d A B zs now bb) {b : Nat} (hb : b < 8) : wr.cell? ⟨g + 4, b, none⟩ = some (.int .i64 (tF zs b : Int)) := by
  rw [h.tmb.cell]; simp [intsB, ofN, tF_get (show b < zs.length by rw [h.zl]; exact hb)]
theorem DSt.bridge (h : DSt w wr g bs n c m d A B zs now bb) {k : Nat} (hk : k < 10) : wr.cell? ⟨g + 3, k, none⟩ = some (.bool (brF bb k)) := by
  rw [h.brb.cell]
  have : bb[k]? = some (brF bb k) := getD_get (by rw [h.bl]; exact hk)
  simp [boolsB, this]
theorem DSt.count (h : DSt w wr g bs n c m d A B zs now bb) : wr.cell? ⟨g + 5, 0, none⟩ = some (.int .i64 (now : Int)) := by rw [h.nwb.cell]; rfl
theorem DSt.srch (h : DSt w wr g bs n c m d A B zs now bb) : wr.cell? ⟨g + 6, 0, none⟩ = some (srchV g) := by rw [h.srb.cell]; rfl
theorem DSt.onc (h : DSt w wr g bs n c m d A B zs now bb) : wr.cell? ⟨g + 1, 0, none⟩ = some (.slice B m d) := by rw [h.onb.cell]; rfl
end
theorem min_if (a b : Nat) : Value.int .i64 (if b < a then (b : Int) else (a : Int)) = .int .i64 ((min a b : Nat) : Int) := by
  congr 1; split <;> omega
/-- The other end of a line that is on. -/
theorem otherF_on {nb : Nat} {ls : List L3} {ts : List Bool} {k x : Nat} {l : L3} (hv : netOk nb ls = true) (hl : ls[k]? = some l) (ht : ts[k]? = some true) :
    (∃ o : Nat, otherF nb ls k x = (o : Int) ∧ Ln ls ts k x o ∧ o < nb) ∨ (otherF nb ls k x = -1 ∧ ∀ u, ¬ Ln ls ts k x u) := by
  have h2 := netOk_line hv hl
  simp [lineOk, inB] at h2
  have hlen : k < ls.length := (List.getElem?_eq_some_iff.1 hl).1
  have hgd : ls.getD k (0, 0, 0) = l := by rw [List.getD_eq_getElem?_getD, hl]; rfl
  have e : otherF nb ls k x = if l.1 = (x : Int) then l.2.1 else if l.2.1 = (x : Int) then l.1 else -1 := by
    simp only [otherF, Int.toNat_natCast, hgd]
    rw [if_pos ⟨hv, by omega, by omega⟩]
  rw [e]
  by_cases h1 : l.1 = (x : Int)
  · rw [if_pos h1]
    exact .inl ⟨l.2.1.toNat, by omega, ⟨l, hl, ht, .inl ⟨by omega, rfl⟩⟩, by omega⟩
  · rw [if_neg h1]
    by_cases h3 : l.2.1 = (x : Int)
    · rw [if_pos h3]
      exact .inl ⟨l.1.toNat, by omega, ⟨l, hl, ht, .inr ⟨by omega, rfl⟩⟩, by omega⟩
    · rw [if_neg h3]
      refine .inr ⟨rfl, ?_⟩
      rintro u ⟨l', hl', _, h4⟩
      rw [hl] at hl'; injection hl' with hl'; subst hl'
      omega

set_option maxRecDepth 100000 in
set_option maxHeartbeats 800000 in
theorem search_any (w : World) (g nb n c m d : Nat) (A B : Option Addr) (ls : List L3) (ts : List Bool) (hr : RowL w A n ls) (hrt : RowT w B m ts) (hs : stOk nb ls ts.length = true) (f : Nat) :
    ∀ (x : Nat) (by' : Int) (Act : List Nat) (zs : List Nat) (now : Nat) (bb : List Bool) (wr : World), leftN (tF zs) nb ≤ f → x < nb → tF zs x = 0 → DSt w wr g nb n c m d A B zs now bb → DInv ls ts (tF zs) now (brF bb) Act → DTop ls ts Act x by' → now + leftN (tF zs) nb ≤ 8 →
    Calls Try.prog 88 #[.int .i64 (x : Int), .int .i64 by', .pointer (some ⟨g + 5, 0, none⟩), .pointer (some ⟨g + 4, 0, none⟩), .pointer (some ⟨g + 1, 0, none⟩), .pointer (some ⟨g, 0, none⟩), .pointer (some ⟨g + 6, 0, none⟩), .pointer (some ⟨g + 3, 0, none⟩)] wr fun e w' =>
      ∃ (zs' : List Nat) (now' : Nat) (bb' : List Bool) (least : Nat), e = .returned (.int .i64 (least : Int)) ∧ DSt w w' g nb n c m d A B zs' now' bb' ∧ DPost ls ts (tF zs) now (brF bb) x by' Act (tF zs') now' (brF bb') least ∧ now' + leftN (tF zs') nb ≤ 8 := by
  have HR := Lib.hid hr
  have HT := Lib.hid hrt
  have HV := Lib.hid (stOk_net hs)
  have hbs := stOk_bs hs
  have hml := hrt.len
  have hnl := hr.1
  have hm10 := stOk_len hs
  have hnb : nb ≤ 8 := by omega
  have hn10 : n ≤ 10 := by omega
  obtain rfl : m = n := by omega
  have HML := Lib.hid hml
  have HNL := Lib.hid hnl
  clear hr hrt hs hbs hml hnl hm10
  induction f with
  | zero =>
    intro x by' Act zs now bb wr h1 h2 h3
    exfalso
    have := leftN_lt (t := tF zs) (t' := fun b => if b = x then 1 else tF zs b) (x := x) (nb := nb) (fun b hb => by split <;> omega) h3 (by simp) h2
    omega
  | succ f ih =>
    intro x by' Act zs now bb wr hf hx hx0 hst hin htop hnow
    have IH := Lib.hid ih
    have HIN := Lib.hid hin
    have HTOP := Lib.hid htop
    have h0 := dfs_start hin hx0 htop
    have hlt := leftN_lt (t := tF zs) (t' := fun b => if b = x then now + 1 else tF zs b) (x := x) (nb := nb) (fun b hb => by split <;> omega) hx0 (by simp) hx
    rw [← tF_set (by rw [hst.zl]; omega)] at h0 hlt
    have HX := Lib.hid hx
    have c0 := hst.count
    have f0 := hst.nwb.thaw 0
    have c1 := hst.time (b := x) (by omega)
    have f1 := hst.tmb.thaw x
    have c2 := hst.onc
    have S1 := Lib.hid ((hst.putN (z := (now : Int) + 1) (v := now + 1) (by omega)).putT x (z := (now : Int) + 1) (v := now + 1) (by omega))
    have H0 := Lib.hid h0
    have HLT := Lib.hid hlt
    have hnow9 : (now : Int) ≤ 8 := by omega
    have hnow0 : (0 : Int) ≤ (now : Int) := by omega
    have q0 : (0 : Int) ≤ (x : Int) := by omega
    have q1 : (x : Int) < 8 := by omega
    have HF := Lib.hid hf
    have HNOW := Lib.hid hnow
    have hnow8 : now < 8 := by omega
    clear ih hin htop h0 hlt hst hf hnow
    go_enter Try.func88, Try.ntmps88
    go_wp2
    go_loopw [11, 24] (fun v i wk => ∃ (k : Nat) (zs' : List Nat) (now' : Nat) (bb' : List Bool) (least : Nat), k ≤ m ∧ i = .int .i64 k ∧ v = .int .i64 (least : Int) ∧ DSt w wk g nb m c m d A B zs' now' bb' ∧ DLoop ls ts (tF zs) now (brF bb) x by' Act (tF zs') now' (brF bb') least k ∧ now' + leftN (tF zs') nb ≤ 8 ∧ leftN (tF zs') nb ≤ f) (fun _ i _ => m - (intOf i).toNat)
    case atStart => exact ⟨0, _, _, _, _, by omega, rfl, by go_num, S1.out, H0.out, by have := HLT.out; have := HNOW.out; omega, by have := HLT.out; have := HF.out; omega⟩
    case round =>
      obtain ⟨k, zs', now', bb', least, hk, rfl, rfl, hst, hloop, hnow', hleft⟩ := hrel
      clear c0 f0 c1 f1 c2 S1 H0 HLT
      have ST := Lib.hid hst
      have LP := Lib.hid hloop
      have HN2 := Lib.hid hnow'
      have HL2 := Lib.hid hleft
      clear hst hloop hnow' hleft
      by_cases hkm : k < m
      · obtain ⟨b', off', t, rfl, hb', hkt, e0⟩ := HT.out.at_ hkm
        rw [← ST.out.bel.cell (p := ⟨b', off' + k, none⟩) hb'] at e0
        obtain ⟨p0, p1, _, _⟩ := ST.out.net.two
        have c6 := ST.out.srch
        have KT := Lib.hid hkt
        have i0 : (0 : Int) ≤ (k : Int) := by omega
        have i1 : (k : Int) < (m : Int) := by omega
        have hkl : ls[k]? = some (ls[k]'(by have := HNL.out; omega)) := List.getElem?_eq_getElem _
        generalize (ls[k]'(by have := HNL.out; omega)) = l at hkl
        have KL := Lib.hid hkl
        clear hkt hkl
        cases t
        · have SK := Lib.hid (show ∀ u, Ln ls ts k x u → (k : Int) = by' from by
            rintro u ⟨l', _, h2, _⟩
            rw [KT.out] at h2; cases h2)
          go_wp2_with (first
            | (go_at_call 61; refine (otherEnd_any _ _ _ _ ls _ _ _ (by omega) (HR.out.below ST.out.bel)).mono ?_; rintro e w2 ⟨rfl, hb2⟩)
            | fail)
          go_roundw
          case rel => exact ⟨k + 1, _, _, _, _, by omega, by go_num, rfl, ST.out.keep hb2, dfs_skip HIN.out HTOP.out LP.out SK.out, HN2.out, HL2.out⟩
          case measure => simp [intOf]; omega
        · by_cases hby : (k : Int) = by'
          · subst hby
            have HTOP' := HTOP
            go_wp2_with (first
              | (go_at_call 61; refine (otherEnd_any _ _ _ _ ls _ _ _ (by omega) (HR.out.below ST.out.bel)).mono ?_; rintro e w2 ⟨rfl, hb2⟩)
              | fail)
            go_roundw
            case rel => exact ⟨k + 1, _, _, _, _, by omega, by go_num, rfl, ST.out.keep hb2, dfs_skip HIN.out HTOP.out LP.out (fun _ _ => rfl), HN2.out, HL2.out⟩
            case measure => simp [intOf]; omega
          · have HBY := Lib.hid hby
            have hbf : ((k : Int) == by') = false := by rw [beq_eq_false_iff_ne]; exact hby
            clear hby
            rcases otherF_on (x := x) HV.out KL.out KT.out with ⟨o, ho, hln, hob⟩ | ⟨ho, hno⟩
            · have HO := Lib.hid ho
              have HLN := Lib.hid hln
              clear ho hln
              have j0 : (0 : Int) ≤ (o : Int) := by omega
              have j1 : (o : Int) < 8 := by omega
              by_cases hz : tF zs' o = 0
              · have HZ := Lib.hid hz
                have hz0 : ((tF zs' o : Int) == 0) = true := by rw [hz]; rfl
                clear hz
                have k10 : (k : Int) < 10 := by omega
                go_wp2_with (first
                  | (go_at_call 61; refine (otherEnd_any _ _ _ _ ls _ _ _ (by omega) (HR.out.below ST.out.bel)).mono ?_; rintro e w2 ⟨rfl, hb2⟩; rw [HO.out]; have S2 := Lib.hid (ST.out.keep hb2); have c7 := S2.out.time (b := o) (by omega); rw [HZ.out] at c7; have c8 := S2.out.srch; rw [srchV] at c8)
                  | (go_at_call 88; refine (IH.out o k (x :: Act) zs' now' bb' w2 HL2.out hob HZ.out S2.out LP.out.inv (.inr ⟨x, k, rfl, HLN.out, List.mem_cons_self⟩) HN2.out).mono ?_; rintro e w3 ⟨zs3, now3, bb3, least3, rfl, hst3, hp3, hnow3⟩; have S3 := Lib.hid hst3; have P3 := Lib.hid hp3; have N3 := Lib.hid hnow3; have c9 := hst3.time (b := x) (by omega); have c10 := hst3.bridge (k := k) (by omega); have f10 := hst3.brb.thaw k; clear hst3 hp3 hnow3)
                  | fail)
                go_roundw
                case rel =>
                  have P4 := dfs_down HIN.out HTOP.out LP.out HLN.out HZ.out P3.out
                  rw [← brF_set (by rw [S3.out.bl]; omega)] at P4
                  refine ⟨k + 1, _, _, _, _, by omega, by go_num, by rw [min_if], S3.out.putB k _, P4, N3.out, ?_⟩
                  refine Nat.le_trans (leftN_le fun b hb => ?_) HL2.out
                  rw [P3.out.keep b hb]; exact hb
                case measure => simp [intOf]; omega
              · have HZ := Lib.hid hz
                have hzf : ((tF zs' o : Int) == 0) = false := by rw [beq_eq_false_iff_ne]; omega
                clear hz
                go_wp2_with (first
                  | (go_at_call 61; refine (otherEnd_any _ _ _ _ ls _ _ _ (by omega) (HR.out.below ST.out.bel)).mono ?_; rintro e w2 ⟨rfl, hb2⟩; rw [HO.out]; have S2 := Lib.hid (ST.out.keep hb2); have c7 := S2.out.time (b := o) (by omega))
                  | fail)
                go_roundw
                case rel => exact ⟨k + 1, _, _, _, _, by omega, by go_num, by rw [min_if], S2.out, dfs_back LP.out HLN.out HBY.out HZ.out HIN.out, HN2.out, HL2.out⟩
                case measure => simp [intOf]; omega
            · have HO := Lib.hid ho
              have HNO := Lib.hid hno
              clear ho hno
              go_wp2_with (first
                | (go_at_call 61; refine (otherEnd_any _ _ _ _ ls _ _ _ (by omega) (HR.out.below ST.out.bel)).mono ?_; rintro e w2 ⟨rfl, hb2⟩; rw [HO.out])
                | fail)
              go_roundw
              case rel => exact ⟨k + 1, _, _, _, _, by omega, by go_num, rfl, ST.out.keep hb2, dfs_skip HIN.out HTOP.out LP.out (fun u hu => absurd hu (HNO.out u)), HN2.out, HL2.out⟩
              case measure => simp [intOf]; omega
      · obtain rfl : k = m := by omega
        go_wp2
        go_ret
        have hk : ts.length = k := HML.out
        refine ⟨_, _, _, _, rfl, ST.out, dfs_end HIN.out (by rw [hk]; exact LP.out), HN2.out⟩
end Go.Proofs.Ytpmkeagdoehbhaa

/- The bridges, of the program. -/
namespace Go.Proofs.Ytpmkeagdoehbhaa
open Go.ChangeShapes Go.WideShapes Go.ChangeAt Go.RowKit

theorem boolsB_one (bb : List Bool) : (boolsB bb).all (·.oneCell') = true := by simp [boolsB, Value.oneCell']
theorem dst_start (w : World) (bs : Int) (n c m d : Nat) (A B : Option Addr) : DSt w (((((((w.alloc (.cells #[.int .i64 bs, .slice A n c] 33)).alloc (.cells #[.slice B m d] 25)).alloc (.cells (boolsB (List.replicate 10 false)) 110)).alloc (.cells (boolsB (List.replicate 10 false)) 110)).alloc (.cells (intsB (List.replicate 8 0)) 112)).alloc (.cells #[.int .i64 0] 3)).alloc (.cells #[srchV w.heap.size] 113)) w.heap.size bs n c m d A B (List.replicate 8 0) 0 (List.replicate 10 false) := by
  refine ⟨?_, Nat.le_refl _, ?_, ?_, ?_, ?_, ?_, ?_, ?_, rfl, rfl⟩
  · exact (((((((below_bx w _).alloc (by simp) _).alloc (by simp; omega) _).alloc (by simp; omega) _).alloc (by simp; omega) _).alloc (by simp; omega) _).alloc (by simp; omega) _)
  · exact ((((((IsBlk.new w _ _).alloc _).alloc _).alloc _).alloc _).alloc _).alloc _
  · exact (((((IsBlk.at_ (by simp) rfl rfl).alloc _).alloc _).alloc _).alloc _).alloc _
  · exact ((((IsBlk.at_ (by simp) rfl rfl).alloc _).alloc _).alloc _).alloc _
  · exact (((IsBlk.at_ (by simp) rfl rfl).alloc _).alloc _).alloc _
  · exact ((IsBlk.at_ (by simp) rfl rfl).alloc _).alloc _
  · exact (IsBlk.at_ (by simp) rfl rfl).alloc _
  · exact IsBlk.at_ (by simp) rfl rfl

set_option maxRecDepth 100000 in
set_option maxHeartbeats 800000 in
theorem bridgesOf_any (nb : Nat) (A : Option Addr) (n c : Nat) (ls : List L3) (B : Option Addr) (m d : Nat) (ts : List Bool) (w : World) (hr : RowL w A n ls) (hrt : RowT w B m ts) (hs : stOk nb ls ts.length = true) :
    Calls Try.prog 87 #[.agg #[.int .i64 (nb : Int), .slice A n c], .slice B m d] w fun e w' => ∃ bb : List Bool, e = .returned (.agg (boolsB bb)) ∧ bb.length = 10 ∧ (∀ k, ts[k]? = some true → brF bb k = briB ls ts k) ∧ Below w.heap.size w w' := by
  have SA := Lib.hid (search_any w w.heap.size nb n c m d A B ls ts hr hrt hs)
  have hml := hrt.len
  have hnl := hr.1
  have hm10 := stOk_len hs
  have hbs := stOk_bs hs
  have HS := Lib.hid hs
  have HML := Lib.hid hml
  have hnb : nb ≤ 8 := by omega
  clear hr hrt hs hml hnl hm10 hbs
  have hmf : ∀ (fn : Fn) (first cap : Array Value) (w : World), (Instr.makeFunc fn first cap).run Try.prog w = .ok (.func fn first cap) w := fun _ _ _ _ => rfl
  go_enter Try.func87, Try.ntmps87
  go_wp2
  have ST0 := Lib.hid (dst_start w nb n c m d A B)
  have hsz0 : w.heap.size ≤ w.heap.size := Nat.le_refl _
  clear hsz0 hmf
  go_loopw [13] (fun i wk => ∃ (k : Nat) (zs : List Nat) (now : Nat) (bb : List Bool), k ≤ nb ∧ i = .int .i64 k ∧ DSt w wk w.heap.size nb n c m d A B zs now bb ∧ DInv ls ts (tF zs) now (brF bb) [] ∧ now + leftN (tF zs) nb ≤ 8 ∧ (∀ b, b < k → tF zs b ≠ 0)) (fun i _ => nb - (intOf i).toNat)
  case atStart =>
    refine ⟨0, _, _, _, by omega, rfl, ST0.out, ?_, ?_, fun b h => absurd h (by omega)⟩
    · have e1 : tF (List.replicate 8 0) = fun _ => 0 := by
        funext b; simp only [tF, List.getD_eq_getElem?_getD, List.getElem?_replicate]; split <;> rfl
      have e2 : brF (List.replicate 10 false) = fun _ => false := by
        funext b; simp only [brF, List.getD_eq_getElem?_getD, List.getElem?_replicate]; split <;> rfl
      rw [e1, e2]; exact dfs_none ls ts
    · have : leftN (tF (List.replicate 8 0)) nb ≤ nb := by
        unfold leftN; exact Nat.le_trans List.countP_le_length (by simp)
      omega
  case round =>
    obtain ⟨k, zs, now, bb, hk, rfl, hst, hin, hnow, hall⟩ := hrel
    have ST := Lib.hid hst
    have HIN := Lib.hid hin
    have HNOW := Lib.hid hnow
    have HA := Lib.hid hall
    clear hst hin hnow hall ST0
    by_cases hkm : k < nb
    · have j0 : (0 : Int) ≤ (k : Int) := by omega
      have j1 : (k : Int) < 8 := by omega
      have c0 := ST.out.time (b := k) (by omega)
      have c1 := ST.out.srch
      rw [srchV] at c1
      by_cases hz : tF zs k = 0
      · have HZ := Lib.hid hz
        have hz0 : ((tF zs k : Int) == 0) = true := by rw [hz]; rfl
        clear hz
        go_wp2_with (first
          | (go_at_call 88; refine (SA.out _ k (-1) [] zs now bb wr (Nat.le_refl _) hkm HZ.out ST.out HIN.out (.inl ⟨rfl, rfl⟩) HNOW.out).mono ?_; rintro e w3 ⟨zs3, now3, bb3, least3, rfl, hst3, hp3, hnow3⟩)
          | fail)
        go_roundw
        case rel =>
          refine ⟨k + 1, _, _, _, by omega, by go_num, hst3, hp3.inv, hnow3, fun b hb => ?_⟩
          rcases Nat.lt_or_ge b k with h | h
          · rw [hp3.keep b (HA.out b h)]; exact HA.out b h
          · obtain rfl : b = k := by omega
            exact hp3.vis
        case measure => simp [intOf]; omega
      · have HZ := Lib.hid hz
        have hz0 : ((tF zs k : Int) == 0) = false := by rw [beq_eq_false_iff_ne]; omega
        clear hz
        go_wp2
        go_roundw
        case rel =>
          refine ⟨k + 1, _, _, _, by omega, by go_num, ST.out, HIN.out, HNOW.out, fun b hb => ?_⟩
          rcases Nat.lt_or_ge b k with h | h
          · exact HA.out b h
          · obtain rfl : b = k := by omega
            exact HZ.out
        case measure => simp [intOf]; omega
    · obtain rfl : k = nb := by omega
      have hb1 := ST.out.brb
      have hb2 := ST.out.res
      have hl10 : (boolsB bb).size = 10 := by simp [boolsB, ST.out.bl]
      rw [IsBlk] at hb1 hb2
      clear SA
      go_wp2_with (first
        | (refine wpList_load_row rfl 110 _ rfl (w.heap.size + 3) rfl _ _ _ _ hb1 Try.underlying110 rfl (by rw [hl10]; kernel_rfl) ?_)
        | (refine wpList_store_row rfl 110 _ _ rfl (w.heap.size + 2) (boolsB bb) rfl rfl _ _ hb2 (by rw [hl10]; kernel_rfl) (by rw [hl10]; rfl) (boolsB_one bb) ?_)
        | fail)
      refine bodyPost_ret (v := .agg (boolsB bb)) (results_cell_row rfl _ _ (w.heap.size + 2) _ _ _ _ rfl (setRow_heap _ _ _ _ _ _ hb2) Try.underlying110 rfl (by rw [hl10]; kernel_rfl)) rfl ⟨bb, rfl, ST.out.bl, fun j hj => ?_, below_setRow ST.out.bel (by omega) _⟩
      obtain ⟨l, hl⟩ := on_line HS.out (List.getElem?_eq_some_iff.1 hj).1
      have hln : Ln ls ts j l.1.toNat l.2.1.toNat := ⟨l, hl, hj, .inl ⟨rfl, rfl⟩⟩
      have hv := stOk_net HS.out
      have h1 := hln.lt hv
      have h2 := hln.symm.lt hv
      have h3 := HIN.out.ok j _ _ hln (HA.out _ (by simpa using h1)) (by simp) (HA.out _ (by simpa using h2)) (by simp)
      rw [briB_at hl hj, Bool.true_and, Bool.eq_iff_iff, h3, Bool.not_eq_true', connB_no]
      rfl
end Go.Proofs.Ytpmkeagdoehbhaa

/- CycleLines, BridgeLines, HasCycle, of the program. -/
namespace Go.Proofs.Ytpmkeagdoehbhaa
open Go.ChangeShapes Go.WideShapes Go.ChangeAt Go.RowKit

theorem linTo_next (ls : List L3) (ts : List Bool) (br : Bool) (k : Nat) : ofN (linTo ls ts br (k + 1)) = ofN (linTo ls ts br k) ++ (if linB ls ts br k = true then [(k : Int)] else []) := by
  cases h : linB ls ts br k
  · rw [linTo_no h]; simp
  · rw [linTo_yes h]; simp [ofN]
theorem boolsB_get {bb : List Bool} {k : Nat} (h : k < bb.length) : (boolsB bb)[k]? = some (.bool (brF bb k)) := by
  have : bb[k]? = some (brF bb k) := getD_get h
  simp [boolsB, this]
theorem linB_off {ls : List L3} {ts : List Bool} {k : Nat} (br : Bool) (h : ts[k]? = some false) : linB ls ts br k = false := by
  rw [linB, briB, cycB, getD_some h]; cases br <;> rfl
theorem linB_on {ls : List L3} {ts : List Bool} {k : Nat} (br : Bool) (h : ts[k]? = some true) : linB ls ts br k = (briB ls ts k == br) := by
  rw [linB, briB, getD_some h]; cases br <;> cases cycB ls ts k <;> rfl

set_option maxRecDepth 100000 in
set_option maxHeartbeats 400000 in
theorem linesOn_any (bs : Int) (A : Option Addr) (n c : Nat) (ls : List L3) (B : Option Addr) (m d : Nat) (ts : List Bool) (br : Bool) (w : World) (hn : n ≤ 1048576) (hr : RowL w A n ls) (hm : m ≤ 1048576) (hrt : RowT w B m ts) :
    Calls Try.prog 86 #[.agg #[.int .i64 bs, .slice A n c], .slice B m d, .bool br] w fun e w' => ∃ v, e = .returned v ∧ OwnI 3 w' w.heap.size v (linF bs ls ts br) ∧ Below w.heap.size w w' := by
  obtain ⟨i0, hi, hz0, hz1, hz2⟩ := info_parts intInfo6
  have HI := Lib.hid hi
  have HR := Lib.hid hr
  have HT := Lib.hid hrt
  have HL := Lib.hid hrt.len
  clear hr hrt hi
  have hbx := below_bx w (.cells #[.int .i64 bs, .slice A n c] 33)
  by_cases hs : stOk bs ls m = true
  · have hbs := stOk_bs hs
    have HS := Lib.hid hs
    have HS2 := Lib.hid (show stOk bs ls ts.length = true by rw [HL.out]; exact hs)
    have hm10 := (stOk_len hs).2
    obtain ⟨nb, rfl⟩ := Int.eq_ofNat_of_zero_le (show 0 ≤ bs by omega)
    have HF := Lib.hid (show linF nb ls ts br = ofN (linTo ls ts br m) by rw [linF_of HS2.out, HL.out])
    clear hs hbs
    go_enter Try.func86, Try.ntmps86
    go_wp2_with fail
    refine (stateValid_any nb _ n c ls _ m d _ hn (HR.out.below hbx) (by omega)).mono ?_
    rintro e w1 ⟨rfl, hb1⟩
    rw [HS.out]
    have a1 : Below w.heap.size w w1 := hbx.trans (hb1.mono (by simp))
    obtain ⟨p0, p1, _, _⟩ := ((IsBlk.new w 33 #[.int .i64 (nb : Int), .slice A n c]).keep hb1).two
    go_wp2_with fail
    refine (bridgesOf_any nb _ n c ls _ m d ts _ (HR.out.below a1) (HT.out.below a1) HS2.out).mono ?_
    rintro e w2 ⟨bb, rfl, hbl, hbb, hb2⟩
    have a2 : Below w.heap.size w w2 := a1.trans (hb2.mono a1.size)
    have HBB := Lib.hid hbb
    have HBL := Lib.hid hbl
    clear hbb hbl
    go_wp2_with (first
      | (refine wpList_store_row rfl 110 _ _ rfl w2.heap.size (boolsB bb) rfl rfl _ _ (heap_alloc_new w2 _) (by rw [show (boolsB bb).size = 10 by simp [boolsB, HBL.out]]; kernel_rfl) (by simp [boolsB, HBL.out]) (boolsB_one bb) ?_)
      | fail)
    have BK := Lib.hid (show IsBlk ((w2.alloc (.cells (boolsB (List.replicate 10 false)) 110)).setRow w2.heap.size (boolsB bb)) w2.heap.size 110 (boolsB bb) from setRow_heap _ _ _ _ _ _ (heap_alloc_new w2 _))
    have a3 : Below w.heap.size w ((w2.alloc (.cells (boolsB (List.replicate 10 false)) 110)).setRow w2.heap.size (boolsB bb)) := below_setRow (a2.alloc a2.size _) a2.size _
    change Code.wp _ _ _ _ ((w2.alloc (.cells (boolsB (List.replicate 10 false)) 110)).setRow w2.heap.size (boolsB bb))
    generalize (w2.alloc (.cells (boolsB (List.replicate 10 false)) 110)).setRow w2.heap.size (boolsB bb) = w3 at *
    generalize w2.heap.size = gb at *
    clear p0 p1 a1 a2 hb1 hb2 hbx
    go_loopw [8, 20] (fun v i wr => ∃ k : Nat, k ≤ m ∧ i = .int .i64 k ∧ OwnI 3 wr w3.heap.size v (ofN (linTo ls ts br k)) ∧ Below w3.heap.size w3 wr) (fun _ i _ => m - (intOf i).toNat)
    case atStart => exact ⟨0, by omega, rfl, World.ownsRow_nil _ _ _ _, Below.refl _ _⟩
    case round =>
      obtain ⟨k, hk, rfl, hown, hbel⟩ := hrel
      have HO := Lib.hid hown
      have KB := Lib.hid (BK.out.keep hbel)
      clear hown
      by_cases hlt : k < m
      · obtain ⟨b, off, t, rfl, hb, hkt, g0⟩ := HT.out.at_ hlt
        rw [← (a3.trans (hbel.mono a3.size)).cell (p := ⟨b, off + k, none⟩) hb] at g0
        have g1 : wr.cell? ⟨gb, k, none⟩ = some (.bool (brF bb k)) := by rw [KB.out.cell, boolsB_get (by rw [HBL.out]; omega)]
        have HN := Lib.hid (linTo_next ls ts br k)
        have hle2 : (ofN (linTo ls ts br k)).length ≤ k := by rw [ofN_len]; exact linTo_len ls ts br k
        have q0 : (0 : Int) ≤ (k : Int) := by omega
        have q1 : (k : Int) < (m : Int) := by omega
        have q2 : (k : Int) < 10 := by omega
        have hzw := hbel.size
        cases t
        · have HN2 := Lib.hid (show ofN (linTo ls ts br (k + 1)) = ofN (linTo ls ts br k) by rw [HN.out, linB_off br hkt]; simp)
          clear hkt HN
          go_wp2
          go_roundw
          case rel => exact ⟨k + 1, by omega, by go_num, by rw [HN2.out]; exact HO.out, hbel⟩
          case measure => simp [intOf]; omega
        · have hbr := HBB.out k hkt
          have hlb := linB_on (ls := ls) br hkt
          rw [← hbr] at hlb
          generalize brF bb k = q at *
          by_cases hq : q = br
          · subst hq
            have hqq : (q == q) = true := by simp
            rw [hqq] at hlb
            have HN2 := Lib.hid (show ofN (linTo ls ts q (k + 1)) = ofN (linTo ls ts q k) ++ [(k : Int)] by rw [HN.out, hlb]; rfl)
            clear hkt HN hlb hbr
            go_wp2_with (
              at_builtin
              refine wpList_append_own _ rfl _ _ _ rfl w3.heap.size 3 i0 (.int .i64 0) 1 8 Try.underlying27 HI.out hz0 hz1 hz2 rfl (by decide) _ _ _ rfl (World.ownsRow.alloc HO.out _) ⟨wr.heap.size, 0, none⟩ 1 1 [.int .i64 (k : Int)] rfl rfl ?c1 ?c2 ?c3 ?c4 ?c5 ?_
              case c1 => exact cell_one_new _ _ _
              case c2 => intro u hu; simp at hu; subst hu; rfl
              case c3 => simp only [maxLen]; omega
              case c4 => omega
              case c5 => have := hbel.size; simp; omega
              intro v' w4 hown' hgrow _
              have hb4 : Below w3.heap.size w3 w4 := (hbel.alloc hbel.size _).grown hgrow (by have := hbel.size; simp; omega) (fun q hq => (World.ownsRow.lt HO.out q hq).1))
            go_roundw
            case rel => exact ⟨k + 1, by omega, by go_num, by rw [HN2.out]; simpa [OwnI] using hown', hb4⟩
            case measure => simp [intOf]; omega
          · have hqq : (q == br) = false := by rw [beq_eq_false_iff_ne]; exact hq
            rw [hqq] at hlb
            have HN2 := Lib.hid (show ofN (linTo ls ts br (k + 1)) = ofN (linTo ls ts br k) by rw [HN.out, hlb]; simp)
            clear hkt HN hlb hbr hq
            go_wp2
            go_roundw
            case rel => exact ⟨k + 1, by omega, by go_num, by rw [HN2.out]; exact HO.out, hbel⟩
            case measure => simp [intOf]; omega
      · go_wp2
        go_ret
        obtain rfl : k = m := by omega
        exact ⟨_, rfl, by rw [HF.out]; exact OwnI.more HO.out a3.size, a3.trans (hbel.mono a3.size)⟩
  · have hs' : stOk bs ls m = false := by rwa [Bool.not_eq_true] at hs
    have HS := Lib.hid hs'
    have HF := Lib.hid (show linF bs ls ts br = [] from linF_not (by rw [HL.out]; exact hs') br)
    clear hs hs'
    go_enter Try.func86, Try.ntmps86
    go_wp2_with fail
    refine (stateValid_any bs _ n c ls _ m d _ hn (HR.out.below hbx) (by omega)).mono ?_
    rintro e w1 ⟨rfl, hb1⟩
    rw [HS.out]
    go_wp2
    go_ret
    exact ⟨_, rfl, by rw [HF.out]; exact OwnI.nil, hbx.trans (hb1.mono (by simp))⟩

theorem cycleLines_any (bs : Int) (A : Option Addr) (n c : Nat) (ls : List L3) (B : Option Addr) (m d : Nat) (ts : List Bool) (w : World) (hn : n ≤ 1048576) (hr : RowL w A n ls) (hm : m ≤ 1048576) (hrt : RowT w B m ts) :
    Calls Try.prog 82 #[.agg #[.int .i64 bs, .slice A n c], .slice B m d] w fun e w' => ∃ v, e = .returned v ∧ OwnI 3 w' w.heap.size v (linF bs ls ts false) ∧ Below w.heap.size w w' := by
  have hbx := below_bx w (.cells #[.int .i64 bs, .slice A n c] 33)
  go_enter Try.func82, Try.ntmps82
  go_wp2_with fail
  refine (linesOn_any bs _ n c ls _ m d ts false _ hn (hr.below hbx) hm (hrt.below hbx)).mono ?_
  rintro e w1 ⟨v, rfl, hO, hb1⟩
  go_wp2
  go_ret
  exact ⟨_, rfl, hO.more (by simp), hbx.trans (hb1.mono (by simp))⟩
theorem hasCycle_any (bs : Int) (A : Option Addr) (n c : Nat) (ls : List L3) (B : Option Addr) (m d : Nat) (ts : List Bool) (w : World) (hn : n ≤ 1048576) (hr : RowL w A n ls) (hm : m ≤ 1048576) (hrt : RowT w B m ts) :
    Calls Try.prog 77 #[.agg #[.int .i64 bs, .slice A n c], .slice B m d] w fun e w' => e = .returned (.bool (hasF bs ls ts)) ∧ Below w.heap.size w w' := by
  have hbx := below_bx w (.cells #[.int .i64 bs, .slice A n c] 33)
  go_enter Try.func77, Try.ntmps77
  go_wp2_with fail
  refine (cycleLines_any bs _ n c ls _ m d ts _ hn (hr.below hbx) hm (hrt.below hbx)).mono ?_
  rintro e w1 ⟨v, rfl, hO, hb1⟩
  obtain ⟨A1, c1, rfl, _⟩ := hO.sl
  go_wp2
  go_ret
  exact ⟨retB (by rw [hasF_eq]; first | rfl | (rw [decide_eq_decide]; omega)), hbx.trans (hb1.mono (by simp))⟩
end Go.Proofs.Ytpmkeagdoehbhaa
