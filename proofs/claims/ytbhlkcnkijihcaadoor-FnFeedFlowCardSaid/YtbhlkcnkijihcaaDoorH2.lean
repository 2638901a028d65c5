/- The search from all feeds, of the program. -/
import Derived.Test.YtbhlkcnkijihcaaDoorBHD
import Derived.Test.YtbhlkcnkijihcaaDoorBHC
import Derived.Test.YtbhlkcnkijihcaaDoorBFA
import Derived.Test.YtbhlkcnkijihcaaDoorBCB
import Derived.Test.YtbhlkcnkijihcaaDoorA10
import Derived.Test.YtbhlkcnkijihcaaDoorQ1
namespace Go.Proofs.YtbhlkcnkijihcaaDoor
open Go.ChangeShapes Go.WideShapes Go.ChangeAt Go.RowKit

/-- The lines that end at a bus. -/
def latN (ls : List L3) (x : Nat) : List Nat := (List.range ls.length).filter fun j => endsB (ls.getD j (0, 0, 0)) (x : Int)
theorem latN_eq {nb : Nat} {ls : List L3} (hv : netOk nb ls = true) (x : Nat) : linesAtF nb ls (x : Int) = ofN (latN ls x) := by rw [linesAtF, if_pos hv]; rfl
theorem latN_len (ls : List L3) (x : Nat) : (latN ls x).length ≤ ls.length := Nat.le_trans (List.length_filter_le _ _) (by simp)
theorem latN_nodup (ls : List L3) (x : Nat) : (latN ls x).Nodup := List.Pairwise.filter _ List.nodup_range
theorem latN_mem {ls : List L3} {x k : Nat} (h : k ∈ latN ls x) : ∃ l, ls[k]? = some l ∧ endsB l (x : Int) = true := by
  rw [latN, List.mem_filter, List.mem_range] at h
  obtain ⟨h1, h2⟩ := h
  have e : ls[k]? = some (ls.getD k (0, 0, 0)) := by rw [List.getD_eq_getElem?_getD, List.getElem?_eq_getElem h1]; rfl
  exact ⟨_, e, h2⟩
theorem latN_all {ls : List L3} {ts : List Bool} {k x v : Nat} (hv : ∃ bs, netOk bs ls = true) (h : Ln ls ts k x v) : k ∈ latN ls x := by
  obtain ⟨bs, hv⟩ := hv
  obtain ⟨l, h1, _, h3⟩ := h
  have h2 := netOk_line hv h1
  simp [lineOk, inB] at h2
  have hlt := (List.getElem?_eq_some_iff.1 h1).1
  have e : ls.getD k (0, 0, 0) = l := by rw [List.getD_eq_getElem?_getD, h1]; rfl
  rw [latN, List.mem_filter, List.mem_range, e]
  refine ⟨hlt, ?_⟩
  simp only [endsB, Bool.or_eq_true, beq_iff_eq]
  omega
theorem latN_fresh {ls : List L3} {x i k : Nat} (h : (latN ls x)[i]? = some k) : k ∉ (latN ls x).take i := by
  intro hm
  obtain ⟨j, hj, e⟩ := List.getElem_of_mem hm
  have hd := latN_nodup ls x
  obtain ⟨hi, e2⟩ := List.getElem?_eq_some_iff.1 h
  simp only [List.length_take] at hj
  rw [List.getElem_take] at e
  have := (List.getElem_inj (h₀ := by omega) (h₁ := hi) hd).1 (e.trans e2.symm)
  omega
theorem latN_step {ls : List L3} {x i k : Nat} (h : (latN ls x)[i]? = some k) (j : Nat) : (j ∈ (latN ls x).take i ∨ j = k) ↔ j ∈ (latN ls x).take (i + 1) := by
  rw [List.take_add_one, h]; simp
theorem other_end {nb : Nat} {ls : List L3} {ts : List Bool} {k x : Nat} {l : L3} (hv : netOk nb ls = true) (hl : ls[k]? = some l) (ht : ts[k]? = some true) (he : endsB l (x : Int) = true) : ∃ y : Nat, otherF nb ls k x = (y : Int) ∧ Ln ls ts k x y ∧ y < nb := by
  rcases otherF_on hv hl ht (x := x) with ⟨o, h1, h2, h3⟩ | ⟨_, h⟩
  · exact ⟨o, h1, h2, h3⟩
  · exfalso
    have h2 := netOk_line hv hl
    simp [lineOk, inB] at h2
    simp only [endsB, Bool.or_eq_true, beq_iff_eq] at he
    rcases he with e | e
    · exact h l.2.1.toNat ⟨l, hl, ht, .inl ⟨by omega, rfl⟩⟩
    · exact h l.1.toNat ⟨l, hl, ht, .inr ⟨by omega, rfl⟩⟩

/-- While a bus's other ends are laid: g the block of the supplies, b2 from where on the list of the others lies. -/
structure OthSt (W0 w wr : World) (g : Nat) (s : List U2) (bs : Int) (n c : Nat) (A : Option Addr) (b2 : Nat) (v : Value) (oth : List Nat) (L : Option Addr) (lat : List Nat) : Prop where
  bel : Below W0.heap.size W0 wr
  gr : w.grownBy wr (some g)
  box : IsBlk wr w.heap.size 25 #[.int .i64 bs, .slice A n c]
  blk : IsBlk wr g 56 (rowArr fU s)
  own : OwnI 3 wr b2 v (ofN oth)
  list : RowZ wr L lat.length (ofN lat)
  lfar : ∀ b off, L = some ⟨b, off, none⟩ → b ≠ g ∧ b < b2
  le : b2 ≤ wr.heap.size
  gl : g < w.heap.size
  g0 : W0.heap.size ≤ g
  wb : w.heap.size < b2
section
variable {W0 w wr w' : World} {g : Nat} {s : List U2} {bs : Int} {n c : Nat} {A : Option Addr} {b2 : Nat} {v : Value} {oth : List Nat} {L : Option Addr} {lat : List Nat}
theorem OthSt.next (h : OthSt W0 w wr g s bs n c A b2 v oth L lat) (hb : Below wr.heap.size wr w') : OthSt W0 w w' g s bs n c A b2 v oth L lat :=
  ⟨h.bel.trans (hb.mono h.bel.size), grown_then h.gr ⟨hb.os, hb.tape, hb.output, hb.size, fun i hi _ => hb.block i hi⟩, h.box.keep hb, h.blk.keep hb, OwnI.keep h.own hb, h.list.below hb, h.lfar, Nat.le_trans h.le hb.size, h.gl, h.g0, h.wb⟩
theorem OthSt.put {y : Nat} {z1 z2 : Int} (h : OthSt W0 w wr g s bs n c A b2 v oth L lat) (hy : y < s.length) : OthSt W0 w ((wr.setCell ⟨g, y * 2, none⟩ (.int .i64 z1)).setCell ⟨g, y * 2 + 1, none⟩ (.int .i64 z2)) g (s.set y (z1, z2)) bs n c A b2 v oth L lat := by
  have g2 : wr.grownBy ((wr.setCell ⟨g, y * 2, none⟩ (.int .i64 z1)).setCell ⟨g, y * 2 + 1, none⟩ (.int .i64 z2)) (some g) := grown_then (grown_put _ _ _ _) (grown_put _ _ _ _)
  have hgw := h.gl
  have hwb := h.wb
  refine ⟨h.bel.grown g2 h.bel.size (fun k hk => by cases hk; exact h.g0), grown_then h.gr g2, h.box.farG g2 (fun e => by injection e with e; omega), ?_, OwnI.far h.own g2 (fun q hq e => by have := (OwnI.lt h.own q hq).1; injection e with e; omega), RowV.grown h.list g2 (fun b off e e2 => by have := (h.lfar b off e).1; injection e2 with e2; omega), h.lfar, by simpa [World.setCell] using h.le, h.gl, h.g0, h.wb⟩
  have hp := putAll_set (f := fU) fU_len (xs := s) hy (z1, z2)
  have hb : IsBlk ((wr.setCell ⟨g, y * 2, none⟩ (.int .i64 z1)).setCell ⟨g, y * 2 + 1, none⟩ (.int .i64 z2)) g 56 (putAll (rowArr fU s) (y * 2) (fU (z1, z2))) := (h.blk.put (y * 2) _).put (y * 2 + 1) _
  rw [hp] at hb
  exact hb
theorem OthSt.push {oth' : List Nat} {v' : Value} (h : OthSt W0 w wr g s bs n c A b2 v oth L lat) (o : Obj) (hown : OwnI 3 w' b2 v' (ofN oth')) (hg : (wr.alloc o).grownBy w' v.ownBlock) : OthSt W0 w w' g s bs n c A b2 v' oth' L lat := by
  have h1 := h.next (below_bx wr o)
  have hgw := h.gl
  have hwb := h.wb
  have hlt : ∀ q, v.ownBlock = some q → b2 ≤ q := fun q hq => (OwnI.lt h.own q hq).1
  have hb : Below b2 (wr.alloc o) w' := (Below.refl b2 _).grown hg h1.le hlt
  have hW : W0.heap.size ≤ b2 := by have := h.g0; omega
  refine ⟨h1.bel.trans (hb.mono hW), ⟨hb.os.trans h1.gr.os, hb.tape.trans h1.gr.tape, hb.output.trans h1.gr.output, Nat.le_trans h1.gr.size hb.size, fun k hk hne => (hb.block k (by omega)).trans (h1.gr.block k hk hne)⟩, h1.box.below hb hwb, h1.blk.below hb (by omega), hown, RowV.grown h1.list hg (fun b off e e2 => by have := (h.lfar b off e).2; have := hlt b e2; omega), h.lfar, Nat.le_trans h1.le hg.size, h.gl, h.g0, h.wb⟩
theorem OthSt.sup {x : Nat} {f p : Int} (h : OthSt W0 w wr g s bs n c A b2 v oth L lat) (hx : s[x]? = some (f, p)) : wr.cell? ⟨g, x * 2, none⟩ = some (.int .i64 f) ∧ wr.cell? ⟨g, x * 2 + 1, none⟩ = some (.int .i64 p) := by
  have hget := rowArr_get (f := fU) fU_len hx
  exact ⟨(h.blk.cell _).trans (hget 0 (by omega)), (h.blk.cell _).trans (hget 1 (by omega))⟩
end
theorem ofN_snoc (zs : List Nat) (y : Nat) : ofN (zs ++ [y]) = ofN zs ++ [(y : Int)] := by simp [ofN]
theorem sup_some {s : List U2} {x : Nat} (hx : x < s.length) : ∃ f p, s[x]? = some (f, p) ∧ supAt s x = (f, p) :=
  ⟨s[x].1, s[x].2, List.getElem?_eq_getElem hx, supAt_get (List.getElem?_eq_getElem hx)⟩

set_option maxRecDepth 100000 in
set_option maxHeartbeats 2000000 in
theorem supplyOthers_any (W0 w : World) (g nb : Nat) (A : Option Addr) (n c : Nat) (ls : List L3) (B : Option Addr) (m d : Nat) (ts : List Bool) (us : List U2) (s : List U2) (x : Nat) (q : List Nat) (dq : List Nat)
    (hW : Below W0.heap.size W0 w) (hg0 : W0.heap.size ≤ g) (hgw : g < w.heap.size) (hr : RowL W0 A n ls) (hrt : RowT W0 B m ts) (hs : stOk nb ls m = true) (ha : Acyc ls ts) (ho : OneFeed (edgesOn ls ts) us)
    (hblk : IsBlk w g 56 (rowArr fU s)) (hq : Queue ls ts us nb s (x :: q)) (hx : x < nb) (hh : Hist ls ts s dq) :
    Calls Tryd.prog 85 #[.agg #[.int .i64 (nb : Int), .slice A n c], .slice B m d, .slice (some ⟨g, 0, none⟩) nb nb, .int .i64 (x : Int)] w fun e w' =>
      ∃ (v : Value) (oth : List Nat) (s' : List U2), e = .returned v ∧ OwnI 3 w' w.heap.size v (ofN oth) ∧ IsBlk w' g 56 (rowArr fU s') ∧ Queue ls ts us nb s' (q ++ oth) ∧ Hist ls ts s' (dq ++ oth) ∧ leftM (markS s') nb + oth.length ≤ leftM (markS s) nb ∧ w.grownBy w' (some g) := by
  obtain ⟨i0, hi, hz0, hz1, hz2⟩ := info_parts intInfo6
  have HI := Lib.hid hi
  have HR := Lib.hid hr
  have HT := Lib.hid hrt
  have HV := Lib.hid (stOk_net hs)
  have HA := Lib.hid ha
  have HO := Lib.hid ho
  have hlen := stOk_len hs
  have hnl := hr.1
  have hml := hrt.len
  have hbs := stOk_bs hs
  obtain rfl : m = n := by omega
  have hn10 : m ≤ 10 := hlen.2
  have hwk := work_start hq
  have HX := Lib.hid hx
  have HBK := Lib.hid hblk
  have HLEN := Lib.hid hq.sp.len
  have HNL := Lib.hid hnl
  have hll := latN_len ls x
  have HE := Lib.hid (latN_eq HV.out x)
  have HM := Lib.hid (fun k (h : k ∈ latN ls x) => latN_mem h)
  have HF := Lib.hid (fun i k (h : (latN ls x)[i]? = some k) => latN_fresh h)
  have HS2 := Lib.hid (fun i k (h : (latN ls x)[i]? = some k) => latN_step h)
  have HAL := Lib.hid (fun k v (h : Ln ls ts k x v) => latN_all ⟨_, HV.out⟩ h)
  have HQ := Lib.hid hwk
  have HH0 := Lib.hid hh
  clear hr hrt hs ha ho hq hblk hwk hi hml hlen hh
  go_enter Tryd.func85, Tryd.ntmps85
  go_wp2_with fail
  refine (linesAt_any nb _ m c ls x _ (by omega) (HR.out.below (hW.trans ((below_bx w _).mono hW.size)))).mono ?_
  rintro e w1 ⟨v1, rfl, hO, hb1⟩
  rw [HE.out] at hO
  generalize latN ls x = lat at *
  have hz1' : w.heap.size < w1.heap.size := by have := hb1.size; simp at this; omega
  have ha1 : Below w.heap.size w w1 := (below_bx w _).trans (hb1.mono (by simp))
  have BX := (IsBlk.new w 25 #[.int .i64 (nb : Int), .slice A m c]).keep hb1
  have hlt1 := OwnI.lt hO
  obtain ⟨L, cL, rfl, hZ⟩ := hO.sl
  rw [ofN_len] at hZ hlt1 ⊢
  have ST0 := Lib.hid (show OthSt W0 w w1 g s nb m c A w1.heap.size (.slice none 0 0) [] L lat from
    ⟨hW.trans (ha1.mono hW.size), ⟨ha1.os, ha1.tape, ha1.output, ha1.size, fun i hi _ => ha1.block i hi⟩, BX, HBK.out.below ha1 hgw, OwnI.nil, hZ, fun b off e => by subst e; have := hlt1 b rfl; simp at this; omega, Nat.le_refl _, hgw, hg0, hz1'⟩)
  clear hO hZ BX hlt1 hb1 ha1 HBK hW HE
  go_wp2
  go_loopw [9, 17] (fun v i wr => ∃ (k : Nat) (oth : List Nat) (s' : List U2), k ≤ lat.length ∧ i = .int .i64 k ∧ OthSt W0 w wr g s' nb m c A w1.heap.size v oth L lat ∧ Work ls ts us nb s' x (fun j => j ∈ lat.take k) (q ++ oth) ∧ leftM (markS s') nb + oth.length ≤ leftM (markS s) nb ∧ oth.length ≤ k ∧ Hist ls ts s' (dq ++ oth)) (fun _ i _ => lat.length - (intOf i).toNat)
  case atStart => exact ⟨0, [], s, by omega, rfl, ST0.out, by simpa using HQ.out, by simp, by simp, by simpa using HH0.out⟩
  case round =>
    obtain ⟨k, oth, s', hk, rfl, hst, hwk, hle, hol, hhi⟩ := hrel
    have ST := Lib.hid hst
    have WK := Lib.hid hwk
    have HLE := Lib.hid hle
    have HHI := Lib.hid hhi
    clear hst hwk hle ST0 HQ hhi HH0
    by_cases hlt : k < lat.length
    · obtain ⟨b, off, z, rfl, hb, hkz, e0⟩ := ST.out.list.at_ hlt
      have hjk : lat[k]? = some (lat[k]'hlt) := List.getElem?_eq_getElem hlt
      generalize lat[k]'hlt = j at hjk
      rw [ofN_get hjk] at hkz
      injection hkz with hkz
      subst hkz
      obtain ⟨l, hl, hends⟩ := HM.out j (List.mem_of_getElem? hjk)
      have hjm : j < m := by have := (List.getElem?_eq_some_iff.1 hl).1; have := HNL.out; omega
      obtain ⟨b', off', t, rfl, hb', hkt, g0⟩ := HT.out.at_ hjm
      rw [← ST.out.bel.cell (p := ⟨b', off' + j, none⟩) hb'] at g0
      have ii0 : (0 : Int) ≤ (k : Int) := by omega
      have ii1 : (k : Int) < (lat.length : Int) := by omega
      have ii2 : (0 : Int) ≤ (j : Int) := by omega
      have ii3 : (j : Int) < (m : Int) := by omega
      have ii4 : (0 : Int) ≤ (x : Int) := by omega
      have ii5 : (x : Int) < (nb : Int) := by omega
      have HN := Lib.hid (fun j' => HS2.out k j hjk j')
      have HFR := Lib.hid (HF.out k j hjk)
      cases t
      · have WK2 := Lib.hid (work_iff (work_skip (k := j) WK.out (fun v hv => by obtain ⟨_, _, h2, _⟩ := hv; rw [hkt] at h2; cases h2)) HN.out)
        clear hkt hjk hl hends
        go_wp2
        go_roundw
        case rel => exact ⟨k + 1, oth, s', by omega, by go_num, ST.out, WK2.out, HLE.out, by omega, HHI.out⟩
        case measure => simp [intOf]; omega
      · obtain ⟨f, p, hsx, hsa⟩ := sup_some (s := s') (x := x) (by rw [WK.out.sp.len]; exact hx)
        obtain ⟨c0, c1⟩ := ST.out.sup hsx
        by_cases hp : (j : Int) = p
        · have WK2 := Lib.hid (work_iff (work_skip (k := j) WK.out (fun v hv => by rw [lineS, hsa]; exact hp)) HN.out)
          have hpb : ((j : Int) == p) = true := by simpa using hp
          clear hkt hjk hl hends hp
          go_wp2
          go_roundw
          case rel => exact ⟨k + 1, oth, s', by omega, by go_num, ST.out, WK2.out, HLE.out, by omega, HHI.out⟩
          case measure => simp [intOf]; omega
        · have hpb : ((j : Int) == p) = false := by simpa using hp
          obtain ⟨y, hoy, hly, hyn⟩ := other_end HV.out hl hkt hends
          obtain ⟨hw2, hle2, _⟩ := work_mark HA.out HO.out WK.out hly (by rw [lineS, hsa]; exact hp) HFR.out hyn
          have hh2 := hist_mark HHI.out WK.out.mx hly (work_new HA.out HO.out WK.out hly (by rw [lineS, hsa]; exact hp) HFR.out) (by rw [WK.out.sp.len]; exact hyn)
          rw [hsa] at hw2 hle2 hh2
          have HH2 := Lib.hid hh2
          have WK2 := Lib.hid (work_iff hw2 HN.out)
          have HLE2 := Lib.hid hle2
          have HOY := Lib.hid hoy
          have hyl : y < s'.length := by rw [WK.out.sp.len]; exact hyn
          have HYL := Lib.hid hyl
          obtain ⟨f', p', hsy, _⟩ := sup_some hyl
          have HSX := Lib.hid hsx
          have HSY := Lib.hid hsy
          have ii6 : (0 : Int) ≤ (y : Int) := by omega
          have ii7 : (y : Int) < (nb : Int) := by omega
          obtain ⟨q0, q1, _, _⟩ := ST.out.box.two
          clear hkt hjk hl hends hp hw2 hle2 hoy hyl hsx hsy hly hh2
          go_wp2_with fail
          refine (otherEnd_any nb _ m c ls j x _ (by omega) (HR.out.below ST.out.bel)).mono ?_
          rintro e w3 ⟨rfl, hb3⟩
          rw [HOY.out]
          have S3 := Lib.hid (ST.out.next hb3)
          clear c0 c1 q0 q1 e0 g0
          obtain ⟨c0, c1⟩ := S3.out.sup HSX.out
          obtain ⟨d0, d1⟩ := S3.out.sup HSY.out
          have f0 := S3.out.blk.thaw (y * 2)
          have f1 := S3.out.blk.thaw (y * 2 + 1)
          have S4 := Lib.hid (S3.out.put (z1 := f) (z2 := (j : Int)) HYL.out)
          have hle3 : (ofN oth).length ≤ k := by rw [ofN_len]; exact hol
          go_upto_region 8 with fail
          clear c0 c1 d0 d1 f0 f1
          generalize (w3.setCell ⟨g, y * 2, none⟩ (.int .i64 f)).setCell ⟨g, y * 2 + 1, none⟩ (.int .i64 (j : Int)) = w4 at *
          go_wp2_with (
            at_builtin
            refine wpList_append_own _ rfl _ _ _ rfl w1.heap.size 3 i0 (.int .i64 0) 1 8 Tryd.underlying33 HI.out hz0 hz1 hz2 rfl (by decide) _ _ _ rfl (World.ownsRow.alloc S4.out.own _) ⟨w4.heap.size, 0, none⟩ 1 1 [.int .i64 (y : Int)] rfl rfl ?c1 ?c2 ?c3 ?c4 ?c5 ?_
            case c1 => exact cell_one_new _ _ _
            case c2 => intro u hu; simp at hu; subst hu; rfl
            case c3 => simp only [maxLen]; omega
            case c4 => omega
            case c5 => have := S4.out.le; simp; omega
            intro v' w5 hown' hgrow _
            have S5 := Lib.hid (S4.out.push (oth' := oth ++ [y]) (.cells #[.int .i64 (y : Int)] 3) (by rw [ofN_snoc]; simpa [OwnI] using hown') hgrow))
          go_roundw
          case rel => exact ⟨k + 1, oth ++ [y], _, by omega, by go_num, S5.out, by rw [← List.append_assoc]; exact WK2.out, by have := HLE.out; have := HLE2.out; rw [List.length_append, List.length_singleton]; omega, by rw [List.length_append, List.length_singleton]; omega, by rw [← List.append_assoc]; exact HH2.out⟩
          case measure => simp [intOf]; omega
    · obtain rfl : k = lat.length := by omega
      go_wp2
      go_ret
      exact ⟨_, oth, s', rfl, OwnI.more ST.out.own (by omega), ST.out.blk, work_end WK.out (fun j v hj => by rw [List.take_length]; exact HAL.out j v hj), HHI.out, HLE.out, ST.out.gr⟩
end Go.Proofs.YtbhlkcnkijihcaaDoor
