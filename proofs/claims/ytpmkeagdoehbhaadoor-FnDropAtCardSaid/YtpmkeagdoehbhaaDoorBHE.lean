/- Texts joined: The search from all feeds, of the program; The supplies of all buses, of the program; FedBy, ParentLine; PathLines, BelowLine, of the program. -/
import Derived.Test.YtpmkeagdoehbhaaDoorBHD
import Derived.Test.YtpmkeagdoehbhaaDoorBHC
import Derived.Test.YtpmkeagdoehbhaaDoorBFA
import Derived.Test.YtpmkeagdoehbhaaDoorBCB
import Derived.Test.YtpmkeagdoehbhaaDoorA10
import Derived.Test.YtpmkeagdoehbhaaDoorBQA

/- The search from all feeds, of the program. -/
namespace Go.Proofs.YtpmkeagdoehbhaaDoor
open Go.ChangeShapes Go.WideShapes Go.ChangeAt Go.RowKit

/-- The lines that end at a bus. -/
def latN (ls : List L3) (x : Nat) : List Nat := (List.range ls.length).filter fun j => endsB (ls.getD j (0, 0, 0)) (x : Int)
theorem latN_eq {nb : Nat} {ls : List L3} (hv : netOk nb ls = true) (x : Nat) : linesAtF nb ls (x : Int) = ofN (latN ls x) := by rw [linesAtF, if_pos hv]; rfl
theorem latN_len (ls : List L3) (x : Nat) : (latN ls x).length ≤ ls.length := Nat.le_trans (List.length_filter_le _ _) (by simp)
theorem latN_nodup (ls : List L3) (x : Nat) : (latN ls x).Nodup := List.Pairwise.filter _ List.nodup_range
theorem latN_mem {ls : List L3} {x k : Nat} (h : k ∈ latN ls x) : ∃ l, ls[k]? = some l ∧ endsB l (x : Int) = true := by
  rw [latN, List.mem_filter, List.mem_range] at h
  obtain ⟨h1, h2⟩ := h
  have e : ls[k]? = some (ls.getD k (0, 0, 0)) := by rw [List.getD_eq_getElem?_getD, List.getElem?_eq_getElem h1]; rfl
  exact ⟨_, e, h2⟩
theorem latN_all {ls : List L3} {ts : List Bool} {k x v : Nat} (hv : ∃ bs, netOk bs ls = true) (h : Ln ls ts k x v) : k ∈ latN ls x := by
  obtain ⟨bs, hv⟩ := hv
  obtain ⟨l, h1, _, h3⟩ := h
  have h2 := netOk_line hv h1
  simp [lineOk, inB] at h2
  have hlt := (List.getElem?_eq_some_iff.1 h1).1
  have e : ls.getD k (0, 0, 0) = l := by rw [List.getD_eq_getElem?_getD, h1]; rfl
  rw [latN, List.mem_filter, List.mem_range, e]
  refine ⟨hlt, ?_⟩
  simp only [endsB, Bool.or_eq_true, beq_iff_eq]
  omega
theorem latN_fresh {ls : List L3} {x i k : Nat} (h : (latN ls x)[i]? = some k) : k ∉ (latN ls x).take i := by
  intro hm
  obtain ⟨j, hj, e⟩ := List.getElem_of_mem hm
  have hd := latN_nodup ls x
  obtain ⟨hi, e2⟩ := List.getElem?_eq_some_iff.1 h
  simp only [List.length_take] at hj
  rw [List.getElem_take] at e
  have := (List.getElem_inj (h₀ := by omega) (h₁ := hi) hd).1 (e.trans e2.symm)
  omega
theorem latN_step {ls : List L3} {x i k : Nat} (h : (latN ls x)[i]? = some k) (j : Nat) : (j ∈ (latN ls x).take i ∨ j = k) ↔ j ∈ (latN ls x).take (i + 1) := by
  rw [List.take_add_one, h]; simp
theorem other_end {nb : Nat} {ls : List L3} {ts : List Bool} {k x : Nat} {l : L3} (hv : netOk nb ls = true) (hl : ls[k]? = some l) (ht : ts[k]? = some true) (he : endsB l (x : Int) = true) : ∃ y : Nat, otherF nb ls k x = (y : Int) ∧ Ln ls ts k x y ∧ y < nb := by
  rcases otherF_on hv hl ht (x := x) with ⟨o, h1, h2, h3⟩ | ⟨_, h⟩
  · exact ⟨o, h1, h2, h3⟩
  · exfalso
    have h2 := netOk_line hv hl
    simp [lineOk, inB] at h2
    simp only [endsB, Bool.or_eq_true, beq_iff_eq] at he
    rcases he with e | e
    · exact h l.2.1.toNat ⟨l, hl, ht, .inl ⟨by omega, rfl⟩⟩
    · exact h l.1.toNat ⟨l, hl, ht, .inr ⟨by omega, rfl⟩⟩

/-- While a bus's other ends are laid: g the block of the supplies, b2 from where on the list of the others lies. -/
structure OthSt (W0 w wr : World) (g : Nat) (s : List U2) (bs : Int) (n c : Nat) (A : Option Addr) (b2 : Nat) (v : Value) (oth : List Nat) (L : Option Addr) (lat : List Nat) : Prop where
  bel : Below W0.heap.size W0 wr
  gr : w.grownBy wr (some g)
  box : IsBlk wr w.heap.size 25 #[.int .i64 bs, .slice A n c]
  blk : IsBlk wr g 61 (rowArr fU s)
  own : OwnI 3 wr b2 v (ofN oth)
  list : RowZ wr L lat.length (ofN lat)
  lfar : ∀ b off, L = some ⟨b, off, none⟩ → b ≠ g ∧ b < b2
  le : b2 ≤ wr.heap.size
  gl : g < w.heap.size
  g0 : W0.heap.size ≤ g
  wb : w.heap.size < b2
section
variable {W0 w wr w' : World} {g : Nat} {s : List U2} {bs : Int} {n c : Nat} {A : Option Addr} {b2 : Nat} {v : Value} {oth : List Nat} {L : Option Addr} {lat : List Nat}
theorem OthSt.next (h : OthSt W0 w wr g s bs n c A b2 v oth L lat) (hb : Below wr.heap.size wr w') : OthSt W0 w w' g s bs n c A b2 v oth L lat :=
  ⟨h.bel.trans (hb.mono h.bel.size), grown_then h.gr ⟨hb.os, hb.tape, hb.output, hb.size, fun i hi _ => hb.block i hi⟩, h.box.keep hb, h.blk.keep hb, OwnI.keep h.own hb, h.list.below hb, h.lfar, Nat.le_trans h.le hb.size, h.gl, h.g0, h.wb⟩
theorem OthSt.put {y : Nat} {z1 z2 : Int} (h : OthSt W0 w wr g s bs n c A b2 v oth L lat) (hy : y < s.length) : OthSt W0 w ((wr.setCell ⟨g, y * 2, none⟩ (.int .i64 z1)).setCell ⟨g, y * 2 + 1, none⟩ (.int .i64 z2)) g (s.set y (z1, z2)) bs n c A b2 v oth L lat := by
  have g2 : wr.grownBy ((wr.setCell ⟨g, y * 2, none⟩ (.int .i64 z1)).setCell ⟨g, y * 2 + 1, none⟩ (.int .i64 z2)) (some g) := grown_then (grown_put _ _ _ _) (grown_put _ _ _ _)
  have hgw := h.gl
  have hwb := h.wb
  refine ⟨h.bel.grown g2 h.bel.size (fun k hk => by cases hk; exact h.g0), grown_then h.gr g2, h.box.farG g2 (fun e => by injection e with e; omega), ?_, OwnI.far h.own g2 (fun q hq e => by have := (OwnI.lt h.own q hq).1; injection e with e; omega), RowV.grown h.list g2 (fun b off e e2 => by have := (h.lfar b off e).1; injection e2 with e2; omega), h.lfar, by simpa [World.setCell] using h.le, h.gl, h.g0, h.wb⟩
  have hp := putAll_set (f := fU) fU_len (xs := s) hy (z1, z2)
  have hb : IsBlk ((wr.setCell ⟨g, y * 2, none⟩ (.int .i64 z1)).setCell ⟨g, y * 2 + 1, none⟩ (.int .i64 z2)) g 61 (putAll (rowArr fU s) (y * 2) (fU (z1, z2))) := (h.blk.put (y * 2) _).put (y * 2 + 1) _
  rw [hp] at hb
  exact hb
theorem OthSt.push {oth' : List Nat} {v' : Value} (h : OthSt W0 w wr g s bs n c A b2 v oth L lat) (o : Obj) (hown : OwnI 3 w' b2 v' (ofN oth')) (hg : (wr.alloc o).grownBy w' v.ownBlock) : OthSt W0 w w' g s bs n c A b2 v' oth' L lat := by
  have h1 := h.next (below_bx wr o)
  have hgw := h.gl
  have hwb := h.wb
  have hlt : ∀ q, v.ownBlock = some q → b2 ≤ q := fun q hq => (OwnI.lt h.own q hq).1
  have hb : Below b2 (wr.alloc o) w' := (Below.refl b2 _).grown hg h1.le hlt
  have hW : W0.heap.size ≤ b2 := by have := h.g0; omega
  refine ⟨h1.bel.trans (hb.mono hW), ⟨hb.os.trans h1.gr.os, hb.tape.trans h1.gr.tape, hb.output.trans h1.gr.output, Nat.le_trans h1.gr.size hb.size, fun k hk hne => (hb.block k (by omega)).trans (h1.gr.block k hk hne)⟩, h1.box.below hb hwb, h1.blk.below hb (by omega), hown, RowV.grown h1.list hg (fun b off e e2 => by have := (h.lfar b off e).2; have := hlt b e2; omega), h.lfar, Nat.le_trans h1.le hg.size, h.gl, h.g0, h.wb⟩
theorem OthSt.sup {x : Nat} {f p : Int} (h : OthSt W0 w wr g s bs n c A b2 v oth L lat) (hx : s[x]? = some (f, p)) : wr.cell? ⟨g, x * 2, none⟩ = some (.int .i64 f) ∧ wr.cell? ⟨g, x * 2 + 1, none⟩ = some (.int .i64 p) := by
  have hget := rowArr_get (f := fU) fU_len hx
  exact ⟨(h.blk.cell _).trans (hget 0 (by omega)), (h.blk.cell _).trans (hget 1 (by omega))⟩
end
theorem ofN_snoc (zs : List Nat) (y : Nat) : ofN (zs ++ [y]) = ofN zs ++ [(y : Int)] := by simp [ofN]
theorem sup_some {s : List U2} {x : Nat} (hx : x < s.length) : ∃ f p, s[x]? = some (f, p) ∧ supAt s x = (f, p) :=
  ⟨s[x].1, s[x].2, List.getElem?_eq_getElem hx, supAt_get (List.getElem?_eq_getElem hx)⟩

set_option maxRecDepth 100000 in
set_option maxHeartbeats 2000000 in
theorem supplyOthers_any (W0 w : World) (g nb : Nat) (A : Option Addr) (n c : Nat) (ls : List L3) (B : Option Addr) (m d : Nat) (ts : List Bool) (us : List U2) (s : List U2) (x : Nat) (q : List Nat) (dq : List Nat)
    (hW : Below W0.heap.size W0 w) (hg0 : W0.heap.size ≤ g) (hgw : g < w.heap.size) (hr : RowL W0 A n ls) (hrt : RowT W0 B m ts) (hs : stOk nb ls m = true) (ha : Acyc ls ts) (ho : OneFeed (edgesOn ls ts) us)
    (hblk : IsBlk w g 61 (rowArr fU s)) (hq : Queue ls ts us nb s (x :: q)) (hx : x < nb) (hh : Hist ls ts s dq) :
    Calls Tryd.prog 63 #[.agg #[.int .i64 (nb : Int), .slice A n c], .slice B m d, .slice (some ⟨g, 0, none⟩) nb nb, .int .i64 (x : Int)] w fun e w' =>
      ∃ (v : Value) (oth : List Nat) (s' : List U2), e = .returned v ∧ OwnI 3 w' w.heap.size v (ofN oth) ∧ IsBlk w' g 61 (rowArr fU s') ∧ Queue ls ts us nb s' (q ++ oth) ∧ Hist ls ts s' (dq ++ oth) ∧ leftM (markS s') nb + oth.length ≤ leftM (markS s) nb ∧ w.grownBy w' (some g) := by
  obtain ⟨i0, hi, hz0, hz1, hz2⟩ := info_parts intInfo6
  have HI := Lib.hid hi
  have HR := Lib.hid hr
  have HT := Lib.hid hrt
  have HV := Lib.hid (stOk_net hs)
  have HA := Lib.hid ha
  have HO := Lib.hid ho
  have hlen := stOk_len hs
  have hnl := hr.1
  have hml := hrt.len
  have hbs := stOk_bs hs
  obtain rfl : m = n := by omega
  have hn10 : m ≤ 10 := hlen.2
  have hwk := work_start hq
  have HX := Lib.hid hx
  have HBK := Lib.hid hblk
  have HLEN := Lib.hid hq.sp.len
  have HNL := Lib.hid hnl
  have hll := latN_len ls x
  have HE := Lib.hid (latN_eq HV.out x)
  have HM := Lib.hid (fun k (h : k ∈ latN ls x) => latN_mem h)
  have HF := Lib.hid (fun i k (h : (latN ls x)[i]? = some k) => latN_fresh h)
  have HS2 := Lib.hid (fun i k (h : (latN ls x)[i]? = some k) => latN_step h)
  have HAL := Lib.hid (fun k v (h : Ln ls ts k x v) => latN_all ⟨_, HV.out⟩ h)
  have HQ := Lib.hid hwk
  have HH0 := Lib.hid hh
  clear hr hrt hs ha ho hq hblk hwk hi hml hlen hh
  go_enter Tryd.func63, Tryd.ntmps63
  go_wp2_with fail
  refine (linesAt_any nb _ m c ls x _ (by omega) (HR.out.below (hW.trans ((below_bx w _).mono hW.size)))).mono ?_
  rintro e w1 ⟨v1, rfl, hO, hb1⟩
  rw [HE.out] at hO
  generalize latN ls x = lat at *
  have hz1' : w.heap.size < w1.heap.size := by have := hb1.size; simp at this; omega
  have ha1 : Below w.heap.size w w1 := (below_bx w _).trans (hb1.mono (by simp))
  have BX := (IsBlk.new w 25 #[.int .i64 (nb : Int), .slice A m c]).keep hb1
  have hlt1 := OwnI.lt hO
  obtain ⟨L, cL, rfl, hZ⟩ := hO.sl
  rw [ofN_len] at hZ hlt1 ⊢
  have ST0 := Lib.hid (show OthSt W0 w w1 g s nb m c A w1.heap.size (.slice none 0 0) [] L lat from
    ⟨hW.trans (ha1.mono hW.size), ⟨ha1.os, ha1.tape, ha1.output, ha1.size, fun i hi _ => ha1.block i hi⟩, BX, HBK.out.below ha1 hgw, OwnI.nil, hZ, fun b off e => by subst e; have := hlt1 b rfl; simp at this; omega, Nat.le_refl _, hgw, hg0, hz1'⟩)
  clear hO hZ BX hlt1 hb1 ha1 HBK hW HE
  go_wp2
  go_loopw [9, 17] (fun v i wr => ∃ (k : Nat) (oth : List Nat) (s' : List U2), k ≤ lat.length ∧ i = .int .i64 k ∧ OthSt W0 w wr g s' nb m c A w1.heap.size v oth L lat ∧ Work ls ts us nb s' x (fun j => j ∈ lat.take k) (q ++ oth) ∧ leftM (markS s') nb + oth.length ≤ leftM (markS s) nb ∧ oth.length ≤ k ∧ Hist ls ts s' (dq ++ oth)) (fun _ i _ => lat.length - (intOf i).toNat)
  case atStart => exact ⟨0, [], s, by omega, rfl, ST0.out, by simpa using HQ.out, by simp, by simp, by simpa using HH0.out⟩
  case round =>
    obtain ⟨k, oth, s', hk, rfl, hst, hwk, hle, hol, hhi⟩ := hrel
    have ST := Lib.hid hst
    have WK := Lib.hid hwk
    have HLE := Lib.hid hle
    have HHI := Lib.hid hhi
    clear hst hwk hle ST0 HQ hhi HH0
    by_cases hlt : k < lat.length
    · obtain ⟨b, off, z, rfl, hb, hkz, e0⟩ := ST.out.list.at_ hlt
      have hjk : lat[k]? = some (lat[k]'hlt) := List.getElem?_eq_getElem hlt
      generalize lat[k]'hlt = j at hjk
      rw [ofN_get hjk] at hkz
      injection hkz with hkz
      subst hkz
      obtain ⟨l, hl, hends⟩ := HM.out j (List.mem_of_getElem? hjk)
      have hjm : j < m := by have := (List.getElem?_eq_some_iff.1 hl).1; have := HNL.out; omega
      obtain ⟨b', off', t, rfl, hb', hkt, g0⟩ := HT.out.at_ hjm
      rw [← ST.out.bel.cell (p := ⟨b', off' + j, none⟩) hb'] at g0
      have ii0 : (0 : Int) ≤ (k : Int) := by omega
      have ii1 : (k : Int) < (lat.length : Int) := by omega
      have ii2 : (0 : Int) ≤ (j : Int) := by omega
      have ii3 : (j : Int) < (m : Int) := by omega
      have ii4 : (0 : Int) ≤ (x : Int) := by omega
      have ii5 : (x : Int) < (nb : Int) := by omega
      have HN := Lib.hid (fun j' => HS2.out k j hjk j')
      have HFR := Lib.hid (HF.out k j hjk)
      cases t
      · have WK2 := Lib.hid (work_iff (work_skip (k := j) WK.out (fun v hv => by obtain ⟨_, _, h2, _⟩ := hv; rw [hkt] at h2; cases h2)) HN.out)
        clear hkt hjk hl hends
        go_wp2
        go_roundw
        case rel => exact ⟨k + 1, oth, s', by omega, by go_num, ST.out, WK2.out, HLE.out, by omega, HHI.out⟩
        case measure => simp [intOf]; omega
      · obtain ⟨f, p, hsx, hsa⟩ := sup_some (s := s') (x := x) (by rw [WK.out.sp.len]; exact hx)
        obtain ⟨c0, c1⟩ := ST.out.sup hsx
        by_cases hp : (j : Int) = p
        · have WK2 := Lib.hid (work_iff (work_skip (k := j) WK.out (fun v hv => by rw [lineS, hsa]; exact hp)) HN.out)
          have hpb : ((j : Int) == p) = true := by simpa using hp
          clear hkt hjk hl hends hp
          go_wp2
          go_roundw
          case rel => exact ⟨k + 1, oth, s', by omega, by go_num, ST.out, WK2.out, HLE.out, by omega, HHI.out⟩
          case measure => simp [intOf]; omega
        · have hpb : ((j : Int) == p) = false := by simpa using hp
          obtain ⟨y, hoy, hly, hyn⟩ := other_end HV.out hl hkt hends
          obtain ⟨hw2, hle2, _⟩ := work_mark HA.out HO.out WK.out hly (by rw [lineS, hsa]; exact hp) HFR.out hyn
          have hh2 := hist_mark HHI.out WK.out.mx hly (work_new HA.out HO.out WK.out hly (by rw [lineS, hsa]; exact hp) HFR.out) (by rw [WK.out.sp.len]; exact hyn)
          rw [hsa] at hw2 hle2 hh2
          have HH2 := Lib.hid hh2
          have WK2 := Lib.hid (work_iff hw2 HN.out)
          have HLE2 := Lib.hid hle2
          have HOY := Lib.hid hoy
          have hyl : y < s'.length := by rw [WK.out.sp.len]; exact hyn
          have HYL := Lib.hid hyl
          obtain ⟨f', p', hsy, _⟩ := sup_some hyl
          have HSX := Lib.hid hsx
          have HSY := Lib.hid hsy
          have ii6 : (0 : Int) ≤ (y : Int) := by omega
          have ii7 : (y : Int) < (nb : Int) := by omega
          obtain ⟨q0, q1, _, _⟩ := ST.out.box.two
          clear hkt hjk hl hends hp hw2 hle2 hoy hyl hsx hsy hly hh2
          go_wp2_with fail
          refine (otherEnd_any nb _ m c ls j x _ (by omega) (HR.out.below ST.out.bel)).mono ?_
          rintro e w3 ⟨rfl, hb3⟩
          rw [HOY.out]
          have S3 := Lib.hid (ST.out.next hb3)
          clear c0 c1 q0 q1 e0 g0
          obtain ⟨c0, c1⟩ := S3.out.sup HSX.out
          obtain ⟨d0, d1⟩ := S3.out.sup HSY.out
          have f0 := S3.out.blk.thaw (y * 2)
          have f1 := S3.out.blk.thaw (y * 2 + 1)
          have S4 := Lib.hid (S3.out.put (z1 := f) (z2 := (j : Int)) HYL.out)
          have hle3 : (ofN oth).length ≤ k := by rw [ofN_len]; exact hol
          go_upto_region 8 with fail
          clear c0 c1 d0 d1 f0 f1
          generalize (w3.setCell ⟨g, y * 2, none⟩ (.int .i64 f)).setCell ⟨g, y * 2 + 1, none⟩ (.int .i64 (j : Int)) = w4 at *
          go_wp2_with (
            at_builtin
            refine wpList_append_own _ rfl _ _ _ rfl w1.heap.size 3 i0 (.int .i64 0) 1 8 Tryd.underlying28 HI.out hz0 hz1 hz2 rfl (by decide) _ _ _ rfl (World.ownsRow.alloc S4.out.own _) ⟨w4.heap.size, 0, none⟩ 1 1 [.int .i64 (y : Int)] rfl rfl ?c1 ?c2 ?c3 ?c4 ?c5 ?_
            case c1 => exact cell_one_new _ _ _
            case c2 => intro u hu; simp at hu; subst hu; rfl
            case c3 => simp only [maxLen]; omega
            case c4 => omega
            case c5 => have := S4.out.le; simp; omega
            intro v' w5 hown' hgrow _
            have S5 := Lib.hid (S4.out.push (oth' := oth ++ [y]) (.cells #[.int .i64 (y : Int)] 3) (by rw [ofN_snoc]; simpa [OwnI] using hown') hgrow))
          go_roundw
          case rel => exact ⟨k + 1, oth ++ [y], _, by omega, by go_num, S5.out, by rw [← List.append_assoc]; exact WK2.out, by have := HLE.out; have := HLE2.out; rw [List.length_append, List.length_singleton]; omega, by rw [List.length_append, List.length_singleton]; omega, by rw [← List.append_assoc]; exact HH2.out⟩
          case measure => simp [intOf]; omega
    · obtain rfl : k = lat.length := by omega
      go_wp2
      go_ret
      exact ⟨_, oth, s', rfl, OwnI.more ST.out.own (by omega), ST.out.blk, work_end WK.out (fun j v hj => by rw [List.take_length]; exact HAL.out j v hj), HHI.out, HLE.out, ST.out.gr⟩
end Go.Proofs.YtpmkeagdoehbhaaDoor

/- The supplies of all buses, of the program; FedBy, ParentLine. -/
namespace Go.Proofs.YtpmkeagdoehbhaaDoor
open Go.ChangeShapes Go.WideShapes Go.ChangeAt Go.RowKit

theorem supInfo : (Tryd.prog.info? 61).map (fun i => (i.zero, i.size, i.bytes)) = some (some (.agg #[.int .i64 0, .int .i64 0]), 2, 16) := by kernel_rfl
theorem makeSups (n : Nat) (hn : n ≤ 1048576) (w : World) : (Instr.makeSlice 82 (.int .i64 (n : Int)) (.int .i64 (n : Int))).run Tryd.prog w = .ok (.slice (some ⟨w.heap.size, 0, none⟩) n n) (w.alloc (.cells (rowArr fU (List.replicate n (0, 0))) 61)) := by
  obtain ⟨i0, hi, hz0, hz1, hz2⟩ := info_parts supInfo
  have := run_make (P := Tryd.prog) w 82 61 i0 _ Tryd.underlying82 hi hz0 .i64 .i64 n n (by omega) (by omega) (by rw [hz2]; omega) (by omega)
  rw [this, Int.toNat_natCast, hz1, madeCells_row (f := fU) fU_len (Value.agg #[.int .i64 0, .int .i64 0]).cells (0, 0) rfl (by omega)]
theorem sib_same (arr : Array Value) {i : Nat} {v : Value} (h : arr[i]? = some v) : arr.setIfInBounds i v = arr := by
  apply Array.ext'
  rw [Array.toList_setIfInBounds]
  rw [← Array.getElem?_toList] at h
  apply List.ext_getElem?
  intro j
  rw [List.getElem?_set]
  by_cases e : i = j
  · subst e
    have := (List.getElem?_eq_some_iff.1 h).1
    rw [if_pos rfl, if_pos this, h]
  · rw [if_neg e]
theorem row_put0 {xs : List U2} {k : Nat} {f p : Int} (h : xs[k]? = some (f, p)) (a : Int) : (rowArr fU xs).setIfInBounds (k * 2) (.int .i64 a) = rowArr fU (xs.set k (a, p)) := by
  have hk := (List.getElem?_eq_some_iff.1 h).1
  have hp := putAll_set (f := fU) fU_len (xs := xs) hk (a, p)
  rw [← hp]
  show _ = ((rowArr fU xs).setIfInBounds (k * 2) (.int .i64 a)).setIfInBounds (k * 2 + 1) (.int .i64 p)
  refine (sib_same _ ?_).symm
  rw [Array.getElem?_setIfInBounds_ne (by omega)]
  exact rowArr_get (f := fU) fU_len h 1 (by omega)
theorem leftM_congr {m m' : Nat → Bool} {nb : Nat} (h : ∀ b, b < nb → m b = m' b) : leftM m nb = leftM m' nb := by
  unfold leftM leftN
  exact List.countP_congr fun b hb => by simp only [h b (List.mem_range.1 hb)]
def lenV : Value → Nat
  | .slice _ n _ => n
  | _ => 0
/-- How much the search has left: buses that are not marked, and the queue. -/
def muQ (g nb : Nat) (v : Value) (w : World) : Nat := leftM (fun b => decide (0 ≤ intOf ((w.cell? ⟨g, b * 2, none⟩).getD undef))) nb + lenV v
theorem muQ_eq {w : World} {g nb n c : Nat} {A : Option Addr} {t : TypeId} {s : List U2} (h : IsBlk w g t (rowArr fU s)) (hl : s.length = nb) : muQ g nb (.slice A n c) w = leftM (markS s) nb + n := by
  unfold muQ lenV
  congr 1
  refine leftM_congr fun b hb => ?_
  have hg : s[b]? = some s[b] := List.getElem?_eq_getElem (by omega)
  have hget := rowArr_get (f := fU) fU_len hg
  have e := (h.cell (b * 2)).trans (hget 0 (by omega))
  rw [e, markS, supAt_get hg]; rfl
theorem mark_lt {s : List U2} {b nb : Nat} (h : markS s b = true) (hl : s.length = nb) : b < nb := by
  rcases Nat.lt_or_ge b nb with h2 | h2
  · exact h2
  · unfold markS supAt at h
    rw [List.getD_eq_getElem?_getD, List.getElem?_eq_none (by omega)] at h
    simp at h

theorem grownBy_drew (w : World) (row : Option Nat) : w.grownBy w.drew row := ⟨rfl, rfl, rfl, Nat.le_refl _, fun _ _ _ => rfl⟩
theorem grown_below {w w' : World} {g : Nat} (hg : g ≤ w.heap.size) (h : w.grownBy w' (some g)) : Below g w w' := (Below.refl g w).grown h hg (fun k hk => by cases hk; exact Nat.le_refl _)
theorem holdB {w w' : World} {X g : Nat} {u v : Value} (p0 : w.cell? ⟨X, 0, none⟩ = some u) (p1 : w.cell? ⟨X, 1, none⟩ = some v) (hX : X < g) (hb : Below g w w') :
    Below g w w' ∧ w'.cell? ⟨X, 0, none⟩ = some u ∧ w'.cell? ⟨X, 1, none⟩ = some v :=
  ⟨hb, (hb.cell (p := ⟨X, 0, none⟩) hX).trans p0, (hb.cell (p := ⟨X, 1, none⟩) hX).trans p1⟩
theorem suppliesOf_bad (bs : Int) (A : Option Addr) (n c : Nat) (ls : List L3) (B : Option Addr) (m d : Nat) (ts : List Bool) (U : Option Addr) (q r : Nat) (us : List U2) (w : World) (hn : n ≤ 1048576) (hr : RowL w A n ls) (hm : m ≤ 1048576) (hrt : RowT w B m ts) (hq : q ≤ 1048576) (hu : RowU w U q us)
    (h : radF bs ls ts us = false) :
    Calls Tryd.prog 50 #[.agg #[.int .i64 bs, .slice A n c], .slice B m d, .slice U q r] w fun e w' => e = .returned (.tuple #[.slice none 0 0, .slice none 0 0]) ∧ Below w.heap.size w w' := by
  have hbx := below_bx w (.cells #[.int .i64 bs, .slice A n c] 25)
  go_enter Tryd.func50, Tryd.ntmps50
  go_wp2_with fail
  refine (radial_any bs _ n c ls _ m d ts _ q r us _ hn (hr.below hbx) hm (hrt.below hbx) hq (hu.below hbx)).mono ?_
  rintro e w1 ⟨rfl, hb1⟩
  rw [h]
  go_wp2
  go_ret2
  exact ⟨rfl, hbx.trans (hb1.mono (by simp))⟩

set_option maxRecDepth 100000 in
set_option maxHeartbeats 2000000 in
theorem suppliesOf_ok (nb : Nat) (A : Option Addr) (n c : Nat) (ls : List L3) (B : Option Addr) (m d : Nat) (ts : List Bool) (U : Option Addr) (q r : Nat) (us : List U2) (w : World) (hn : n ≤ 1048576) (hr : RowL w A n ls) (hm : m ≤ 1048576) (hrt : RowT w B m ts) (hq : q ≤ 1048576) (hu : RowU w U q us)
    (h : radF nb ls ts us = true) :
    Calls Tryd.prog 50 #[.agg #[.int .i64 (nb : Int), .slice A n c], .slice B m d, .slice U q r] w fun e w' => ∃ g A' c' zs, e = .returned (.tuple #[.slice (some ⟨g, 0, none⟩) nb nb, .slice A' zs.length c']) ∧ w.heap.size ≤ g ∧ IsBlk w' g 61 (rowArr fU (supF ls ts us nb)) ∧ Below w.heap.size w w' ∧ RowZ w' A' zs.length (ofN zs) ∧ Ord ls ts us zs ∧ zs.length ≤ nb ∧ ∀ b ∈ zs, b < nb := by
  obtain ⟨i0, hi, hz0, hz1, hz2⟩ := info_parts intInfo6
  have HI := Lib.hid hi
  have HR := Lib.hid hr
  have HT := Lib.hid hrt
  have HU := Lib.hid hu
  have HH := Lib.hid h
  obtain ⟨hok, ha, ho⟩ := radF_iff.1 h
  have HA := Lib.hid ha
  have HO := Lib.hid ho
  have hs := okU_st hok
  have hbu := okU_bu hok
  have hbs := okU_bs hok
  have hnb : nb ≤ 8 := by omega
  have hqn : q = nb := by have := busesOk_len hbu; have := hu.len; omega
  subst hqn
  have HUL := Lib.hid hu.len
  have HS := Lib.hid (show stOk q ls m = true by rw [← hrt.len]; exact hs)
  have hmk := makeSups q (by omega)
  have hbx := below_bx w (.cells #[.int .i64 (q : Int), .slice A n c] 25)
  have BX0 := Lib.hid (IsBlk.new w 25 #[.int .i64 (q : Int), .slice A n c])
  clear hr hrt hu h hok ha ho hs hbu hi
  go_enter Tryd.func50, Tryd.ntmps50
  go_wp2_with fail
  refine (radial_any q _ n c ls _ m d ts _ q r us _ hn (HR.out.below hbx) hm (HT.out.below hbx) hq (HU.out.below hbx)).mono ?_
  rintro e w1 ⟨rfl, hb1⟩
  rw [HH.out]
  have a1 : Below w.heap.size w w1 := hbx.trans (hb1.mono (by simp))
  have BX := Lib.hid (BX0.out.keep hb1)
  have hwg : w.heap.size < w1.heap.size := BX.out.lt
  have HU1 := Lib.hid (HU.out.below a1)
  clear hbx BX0 hb1 HU
  obtain ⟨p0, p1, _, _⟩ := BX.out.two
  go_wp2
  clear hmk
  go_loopw [9, 22] (fun v i wr => ∃ k : Nat, k ≤ q ∧ i = .int .i64 k ∧ Below w1.heap.size w1 wr ∧ IsBlk wr w1.heap.size 61 (rowArr fU (sup0 us q k)) ∧ OwnI 3 wr (w1.heap.size + 1) v (ofN (feedsTo us k)) ∧ w1.heap.size + 1 ≤ wr.heap.size) (fun _ i _ => q - (intOf i).toNat)
  case atStart => exact ⟨0, by omega, rfl, below_bx _ _, by rw [sup0_zero]; exact IsBlk.new w1 _ _, OwnI.nil, by simp⟩
  case round =>
    obtain ⟨k, hk, rfl, hbel, hblk, hown, hsz⟩ := hrel
    have KB := Lib.hid hblk
    have KO := Lib.hid hown
    clear hblk hown
    by_cases hlt : k < q
    · obtain ⟨b', off', u, rfl, hb', hku, g0, g1⟩ := HU1.out.at_ hlt
      have hfd := fd_at hku
      have hgo := sup0_get (us := us) (nb := q) (k := k) hlt
      have hget := rowArr_get (f := fU) fU_len hgo
      generalize (if k < k then (if 0 < fd us k then ((k : Int), (-1 : Int)) else (-1, -1)) else (0, 0)) = z at hgo hget
      have c0 : wr.cell? ⟨w1.heap.size, k * 2, none⟩ = some (.int .i64 z.1) := (KB.out.cell _).trans (hget 0 (by omega))
      have c1 : wr.cell? ⟨w1.heap.size, k * 2 + 1, none⟩ = some (.int .i64 z.2) := (KB.out.cell _).trans (hget 1 (by omega))
      have f0 := KB.out.thaw (k * 2)
      have f1 := KB.out.thaw (k * 2 + 1)
      have ii0 : (0 : Int) ≤ (k : Int) := by omega
      have ii1 : (k : Int) < (q : Int) := by omega
      have hp := putAll_set (f := fU) fU_len (xs := sup0 us q k) (k := k) (by rw [sup0_len]; exact hlt) (-1, -1)
      have KB2 := Lib.hid (show IsBlk ((wr.setCell ⟨w1.heap.size, k * 2, none⟩ (.int .i64 (-1))).setCell ⟨w1.heap.size, k * 2 + 1, none⟩ (.int .i64 (-1))) w1.heap.size 61 (rowArr fU ((sup0 us q k).set k (-1, -1))) from by
        rw [← hp]; exact (KB.out.put (k * 2) (.int .i64 (-1))).put (k * 2 + 1) (.int .i64 (-1)))
      have gr2 : wr.grownBy ((wr.setCell ⟨w1.heap.size, k * 2, none⟩ (.int .i64 (-1))).setCell ⟨w1.heap.size, k * 2 + 1, none⟩ (.int .i64 (-1))) (some w1.heap.size) := grown_then (grown_put _ _ _ _) (grown_put _ _ _ _)
      have HB2 := Lib.hid (hbel.grown gr2 hbel.size (fun k hk => by cases hk; exact Nat.le_refl _))
      have KO2 := Lib.hid (OwnI.far KO.out gr2 (fun q hq e => by have := (OwnI.lt KO.out q hq).1; injection e with e; omega))
      have hsz2 : w1.heap.size + 1 ≤ ((wr.setCell ⟨w1.heap.size, k * 2, none⟩ (.int .i64 (-1))).setCell ⟨w1.heap.size, k * 2 + 1, none⟩ (.int .i64 (-1))).heap.size := by simpa [World.setCell] using hsz
      have hs0 := sup0_succ (us := us) (nb := q) (k := k)
      have HS0 := Lib.hid hs0
      clear hku g1 hgo hget gr2 hp hs0
      go_upto_region 9 with fail
      generalize (wr.setCell ⟨w1.heap.size, k * 2, none⟩ (.int .i64 (-1))).setCell ⟨w1.heap.size, k * 2 + 1, none⟩ (.int .i64 (-1)) = w2 at *
      clear c0 c1 f0 f1 hbel
      rw [← HB2.out.cell (p := ⟨b', off' + k * 2, none⟩) hb'] at g0
      by_cases hf : 0 < u.1
      · have hyes : 0 < fd us k := by rw [hfd]; exact hf
        have HY := Lib.hid (feedsTo_yes hyes)
        rw [if_pos hyes] at HS0
        have hs1 : ((sup0 us q k).set k (-1, -1))[k]? = some (-1, -1) := List.getElem?_set_self (by rw [sup0_len]; exact hlt)
        have c0 : w2.cell? ⟨w1.heap.size, k * 2, none⟩ = some (.int .i64 (-1)) := (KB2.out.cell _).trans (rowArr_get (f := fU) fU_len hs1 0 (by omega))
        have f0 := KB2.out.thaw (k * 2)
        have hrp := row_put0 hs1 (k : Int)
        rw [List.set_set] at hrp
        have KB3 := Lib.hid (show IsBlk (w2.setCell ⟨w1.heap.size, k * 2, none⟩ (.int .i64 (k : Int))) w1.heap.size 61 (rowArr fU (sup0 us q (k + 1))) from by rw [HS0.out, ← hrp]; exact KB2.out.put _ _)
        have gr3 : w2.grownBy (w2.setCell ⟨w1.heap.size, k * 2, none⟩ (.int .i64 (k : Int))) (some w1.heap.size) := grown_put _ _ _ _
        have HB3 := Lib.hid (HB2.out.grown gr3 HB2.out.size (fun k hk => by cases hk; exact Nat.le_refl _))
        have KO3 := Lib.hid (OwnI.far KO2.out gr3 (fun q hq e => by have := (OwnI.lt KO2.out q hq).1; injection e with e; omega))
        have hsz3 : w1.heap.size + 1 ≤ (w2.setCell ⟨w1.heap.size, k * 2, none⟩ (.int .i64 (k : Int))).heap.size := by simpa [World.setCell] using hsz2
        have hle3 : (ofN (feedsTo us k)).length ≤ k := by rw [ofN_len]; exact feedsTo_len us k
        clear hs1 hrp gr3 hyes hfd
        go_upto_region 11 with fail
        generalize w2.setCell ⟨w1.heap.size, k * 2, none⟩ (.int .i64 (k : Int)) = w3 at *
        go_wp2_with (
          at_builtin
          refine wpList_append_own _ rfl _ _ _ rfl (w1.heap.size + 1) 3 i0 (.int .i64 0) 1 8 Tryd.underlying28 HI.out hz0 hz1 hz2 rfl (by decide) _ _ _ rfl (World.ownsRow.alloc KO3.out _) ⟨w3.heap.size, 0, none⟩ 1 1 [.int .i64 (k : Int)] rfl rfl ?c1 ?c2 ?c3 ?c4 ?c5 ?_
          case c1 => exact cell_one_new _ _ _
          case c2 => intro u hu; simp at hu; subst hu; rfl
          case c3 => simp only [maxLen]; omega
          case c4 => omega
          case c5 => simp; omega
          intro v' w4 hown' hgrow _
          have hlt4 : ∀ q, (_ : Value).ownBlock = some q → w1.heap.size + 1 ≤ q := fun q hq => (World.ownsRow.lt KO3.out q hq).1
          have hb4 : Below (w1.heap.size + 1) w3 w4 := ((Below.refl _ w3).alloc hsz3 _).grown hgrow (by simp; omega) hlt4)
        go_roundw
        case rel => exact ⟨k + 1, by omega, by go_num, HB3.out.trans (hb4.mono (by omega)), KB3.out.below hb4 (by omega), by rw [HY.out, ofN_snoc]; simpa [OwnI] using hown', Nat.le_trans hsz3 hb4.size⟩
        case measure => simp [intOf]; omega
      · have hno : ¬ 0 < fd us k := by rw [hfd]; exact hf
        have HY := Lib.hid (feedsTo_no hno)
        rw [if_neg hno] at HS0
        clear hno hfd
        go_wp2
        go_roundw
        case rel => exact ⟨k + 1, by omega, by go_num, HB2.out, by rw [HS0.out]; exact KB2.out, by rw [HY.out]; exact KO2.out, hsz2⟩
        case measure => simp [intOf]; omega
    · obtain rfl : k = q := by omega
      have Q0 := Lib.hid (queue_start (ls := ls) (ts := ts) HUL.out)
      have HH0 := Lib.hid (hist_start (ls := ls) (ts := ts) HUL.out)
      have KQ := Lib.hid (OwnQ.of_own KO.out)
      clear KO
      generalize hg : w1.heap.size = g at *
      go_wp2
      go_loopw [9, 11] (fun v i wx => ∃ (s : List U2) (z : List Nat) (j : Nat), i = .int .i64 j ∧ j ≤ z.length ∧ Queue ls ts us k s (z.drop j) ∧ Hist ls ts s z ∧ IsBlk wx g 61 (rowArr fU s) ∧ OwnQ wx (g + 1) v (ofN z) ∧ Below g w1 wx ∧ g + 1 ≤ wx.heap.size) (fun _ i _ => k - (intOf i).toNat)
      case atStart => exact ⟨_, _, 0, rfl, by omega, Q0.out, HH0.out, KB.out, KQ.out, hbel, hsz⟩
      case round =>
        obtain ⟨s, z, j, rfl, hj, hqu, hhi, hblk, hown, hbel2, hsz2⟩ := hrel
        have KB2 := Lib.hid hblk
        have QU := Lib.hid hqu
        have HI2 := Lib.hid hhi
        have BX2 := BX.out.below hbel2 hwg
        clear p0 p1
        obtain ⟨p0, p1, _, _⟩ := BX2.two
        have hzm : ∀ b ∈ z, b < k := fun b hb => mark_lt ((hhi.me b).2 hb) hqu.sp.len
        have hzl : z.length ≤ k := nodup_len hhi.nd hzm
        have hwx : w.heap.size < wr.heap.size := by omega
        by_cases hlt : j < z.length
        · have hzj : z[j]? = some z[j] := List.getElem?_eq_getElem hlt
          have hdr : z.drop j = z[j] :: z.drop (j + 1) := List.drop_eq_getElem_cons hlt
          generalize z[j] = x at hzj hdr
          rw [hdr] at hqu
          obtain ⟨G, off, c9, rfl, hG, hGl, e0⟩ := hown.at_ (ofN_get hzj)
          have KQ1 := Lib.hid hown
          rw [ofN_len] at KQ1 ⊢
          have QU1 := Lib.hid hqu
          have hxk : x < k := hzm x (List.mem_of_getElem? hzj)
          have HXK := Lib.hid hxk
          have HB3 := Lib.hid (show Below w.heap.size w wr from a1.trans (hbel2.mono (by omega)))
          have HDR := Lib.hid (fun (oth : List Nat) => (List.drop_append_of_le_length (l₂ := oth) (show j + 1 ≤ z.length by omega)))
          have HZJ := Lib.hid (ofN_get hzj)
          have ii0 : (0 : Int) ≤ (j : Int) := by omega
          have ii1 : (j : Int) < (z.length : Int) := by omega
          clear hqu hhi hblk BX2 hbel Q0 HH0 KB KQ hown hdr hzj QU hzm
          go_upto_region 16 with fail
          go_region_held3 (fun w' => Below g wr w' ∧ w'.cell? ⟨w.heap.size, 0, none⟩ = some (.int .i64 (k : Int)) ∧ w'.cell? ⟨w.heap.size, 1, none⟩ = some (.slice A n c) ∧ w'.cell? ⟨G, off + j, none⟩ = some (.int .i64 (x : Int)))
            (first | exact ⟨Below.refl _ _, p0, p1, e0⟩ | exact ⟨hbb6, hS6⟩ | exact ⟨hbb5, hS5⟩ | exact ⟨Below.drew (Below.refl _ _), p0, p1, e0⟩)
            (first
              | (go_at_call 63; (with_reducible refine (supplyOthers_any w _ g k A n c ls B m d ts us s x (z.drop (j + 1)) z ?_ ?_ ?_ HR.out HT.out HS.out HA.out HO.out ?_ QU1.out HXK.out HI2.out).mono ?_)
                 · exact HB3.out.drew
                 · omega
                 · exact (show g < wr.heap.size by omega)
                 · exact KB2.out
                 rintro e w5 ⟨u, oth, s5, rfl, hou, hblk5, hqu5, hhi5, hle5, hgr0⟩
                 have hgr5 : wr.grownBy w5 (some g) := grown_then (grownBy_drew _ _) hgr0
                 have hbb5 := grown_below (show g ≤ wr.heap.size by omega) hgr5
                 have hsz5 := hgr5.size
                 have hS5 : w5.cell? ⟨w.heap.size, 0, none⟩ = some (.int .i64 (k : Int)) ∧ w5.cell? ⟨w.heap.size, 1, none⟩ = some (.slice A n c) ∧ w5.cell? ⟨G, off + j, none⟩ = some (.int .i64 (x : Int)) :=
                   ⟨(hbb5.cell (p := ⟨w.heap.size, 0, none⟩) hwg).trans p0, (hbb5.cell (p := ⟨w.heap.size, 1, none⟩) hwg).trans p1, (World.cell?_of_block (a := ⟨G, off + j, none⟩) (hgr5.block G hGl (fun e => by injection e with e; omega))).trans e0⟩
                 have hlen5 : (z ++ oth).length ≤ k := nodup_len hhi5.nd (fun b hb => mark_lt ((hhi5.me b).2 hb) hqu5.sp.len))
              | (rw [if_pos (by rfl)]; refine wp_append_q (.tmp 51) (.tmp 59) rfl (g + 1) _ (.slice (some ⟨G, off, none⟩) z.length c9) _ (ofN z) (ofN oth) rfl rfl ?_ hou ?_ ?_ ?_
                 · exact OwnQ.keep KQ1.out (fun i h1 h2 => hgr5.block i h2 (fun e => by injection e with e; omega))
                 · omega
                 · rw [ofN_len, ofN_len, ← List.length_append]; omega
                 intro v6 w6 hq6 hb6 hqo6
                 have hbb6 : Below g wr w6 := hbb5.trans (hb6.mono (by omega))
                 have hS6 : w6.cell? ⟨w.heap.size, 0, none⟩ = some (.int .i64 (k : Int)) ∧ w6.cell? ⟨w.heap.size, 1, none⟩ = some (.slice A n c) ∧ w6.cell? ⟨G, off + j, none⟩ = some (.int .i64 (x : Int)) :=
                   ⟨(hbb6.cell (p := ⟨w.heap.size, 0, none⟩) hwg).trans p0, (hbb6.cell (p := ⟨w.heap.size, 1, none⟩) hwg).trans p1, by
                     obtain ⟨G', off', c', e', _, _, hc'⟩ := hqo6.at_ HZJ.out
                     injection e' with e1 e2 e3
                     injection e1 with e1
                     injection e1 with e1 e4
                     subst e1 e4
                     exact hc'⟩)
              | (refine wp_append_q (.tmp 51) (.tmp 59) rfl (g + 1) _ (.slice (some ⟨G, off, none⟩) z.length c9) _ (ofN z) (ofN oth) rfl rfl ?_ hou ?_ ?_ ?_
                 · exact OwnQ.keep KQ1.out (fun i h1 h2 => hgr5.block i h2 (fun e => by injection e with e; omega))
                 · omega
                 · rw [ofN_len, ofN_len, ← List.length_append]; omega
                 intro v6 w6 hq6 hb6 hqo6
                 have hbb6 : Below g wr w6 := hbb5.trans (hb6.mono (by omega))
                 have hS6 : w6.cell? ⟨w.heap.size, 0, none⟩ = some (.int .i64 (k : Int)) ∧ w6.cell? ⟨w.heap.size, 1, none⟩ = some (.slice A n c) ∧ w6.cell? ⟨G, off + j, none⟩ = some (.int .i64 (x : Int)) :=
                   ⟨(hbb6.cell (p := ⟨w.heap.size, 0, none⟩) hwg).trans p0, (hbb6.cell (p := ⟨w.heap.size, 1, none⟩) hwg).trans p1, by
                     obtain ⟨G', off', c', e', _, _, hc'⟩ := hqo6.at_ HZJ.out
                     injection e' with e1 e2 e3
                     injection e1 with e1
                     injection e1 with e1 e4
                     subst e1 e4
                     exact hc'⟩))
          have HQ6 := Lib.hid hq6
          have HHI5 := Lib.hid hhi5
          have HQU5 := Lib.hid (show Queue ls ts us k s5 ((z ++ oth).drop (j + 1)) by rw [HDR.out]; exact hqu5)
          have HK6 := Lib.hid (hblk5.below hb6 (show g < g + 1 by omega))
          have HSZ6 := Lib.hid hb6.size
          clear hq6 hle5 hqu5 hou hblk5 hb6 hgr0 hgr5 hS5 hS6 hqo6 hhi5
          go_wp2
          go_roundw
          case rel => exact ⟨s5, z ++ oth, j + 1, by go_num, by rw [List.length_append]; omega, HQU5.out, HHI5.out, HK6.out, by simpa [ofN] using HQ6.out, hbel2.trans hbb6, by have := HSZ6.out; omega⟩
          case measure => simp [intOf]; omega
        · obtain rfl : j = z.length := by omega
          obtain ⟨A9, c9, rfl, hz9⟩ := hown.sl
          rw [ofN_len] at hz9 ⊢
          rw [List.drop_length] at hqu
          have HQE := Lib.hid (queue_end HA.out HO.out HUL.out hqu)
          have HZ9 := Lib.hid hz9
          have HZM := Lib.hid hzm
          have hii : ¬ ((z.length : Int) < (z.length : Int)) := by omega
          clear hqu hblk BX2 hbel Q0 HH0 KB KQ hown hhi QU hz9 hzm
          go_wp2
          go_ret2
          refine ⟨g, _, _, z, rfl, by omega, by rw [← HQE.out]; exact KB2.out, a1.trans (hbel2.mono (by omega)), HZ9.out, ?_, hzl, HZM.out⟩
          refine hist_end HO.out HUL.out (fun b hb => ?_) (by rw [← HQE.out]; exact HI2.out)
          obtain ⟨f, hf, hc⟩ := hb
          exact conn_lt HS.out (by have := fd_lt hf; have := HUL.out; omega) hc

theorem supplyOf_any (bs : Int) (A : Option Addr) (n c : Nat) (ls : List L3) (B : Option Addr) (m d : Nat) (ts : List Bool) (U : Option Addr) (q r : Nat) (us : List U2) (bus : Int) (w : World) (hn : n ≤ 1048576) (hr : RowL w A n ls) (hm : m ≤ 1048576) (hrt : RowT w B m ts) (hq : q ≤ 1048576) (hu : RowU w U q us) :
    Calls Tryd.prog 34 #[.agg #[.int .i64 bs, .slice A n c], .slice B m d, .slice U q r, .int .i64 bus] w fun e w' => e = .returned (.agg #[.int .i64 (fbyF bs ls ts us bus), .int .i64 (plnF bs ls ts us bus)]) ∧ Below w.heap.size w w' := by
  have HR := Lib.hid hr
  have HT := Lib.hid hrt
  have HU := Lib.hid hu
  have b0 : Below w.heap.size w ((w.alloc (.cells #[.int .i64 bs, .slice A n c] 25)).alloc (.cells #[.int .i64 0, .int .i64 0] 61)) := (below_bx w _).alloc (by simp) _
  have K0 := Lib.hid (IsBlk.new (w.alloc (.cells #[.int .i64 bs, .slice A n c] 25)) 61 #[.int .i64 0, .int .i64 0])
  clear hr hrt hu
  cases hrad : radF bs ls ts us
  · have e1 : fbyF bs ls ts us bus = -1 := by rw [fbyF, if_neg (by rw [hrad]; simp)]
    have e2 : plnF bs ls ts us bus = -1 := by rw [plnF, if_neg (by rw [hrad]; simp)]
    rw [e1, e2]
    have HO := Lib.hid hrad
    clear hrad e1 e2
    go_enter Tryd.func34, Tryd.ntmps34
    go_wp2_with fail
    refine (suppliesOf_bad bs _ n c ls _ m d ts _ q r us _ hn (HR.out.below b0) hm (HT.out.below b0) hq (HU.out.below b0) HO.out).mono ?_
    rintro e w1 ⟨rfl, hb1⟩
    obtain ⟨p0, p1, p2, p3⟩ := (K0.out.keep hb1).two
    simp only [World.size_alloc] at p0 p1 p2 p3
    have hw : inB bus 0 (-1) = false := by rw [Bool.eq_false_iff]; intro h; simp [inB] at h; omega
    go_wp2_with fail
    refine (within_any bus 0 (-1) _).mono ?_
    rintro e w2 ⟨rfl, rfl⟩
    rw [hw]
    go_wp2
    refine bodyPost_ret (v := .agg #[.int .i64 (-1), .int .i64 (-1)]) (by simp [results, Tryd.results34, go_sem, p0, p1]) rfl ⟨rfl, ?_⟩
    exact ((b0.trans (hb1.mono b0.size)).setCell (by simp) _).setCell (by simp) _
  · have hbs := okU_bs (radF_iff.1 hrad).1
    obtain ⟨nb, rfl⟩ := Int.eq_ofNat_of_zero_le (show 0 ≤ bs by omega)
    have hnb : nb ≤ 8 := by omega
    have HO := Lib.hid hrad
    clear hrad hbs
    go_enter Tryd.func34, Tryd.ntmps34
    go_wp2_with fail
    refine (suppliesOf_ok nb _ n c ls _ m d ts _ q r us _ hn (HR.out.below b0) hm (HT.out.below b0) hq (HU.out.below b0) HO.out).mono ?_
    rintro e w1 ⟨g, Aq, cq, zs, rfl, hg, hblk, hb1, _, _, _, _⟩
    have a1 := b0.trans (hb1.mono b0.size)
    obtain ⟨p0, p1, p2, p3⟩ := (K0.out.keep hb1).two
    simp only [World.size_alloc] at p0 p1 p2 p3
    have HBK := Lib.hid hblk
    clear hblk
    have hwr : IntKind.i64.wrap ((nb : Int) - 1) = (nb : Int) - 1 := IntWalk.i64_in _ (by omega)
    cases hw : inB bus 0 ((nb : Int) - 1)
    · have E1 := Lib.hid (show fbyF nb ls ts us bus = -1 by rw [fbyF, if_neg (by rw [hw]; simp)])
      have E2 := Lib.hid (show plnF nb ls ts us bus = -1 by rw [plnF, if_neg (by rw [hw]; simp)])
      go_wp2_with fail
      refine (within_any bus 0 _ _).mono ?_
      rintro e w2 ⟨rfl, rfl⟩
      rw [hw]
      clear hwr
      go_wp2
      refine bodyPost_ret (v := .agg #[.int .i64 (-1), .int .i64 (-1)]) (by simp [results, Tryd.results34, go_sem, p0, p1]) rfl ⟨by rw [E1.out, E2.out], ?_⟩
      exact (a1.setCell (by simp) _).setCell (by simp) _
    · have hw2 := hw
      simp only [inB, Bool.and_eq_true, decide_eq_true_eq] at hw2
      obtain ⟨b, rfl⟩ := Int.eq_ofNat_of_zero_le hw2.1
      have hb : b < nb := by omega
      have E1 := Lib.hid (show fbyF nb ls ts us b = feedOf (edgesOn ls ts) nb us b by rw [fbyF, if_pos ⟨HO.out, hw⟩]; rfl)
      have E2 := Lib.hid (show plnF nb ls ts us b = hd1 (wayF ls ts us b) by rw [plnF, if_pos ⟨HO.out, hw⟩]; rfl)
      have hget := rowArr_get (f := fU) fU_len (supF_get (ls := ls) (ts := ts) (us := us) hb)
      have c0 := (HBK.out.cell (b * 2)).trans (hget 0 (by omega))
      have c1 := (HBK.out.cell (b * 2 + 1)).trans (hget 1 (by omega))
      simp only [fU] at c0 c1
      generalize feedOf (edgesOn ls ts) nb us b = X at *
      generalize hd1 (wayF ls ts us b) = Y at *
      replace c0 : w1.cell? ⟨g, b * 2, none⟩ = some (.int .i64 X) := c0
      replace c1 : w1.cell? ⟨g, b * 2 + 1, none⟩ = some (.int .i64 Y) := c1
      have ii0 : (0 : Int) ≤ (b : Int) := by omega
      have ii1 : (b : Int) < (nb : Int) := by omega
      clear hget hw2
      go_wp2_with fail
      refine (within_any _ 0 _ _).mono ?_
      rintro e w2 ⟨rfl, rfl⟩
      rw [hw]
      clear hwr hw
      go_wp2
      refine bodyPost_ret (v := .agg #[.int .i64 X, .int .i64 Y]) (by simp [results, Tryd.results34, go_sem, p0, p1]) rfl ⟨by rw [E1.out, E2.out], ?_⟩
      exact (a1.setCell (by simp) _).setCell (by simp) _

theorem parentLine_any (bs : Int) (A : Option Addr) (n c : Nat) (ls : List L3) (B : Option Addr) (m d : Nat) (ts : List Bool) (U : Option Addr) (q r : Nat) (us : List U2) (bus : Int) (w : World) (hn : n ≤ 1048576) (hr : RowL w A n ls) (hm : m ≤ 1048576) (hrt : RowT w B m ts) (hq : q ≤ 1048576) (hu : RowU w U q us) :
    Calls Tryd.prog 12 #[.agg #[.int .i64 bs, .slice A n c], .slice B m d, .slice U q r, .int .i64 bus] w fun e w' => e = .returned (.int .i64 (plnF bs ls ts us bus)) ∧ Below w.heap.size w w' := by
  have b0 := below_bx w (.cells #[.int .i64 bs, .slice A n c] 25)
  have hfd : ∀ (x y : Int) (w : World), (Instr.field 61 (.agg #[.int .i64 x, .int .i64 y]) 1).run Tryd.prog w = .ok (.int .i64 y) w := fun _ _ _ => by kernel_rfl
  go_enter Tryd.func12, Tryd.ntmps12
  go_wp2_with fail
  refine (supplyOf_any bs _ n c ls _ m d ts _ q r us bus _ hn (hr.below b0) hm (hrt.below b0) hq (hu.below b0)).mono ?_
  rintro e w1 ⟨rfl, hb1⟩
  go_wp2
  go_ret
  exact ⟨rfl, b0.trans (hb1.mono b0.size)⟩
end Go.Proofs.YtpmkeagdoehbhaaDoor

/- PathLines, BelowLine, of the program. -/
namespace Go.Proofs.YtpmkeagdoehbhaaDoor
open Go.ChangeShapes Go.WideShapes Go.ChangeAt Go.RowKit

theorem hd1_nil : hd1 [] = -1 := rfl
theorem hd1_cons (k : Nat) (ws : List Nat) : hd1 (k :: ws) = (k : Int) := rfl
theorem ofN_rev (zs : List Nat) : (ofN zs).reverse = ofN zs.reverse := by simp [ofN, List.map_reverse]

set_option maxRecDepth 100000 in
set_option maxHeartbeats 1000000 in
theorem pathTo_any (nb : Nat) (A : Option Addr) (n c : Nat) (ls : List L3) (ts : List Bool) (us : List U2) (g b : Nat) (w : World) (hr : RowL w A n ls) (hs : stOk nb ls ts.length = true) (ha : Acyc ls ts) (ho : OneFeed (edgesOn ls ts) us)
    (hblk : IsBlk w g 61 (rowArr fU (supF ls ts us nb))) (hb : b < nb) :
    Calls Tryd.prog 51 #[.agg #[.int .i64 (nb : Int), .slice A n c], .slice (some ⟨g, 0, none⟩) nb nb, .int .i64 (b : Int)] w fun e w' => ∃ v, e = .returned v ∧ OwnI 3 w' w.heap.size v (ofN (wayF ls ts us b).reverse) ∧ Below w.heap.size w w' := by
  obtain ⟨i0, hi, hz0, hz1, hz2⟩ := info_parts intInfo6
  have HI := Lib.hid hi
  have HR := Lib.hid hr
  have HA := Lib.hid ha
  have HO := Lib.hid ho
  have HV := Lib.hid (stOk_net hs)
  have hlen := stOk_len hs
  have hbs := stOk_bs hs
  have hn10 : n ≤ 10 := by have := hr.1; omega
  have HWL := Lib.hid (show (wayF ls ts us b).length ≤ 10 from Nat.le_trans (wayF_len ha ho b) (by omega))
  have hgw := hblk.lt
  have sup : ∀ (wr : World) (y : Nat), Below w.heap.size w wr → y < nb → wr.cell? ⟨g, y * 2 + 1, none⟩ = some (.int .i64 (hd1 (wayF ls ts us y))) := fun wr y hbel hy =>
    ((hblk.keep hbel).cell _).trans (rowArr_get (f := fU) fU_len (supF_get hy) 1 (by omega))
  have SUP := Lib.hid sup
  have BX := Lib.hid (IsBlk.new w 25 #[.int .i64 (nb : Int), .slice A n c])
  have hbx := below_bx w (.cells #[.int .i64 (nb : Int), .slice A n c] 25)
  have c0 := sup _ _ hbx hb
  have ii0 : (0 : Int) ≤ (b : Int) := by omega
  have ii1 : (b : Int) < (nb : Int) := by omega
  have hsz0 : w.heap.size + 1 ≤ (w.alloc (.cells #[.int .i64 (nb : Int), .slice A n c] 25)).heap.size := by simp
  clear hr hs ha ho hblk hlen sup hi
  generalize hW : wayF ls ts us b = W at *
  have HW := Lib.hid hW
  clear hW
  go_enter Tryd.func51, Tryd.ntmps51
  go_upto_region 1 with fail
  generalize w.alloc (.cells #[.int .i64 (nb : Int), .slice A n c] 25) = w1 at *
  go_wp2
  clear c0 ii0 ii1
  go_loopw [2, 7, 8] (fun bus v line wr => ∃ (y : Nat) (acc ws : List Nat), bus = .int .i64 y ∧ y < nb ∧ line = .int .i64 (hd1 ws) ∧ W = acc ++ ws ∧ wayF ls ts us y = ws ∧ OwnI 3 wr (w.heap.size + 1) v (ofN acc) ∧ Below w.heap.size w wr ∧ IsBlk wr w.heap.size 25 #[.int .i64 (nb : Int), .slice A n c] ∧ w.heap.size + 1 ≤ wr.heap.size) (fun _ v _ _ => 100 - lenV v)
  case atStart => exact ⟨b, [], W, rfl, hb, rfl, rfl, HW.out, OwnI.nil, hbx, BX.out, hsz0⟩
  case round =>
    obtain ⟨y, acc, ws, rfl, hy, rfl, hacc, hwy, hown, hbel, hbox, hsz⟩ := hrel
    have KO := Lib.hid hown
    have KB := Lib.hid hbox
    have hal : acc.length + ws.length ≤ 10 := by have := HWL.out; rw [hacc, List.length_append] at this; exact this
    obtain ⟨Av, cv, ev, _⟩ := hown.sl
    rw [ofN_len] at ev
    cases ws with
    | nil =>
      have hacc2 : W = acc := by rw [hacc, List.append_nil]
      have HW2 := Lib.hid (show (ofN acc).reverse = ofN W.reverse by rw [ofN_rev, hacc2])
      have hle : (ofN acc).length ≤ 1048576 := by rw [ofN_len]; omega
      rw [hd1_nil]
      clear hown hbox hacc hacc2 hwy hal BX HW HWL
      subst ev
      go_wp2_with fail
      refine (reverse_any (w.heap.size + 1) _ _ _ hle KO.out hsz).mono ?_
      rintro e w2 ⟨rfl, hr2, hb2⟩
      rw [HW2.out] at hr2
      have HR2 := Lib.hid hr2
      clear hr2
      go_wp2
      go_ret
      exact ⟨_, rfl, OwnI.more HR2.out (by omega), hbel.trans (hb2.mono (by omega))⟩
    | cons k ws =>
      obtain ⟨o, hl, hwo, hwf⟩ := wayF_cons HA.out HO.out hwy
      obtain ⟨l, hl1, hl2, hl3⟩ := hl
      have hoy : otherF nb ls k y = (o : Int) ∧ o < nb := by
        rcases otherF_on HV.out hl1 hl2 (x := y) with ⟨o', h1, h2, h3⟩ | ⟨_, h⟩
        · rcases Ln.two h2 ⟨l, hl1, hl2, hl3⟩ with ⟨e1, e2⟩ | ⟨e1, e2⟩
          · exact absurd e1 (Ln.ne HV.out (⟨l, hl1, hl2, hl3⟩ : Ln ls ts k o y))
          · subst e1; exact ⟨h1, h3⟩
        · exact absurd (Ln.symm ⟨l, hl1, hl2, hl3⟩) (h o)
      have HOY := Lib.hid hoy.1
      have hon : o < nb := hoy.2
      rw [hd1_cons]
      have hk0 : (0 : Int) ≤ (k : Int) := by omega
      obtain ⟨p0, p1, _, _⟩ := hbox.two
      have hle3 : (ofN acc).length ≤ 9 := by rw [ofN_len]; simp at hal; omega
      have HWO := Lib.hid hwf
      have HACC := Lib.hid (show W = (acc ++ [k]) ++ ws by rw [hacc]; simp)
      have ii0 : (0 : Int) ≤ (o : Int) := by omega
      have ii1 : (o : Int) < (nb : Int) := by omega
      have hbl1 : Below w.heap.size w (wr.alloc (.cells #[.int .i64 (k : Int)] 3)) := hbel.alloc (by omega) _
      clear hown hbox hacc hwy hl1 hl2 hl3 hoy hwo hwf BX
      subst ev
      go_wp2_with (
        at_builtin
        refine wpList_append_own _ rfl _ _ _ rfl (w.heap.size + 1) 3 i0 (.int .i64 0) 1 8 Tryd.underlying28 HI.out hz0 hz1 hz2 rfl (by decide) _ _ _ rfl (World.ownsRow.alloc KO.out _) ⟨wr.heap.size, 0, none⟩ 1 1 [.int .i64 (k : Int)] rfl rfl ?c1 ?c2 ?c3 ?c4 ?c5 ?_
        case c1 => exact cell_one_new _ _ _
        case c2 => intro u hu; simp at hu; subst hu; rfl
        case c3 => simp only [maxLen]; omega
        case c4 => omega
        case c5 => simp; omega
        intro v' w3 hown' hgrow _
        have hb3 : Below (w.heap.size + 1) (wr.alloc (.cells #[.int .i64 (k : Int)] 3)) w3 := (Below.refl _ _).grown hgrow (by simp; omega) (fun q hq => (World.ownsRow.lt KO.out q hq).1)
        have hbl3 := hbl1.trans (hb3.mono (by omega))
        have KB3 := Lib.hid (((KB.out.alloc (.cells #[.int .i64 (k : Int)] 3))).below hb3 (by omega))
        clear p0 p1
        obtain ⟨p0, p1, _, _⟩ := KB3.out.two)
      refine (otherEnd_any nb _ n c ls k y _ (by omega) (HR.out.below hbl3)).mono ?_
      rintro e w4 ⟨rfl, hb4⟩
      rw [HOY.out]
      have hbl4 : Below w.heap.size w w4 := hbl3.trans (hb4.mono hbl3.size)
      have KB4 := Lib.hid (KB3.out.keep hb4)
      have c0 := SUP.out w4 o hbl4 hon
      rw [HWO.out] at c0
      have KO4 := Lib.hid (show OwnI 3 w4 (w.heap.size + 1) v' (ofN (acc ++ [k])) from OwnI.keep (by rw [ofN_snoc]; simpa [OwnI] using hown') hb4)
      have hsz4 : w.heap.size + 1 ≤ w4.heap.size := by have := hb3.size; have := hb4.size; simp at *; omega
      have HAL := Lib.hid (show acc.length < 100 by simp at hal; omega)
      obtain ⟨A4, c4, e4, _⟩ := KO4.out.sl
      have HE4 := Lib.hid e4
      clear hown' hgrow hb3 hb4 hbl1 hbl3 e4 hal
      go_wp2
      go_roundw
      case rel => exact ⟨o, acc ++ [k], ws, rfl, hon, rfl, HACC.out, HWO.out, KO4.out, hbl4, KB4.out, hsz4⟩
      case measure =>
        have h1 := HAL.out
        rw [HE4.out]
        simp [lenV, ofN_len]
        omega

theorem belTo_next (ls : List L3) (ts : List Bool) (us : List U2) (line : Int) (k : Nat) : ofN (belTo ls ts us line (k + 1)) = ofN (belTo ls ts us line k) ++ (if belB ls ts us line k = true then [(k : Int)] else []) := by
  unfold belTo
  cases h : belB ls ts us line k
  · rw [filter_no h]; simp
  · rw [filter_yes h]; simp [ofN]
theorem belTo_len (ls : List L3) (ts : List Bool) (us : List U2) (line : Int) (k : Nat) : (belTo ls ts us line k).length ≤ k := Nat.le_trans (List.length_filter_le _ _) (by simp)

end Go.Proofs.YtpmkeagdoehbhaaDoor
