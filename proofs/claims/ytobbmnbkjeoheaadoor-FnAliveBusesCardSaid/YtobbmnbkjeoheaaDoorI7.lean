/- l3Reach and Reached, of the model. -/
import Derived.Test.YtobbmnbkjeoheaaDoorI5
namespace Go.Proofs.YtobbmnbkjeoheaaDoor
open Go.ChangeShapes Go.WideShapes Go.ChangeAt Go.RowKit

theorem makeTruthsN (n : Nat) (hn : n ≤ 1048576) (w : World) : (Instr.makeSlice 35 (.int .i64 (n : Int)) (.int .i64 (n : Int))).run Tryd.prog w = .ok (.slice (some ⟨w.heap.size, 0, none⟩) n n) (w.alloc (.cells (madeCells (Value.bool false).cells n) 4)) := by
  obtain ⟨i0, hi, hz0, hz1, hz2⟩ := info_parts boolInfo5
  have := run_make (P := Tryd.prog) w 35 4 i0 _ Tryd.underlying35 hi hz0 .i64 .i64 n n (by omega) (by omega) (by rw [hz2]; omega) (by omega)
  rw [this, Int.toNat_natCast, hz1, Nat.mul_one]

def truthsB (s : List Bool) : Array Value := (s.map Value.bool).toArray
theorem truthsB_set (s : List Bool) (a : Nat) (t : Bool) : (truthsB s).setIfInBounds a (.bool t) = truthsB (s.set a t) := by
  apply Array.ext'
  simp [truthsB, List.map_set]
theorem truthsB_made (n : Nat) : madeCells (Value.bool false).cells n = truthsB (List.replicate n false) := by
  apply Array.ext_getElem?
  intro i
  by_cases hi : i < n
  · simp [madeCells, truthsB, hi, Value.cells, Nat.mod_one]
  · rw [Array.getElem?_eq_none (by rw [size_madeCells]; omega), Array.getElem?_eq_none (by simp [truthsB]; omega)]

/-- While marks spread: they lie in a block of the call's own. -/
structure MarkSt (nb n c : Nat) (A : Option Addr) (w wx : World) (g : Nat) (s : List Bool) : Prop where
  lt : w.heap.size < g
  bel : Below w.heap.size w wx
  box : IsBlk wx w.heap.size 25 #[.int .i64 (nb : Int), .slice A n c]
  blk : IsBlk wx g 4 (truthsB s)
  len : s.length = nb
section
variable {nb n c : Nat} {A : Option Addr} {w wx w' : World} {g : Nat} {s : List Bool}
theorem MarkSt.next (h : MarkSt nb n c A w wx g s) (hb : Below wx.heap.size wx w') : MarkSt nb n c A w w' g s :=
  ⟨h.lt, h.bel.trans (hb.mono h.bel.size), h.box.keep hb, h.blk.keep hb, h.len⟩
theorem MarkSt.cell {k : Nat} {t : Bool} (h : MarkSt nb n c A w wx g s) (hz : s[k]? = some t) : wx.cell? ⟨g, k, none⟩ = some (.bool t) := by
  rw [h.blk.cell]; simp [truthsB, hz]
theorem MarkSt.put {a : Nat} {t : Bool} (h : MarkSt nb n c A w wx g s) : MarkSt nb n c A w (wx.setCell ⟨g, a, none⟩ (.bool t)) g (s.set a t) := by
  have hl := h.lt
  refine ⟨h.lt, h.bel.setCell (Nat.le_of_lt h.lt) _, h.box.far (by simp; omega) _, ?_, by simp [h.len]⟩
  rw [← truthsB_set]
  exact h.blk.put a _
end

set_option maxRecDepth 100000 in
set_option maxHeartbeats 400000 in
theorem l3Reach_any (nb : Nat) (A : Option Addr) (n c : Nat) (ls : List L3) (B : Option Addr) (d : Nat) (ts : List Bool) (bus : Nat) (w : World) (hr : RowL w A n ls) (hrt : RowT w B n ts) (hv : netOk nb ls = true) (hb : bus < nb) :
    Calls Tryd.prog 55 #[.agg #[.int .i64 (nb : Int), .slice A n c], .slice B n d, .int .i64 (bus : Int)] w fun e w' => ∃ v, e = .returned v ∧ OwnT w' w.heap.size v (reachL (edgesOn ls ts) nb bus) ∧ Below w.heap.size w w' := by
  have HR := Lib.hid hr
  have HT := Lib.hid hrt
  have HLR := Lib.hid hr.1
  have HL := Lib.hid hrt.len
  have HN := Lib.hid hv
  have hnb : nb ≤ 8 := by have := (netOk_len hv).2.1; omega
  have hn10 : n ≤ 10 := by have := (netOk_len hv).2.2; have := hr.1; omega
  have hmk := makeTruthsN nb (by omega)
  rw [truthsB_made] at hmk
  have HIT := Lib.hid (iterP_reach (ls := ls) (ts := ts) (bus := bus) hv (by simpa using hb))
  clear hr hrt hv
  have q0 : (0 : Int) ≤ (bus : Int) := by omega
  have q1 : (bus : Int) < (nb : Int) := by omega
  go_enter Tryd.func55, Tryd.ntmps55
  go_upto_region 2 with fail
  have S0 := Lib.hid (show MarkSt nb n c A w ((w.alloc (.cells #[.int .i64 (nb : Int), .slice A n c] 25)).alloc (.cells (truthsB (List.replicate nb false)) 4)) (w.heap.size + 1) (List.replicate nb false) from
    ⟨by omega, (below_bx w _).alloc (by simp) _, (IsBlk.new w _ _).alloc _, IsBlk.at_ (by simp) rfl rfl, by simp⟩)
  clear hmk
  generalize (w.alloc (.cells #[.int .i64 (nb : Int), .slice A n c] 25)).alloc (.cells (truthsB (List.replicate nb false)) 4) = W0 at *
  have c0 := S0.out.cell (k := bus) (t := false) (by simp [hb])
  have f0 : W0.frozen? ⟨w.heap.size + 1, bus, none⟩ = false := S0.out.blk.thaw bus
  go_upto_region 3 with fail
  have S1 := Lib.hid (S0.out.put (a := bus) (t := true))
  clear c0 f0 S0
  generalize W0.setCell ⟨w.heap.size + 1, bus, none⟩ (.bool true) = W1 at *
  generalize hs0 : (List.replicate nb false).set bus true = s0 at *
  generalize hg : w.heap.size + 1 = g at *
  clear hg
  go_wp2
  go_loopw [8] (fun i wr => ∃ j : Nat, j ≤ nb ∧ i = .int .i64 j ∧ MarkSt nb n c A w wr g (iterP ls ts j s0)) (fun i _ => nb - (intOf i).toNat)
  case atStart => exact ⟨0, by omega, rfl, S1.out⟩
  case round =>
    obtain ⟨j, hj, rfl, hst⟩ := hrel
    have SJ := Lib.hid hst
    clear hst
    obtain ⟨p0, p1, _, _⟩ := SJ.out.box.two
    by_cases hlt : j < nb
    · go_wp2
      go_loopw [9] (fun i wx => ∃ k : Nat, k ≤ n ∧ i = .int .i64 k ∧ MarkSt nb n c A w wx g (passTo ls ts (iterP ls ts j s0) k)) (fun i _ => n - (intOf i).toNat)
      case atStart => exact ⟨0, by omega, rfl, SJ.out⟩
      case round =>
        obtain ⟨k, hk, rfl, hst⟩ := hrel
        generalize hsk : passTo ls ts (iterP ls ts j s0) k = s at hst
        have SK := Lib.hid hst
        clear hst
        obtain ⟨r0, r1, _, _⟩ := SK.out.box.two
        clear p0 p1
        by_cases hkn : k < n
        · obtain ⟨b, off, rfl, hb, HC⟩ := HR.out.2 (by omega)
          have hkl : ls[k]? = some (ls[k]'(by have := HLR.out; omega)) := List.getElem?_eq_getElem _
          generalize (ls[k]'(by have := HLR.out; omega)) = l at hkl
          obtain ⟨g0, g1, g2⟩ := HC k l hkl
          rw [← SK.out.bel.cell (p := ⟨b, off + k * 3, none⟩) hb] at g0
          rw [← SK.out.bel.cell (p := ⟨b, off + k * 3 + 1, none⟩) hb] at g1
          rw [← SK.out.bel.cell (p := ⟨b, off + k * 3 + 2, none⟩) hb] at g2
          obtain ⟨b', off', t, rfl, hb', hkt, e0⟩ := HT.out.at_ hkn
          rw [← SK.out.bel.cell (p := ⟨b', off' + k, none⟩) hb'] at e0
          have hstep := passTo_succ (s := iterP ls ts j s0) hkl hkt
          rw [hsk] at hstep
          have HST := Lib.hid hstep
          have hlo := netOk_line HN.out hkl
          clear hkl HC hkt hstep
          obtain ⟨x, y, z⟩ := l
          simp [lineOk, inB] at hlo
          simp only at g0 g1 g2
          obtain ⟨xa, rfl⟩ := Int.eq_ofNat_of_zero_le hlo.1.1.1.1
          obtain ⟨ya, rfl⟩ := Int.eq_ofNat_of_zero_le hlo.1.1.2.1
          have hxa : xa < nb := by omega
          have hya : ya < nb := by omega
          have q2 : (0 : Int) ≤ (xa : Int) := by omega
          have q3 : (xa : Int) < (nb : Int) := by omega
          have q4 : (0 : Int) ≤ (ya : Int) := by omega
          have q5 : (ya : Int) < (nb : Int) := by omega
          have q6 : (0 : Int) ≤ (k : Int) := by omega
          have q7 : (k : Int) < (n : Int) := by omega
          clear hlo
          obtain ⟨px, hx⟩ : ∃ px, s[xa]? = some px := ⟨_, List.getElem?_eq_getElem (by rw [SK.out.len]; exact hxa)⟩
          obtain ⟨py, hy⟩ : ∃ py, s[ya]? = some py := ⟨_, List.getElem?_eq_getElem (by rw [SK.out.len]; exact hya)⟩
          have c0 := SK.out.cell hx
          have c1 := SK.out.cell hy
          have HD := Lib.hid (show s.getD xa false = px ∧ s.getD ya false = py by
            rw [List.getD_eq_getElem?_getD, List.getD_eq_getElem?_getD, hx, hy]; exact ⟨rfl, rfl⟩)
          clear hx hy
          have hgz := SK.out.blk.lt
          have HBO := Lib.hid (below_bx wr (.cells #[.int .i64 (xa : Int), .int .i64 (ya : Int), .int .i64 z] 53))
          have LN := Lib.hid (IsBlk.new wr 53 #[.int .i64 (xa : Int), .int .i64 (ya : Int), .int .i64 z])
          go_upto_region 10 with fail
          have E1 := (HBO.out.cell (p := ⟨b', off' + k, none⟩) (Nat.lt_of_lt_of_le hb' SK.out.bel.size)).trans e0
          have C0 := (HBO.out.cell (p := ⟨g, xa, none⟩) hgz).trans c0
          have C1 := (HBO.out.cell (p := ⟨g, ya, none⟩) hgz).trans c1
          obtain ⟨L0, L1, _, _⟩ := LN.out.three
          have S2 := Lib.hid (SK.out.next HBO.out)
          have hgl : g ≠ wr.heap.size := by omega
          clear c0 c1 e0 g0 g1 g2 SK HBO r0 r1
          generalize wr.alloc (.cells #[.int .i64 (xa : Int), .int .i64 (ya : Int), .int .i64 z] 53) = V0 at *
          generalize wr.heap.size = gl at *
          by_cases hgo : t = true ∧ (px = true ∨ py = true)
          · have HP := Lib.hid (show passTo ls ts (iterP ls ts j s0) (k + 1) = (s.set xa true).set ya true by
              rw [HST.out, stepL, if_pos]; rfl
              refine ⟨hgo.1, ?_⟩
              show s.getD xa false = true ∨ s.getD ya false = true
              rw [HD.out.1, HD.out.2]; exact hgo.2)
            obtain ⟨rfl, hpq⟩ := hgo
            have HPQ := Lib.hid hpq
            clear hpq
            have l0 : (V0.setCell ⟨g, xa, none⟩ (.bool true)).cell? ⟨gl, 0, none⟩ = some (.int .i64 (xa : Int)) := (World.cell?_of_block (a := ⟨gl, 0, none⟩) (Below.heap_setCell V0 ⟨g, xa, none⟩ _ gl (fun e => hgl e.symm))).trans L0
            have l1 : (V0.setCell ⟨g, xa, none⟩ (.bool true)).cell? ⟨gl, 1, none⟩ = some (.int .i64 (ya : Int)) := (World.cell?_of_block (a := ⟨gl, 1, none⟩) (Below.heap_setCell V0 ⟨g, xa, none⟩ _ gl (fun e => hgl e.symm))).trans L1
            have S3 := Lib.hid (S2.out.put (a := xa) (t := true))
            have f0 : V0.frozen? ⟨g, xa, none⟩ = false := S2.out.blk.thaw xa
            have f1 : (V0.setCell ⟨g, xa, none⟩ (.bool true)).frozen? ⟨g, ya, none⟩ = false := S3.out.blk.thaw ya
            obtain ⟨py', hy'⟩ : ∃ py', (s.set xa true)[ya]? = some py' := ⟨_, List.getElem?_eq_getElem (by rw [S3.out.len]; exact hya)⟩
            have c2 := S3.out.cell hy'
            clear hy'
            cases px <;> cases py
            · exact absurd HPQ.out (by simp)
            all_goals
              go_upto_region 12 with fail
              generalize V0.setCell ⟨g, xa, none⟩ (.bool true) = V1 at *
              go_wp2
              go_roundw
              case rel => exact ⟨k + 1, by omega, by go_num, by rw [HP.out]; exact S3.out.put⟩
              case measure => simp [intOf]; omega
          · have HP := Lib.hid (show passTo ls ts (iterP ls ts j s0) (k + 1) = s by
              rw [HST.out, stepL, if_neg]
              rintro ⟨h1, h2⟩
              refine hgo ⟨h1, ?_⟩
              have h2' : s.getD xa false = true ∨ s.getD ya false = true := h2
              rwa [HD.out.1, HD.out.2] at h2')
            have HG := Lib.hid hgo
            clear hgo
            cases t
            · go_wp2
              go_roundw
              case rel => exact ⟨k + 1, by omega, by go_num, by rw [HP.out]; exact S2.out⟩
              case measure => simp [intOf]; omega
            · cases px <;> cases py
              · go_wp2
                go_roundw
                case rel => exact ⟨k + 1, by omega, by go_num, by rw [HP.out]; exact S2.out⟩
                case measure => simp [intOf]; omega
              all_goals exact absurd HG.out (by simp)
        · go_wp2
          obtain rfl : k = n := by omega
          refine ⟨⟨j + 1, by omega, by go_num, ?_⟩, by simp [intOf]; omega⟩
          have hall := passTo_all (ls := ls) (ts := ts) (s := iterP ls ts j s0) (by rw [HLR.out, HL.out])
          rw [HLR.out, hsk] at hall
          rw [iterP, ← hall]; exact SK.out
    · go_wp2
      go_ret
      obtain rfl : j = nb := by omega
      have hit := HIT.out
      simp only [Int.toNat_natCast] at hit
      rw [hs0] at hit
      have hbk := SJ.out.blk
      rw [hit] at hbk
      exact ⟨_, rfl, OwnT.mk (reachL_len _ _ _) (by have := SJ.out.lt; omega) hbk (Nat.le_refl _) (by simp [truthsB, reachL_len]) (by rw [List.take_of_length_le (by simp [truthsB, reachL_len])]; simp [truthsB]), SJ.out.bel⟩
end Go.Proofs.YtobbmnbkjeoheaaDoor
