/- Texts joined: l3Reach and Reached, of the model; Reached, IslandNumbers, SameIsland, of the model; IslandNumbers and SameIsland, of the model; Slices of slices of numbers, of the call's own: what they are, how they stay, how they grow; IslandsOf, of the program and of the model. -/
import Derived.Test.YtpmkeagdoehbhaaDoorBCD
import Derived.OwnWalk

/- l3Reach and Reached, of the model. -/
namespace Go.Proofs.YtpmkeagdoehbhaaDoor
open Go.ChangeShapes Go.WideShapes Go.ChangeAt Go.RowKit

theorem makeTruthsN (n : Nat) (hn : n ≤ 1048576) (w : World) : (Instr.makeSlice 26 (.int .i64 (n : Int)) (.int .i64 (n : Int))).run Tryd.prog w = .ok (.slice (some ⟨w.heap.size, 0, none⟩) n n) (w.alloc (.cells (madeCells (Value.bool false).cells n) 4)) := by
  obtain ⟨i0, hi, hz0, hz1, hz2⟩ := info_parts boolInfo5
  have := run_make (P := Tryd.prog) w 26 4 i0 _ Tryd.underlying26 hi hz0 .i64 .i64 n n (by omega) (by omega) (by rw [hz2]; omega) (by omega)
  rw [this, Int.toNat_natCast, hz1, Nat.mul_one]

def truthsB (s : List Bool) : Array Value := (s.map Value.bool).toArray
theorem truthsB_set (s : List Bool) (a : Nat) (t : Bool) : (truthsB s).setIfInBounds a (.bool t) = truthsB (s.set a t) := by
  apply Array.ext'
  simp [truthsB, List.map_set]
theorem truthsB_made (n : Nat) : madeCells (Value.bool false).cells n = truthsB (List.replicate n false) := by
  apply Array.ext_getElem?
  intro i
  by_cases hi : i < n
  · simp [madeCells, truthsB, hi, Value.cells, Nat.mod_one]
  · rw [Array.getElem?_eq_none (by rw [size_madeCells]; omega), Array.getElem?_eq_none (by simp [truthsB]; omega)]

/-- While marks spread: they lie in a block of the call's own. -/
structure MarkSt (nb n c : Nat) (A : Option Addr) (w wx : World) (g : Nat) (s : List Bool) : Prop where
  lt : w.heap.size < g
  bel : Below w.heap.size w wx
  box : IsBlk wx w.heap.size 25 #[.int .i64 (nb : Int), .slice A n c]
  blk : IsBlk wx g 4 (truthsB s)
  len : s.length = nb
section
variable {nb n c : Nat} {A : Option Addr} {w wx w' : World} {g : Nat} {s : List Bool}
theorem MarkSt.next (h : MarkSt nb n c A w wx g s) (hb : Below wx.heap.size wx w') : MarkSt nb n c A w w' g s :=
  ⟨h.lt, h.bel.trans (hb.mono h.bel.size), h.box.keep hb, h.blk.keep hb, h.len⟩
theorem MarkSt.cell {k : Nat} {t : Bool} (h : MarkSt nb n c A w wx g s) (hz : s[k]? = some t) : wx.cell? ⟨g, k, none⟩ = some (.bool t) := by
  rw [h.blk.cell]; simp [truthsB, hz]
theorem MarkSt.put {a : Nat} {t : Bool} (h : MarkSt nb n c A w wx g s) : MarkSt nb n c A w (wx.setCell ⟨g, a, none⟩ (.bool t)) g (s.set a t) := by
  have hl := h.lt
  refine ⟨h.lt, h.bel.setCell (Nat.le_of_lt h.lt) _, h.box.far (by simp; omega) _, ?_, by simp [h.len]⟩
  rw [← truthsB_set]
  exact h.blk.put a _
end

set_option maxRecDepth 100000 in
set_option maxHeartbeats 400000 in
theorem l3Reach_any (nb : Nat) (A : Option Addr) (n c : Nat) (ls : List L3) (B : Option Addr) (d : Nat) (ts : List Bool) (bus : Nat) (w : World) (hr : RowL w A n ls) (hrt : RowT w B n ts) (hv : netOk nb ls = true) (hb : bus < nb) :
    Calls Tryd.prog 74 #[.agg #[.int .i64 (nb : Int), .slice A n c], .slice B n d, .int .i64 (bus : Int)] w fun e w' => ∃ v, e = .returned v ∧ OwnT w' w.heap.size v (reachL (edgesOn ls ts) nb bus) ∧ Below w.heap.size w w' := by
  have HR := Lib.hid hr
  have HT := Lib.hid hrt
  have HLR := Lib.hid hr.1
  have HL := Lib.hid hrt.len
  have HN := Lib.hid hv
  have hnb : nb ≤ 8 := by have := (netOk_len hv).2.1; omega
  have hn10 : n ≤ 10 := by have := (netOk_len hv).2.2; have := hr.1; omega
  have hmk := makeTruthsN nb (by omega)
  rw [truthsB_made] at hmk
  have HIT := Lib.hid (iterP_reach (ls := ls) (ts := ts) (bus := bus) hv (by simpa using hb))
  clear hr hrt hv
  have q0 : (0 : Int) ≤ (bus : Int) := by omega
  have q1 : (bus : Int) < (nb : Int) := by omega
  go_enter Tryd.func74, Tryd.ntmps74
  go_upto_region 2 with fail
  have S0 := Lib.hid (show MarkSt nb n c A w ((w.alloc (.cells #[.int .i64 (nb : Int), .slice A n c] 25)).alloc (.cells (truthsB (List.replicate nb false)) 4)) (w.heap.size + 1) (List.replicate nb false) from
    ⟨by omega, (below_bx w _).alloc (by simp) _, (IsBlk.new w _ _).alloc _, IsBlk.at_ (by simp) rfl rfl, by simp⟩)
  clear hmk
  generalize (w.alloc (.cells #[.int .i64 (nb : Int), .slice A n c] 25)).alloc (.cells (truthsB (List.replicate nb false)) 4) = W0 at *
  have c0 := S0.out.cell (k := bus) (t := false) (by simp [hb])
  have f0 : W0.frozen? ⟨w.heap.size + 1, bus, none⟩ = false := S0.out.blk.thaw bus
  go_upto_region 3 with fail
  have S1 := Lib.hid (S0.out.put (a := bus) (t := true))
  clear c0 f0 S0
  generalize W0.setCell ⟨w.heap.size + 1, bus, none⟩ (.bool true) = W1 at *
  generalize hs0 : (List.replicate nb false).set bus true = s0 at *
  generalize hg : w.heap.size + 1 = g at *
  clear hg
  go_wp2
  go_loopw [8] (fun i wr => ∃ j : Nat, j ≤ nb ∧ i = .int .i64 j ∧ MarkSt nb n c A w wr g (iterP ls ts j s0)) (fun i _ => nb - (intOf i).toNat)
  case atStart => exact ⟨0, by omega, rfl, S1.out⟩
  case round =>
    obtain ⟨j, hj, rfl, hst⟩ := hrel
    have SJ := Lib.hid hst
    clear hst
    obtain ⟨p0, p1, _, _⟩ := SJ.out.box.two
    by_cases hlt : j < nb
    · go_wp2
      go_loopw [9] (fun i wx => ∃ k : Nat, k ≤ n ∧ i = .int .i64 k ∧ MarkSt nb n c A w wx g (passTo ls ts (iterP ls ts j s0) k)) (fun i _ => n - (intOf i).toNat)
      case atStart => exact ⟨0, by omega, rfl, SJ.out⟩
      case round =>
        obtain ⟨k, hk, rfl, hst⟩ := hrel
        generalize hsk : passTo ls ts (iterP ls ts j s0) k = s at hst
        have SK := Lib.hid hst
        clear hst
        obtain ⟨r0, r1, _, _⟩ := SK.out.box.two
        clear p0 p1
        by_cases hkn : k < n
        · obtain ⟨b, off, rfl, hb, HC⟩ := HR.out.2 (by omega)
          have hkl : ls[k]? = some (ls[k]'(by have := HLR.out; omega)) := List.getElem?_eq_getElem _
          generalize (ls[k]'(by have := HLR.out; omega)) = l at hkl
          obtain ⟨g0, g1, g2⟩ := HC k l hkl
          rw [← SK.out.bel.cell (p := ⟨b, off + k * 3, none⟩) hb] at g0
          rw [← SK.out.bel.cell (p := ⟨b, off + k * 3 + 1, none⟩) hb] at g1
          rw [← SK.out.bel.cell (p := ⟨b, off + k * 3 + 2, none⟩) hb] at g2
          obtain ⟨b', off', t, rfl, hb', hkt, e0⟩ := HT.out.at_ hkn
          rw [← SK.out.bel.cell (p := ⟨b', off' + k, none⟩) hb'] at e0
          have hstep := passTo_succ (s := iterP ls ts j s0) hkl hkt
          rw [hsk] at hstep
          have HST := Lib.hid hstep
          have hlo := netOk_line HN.out hkl
          clear hkl HC hkt hstep
          obtain ⟨x, y, z⟩ := l
          simp [lineOk, inB] at hlo
          simp only at g0 g1 g2
          obtain ⟨xa, rfl⟩ := Int.eq_ofNat_of_zero_le hlo.1.1.1.1
          obtain ⟨ya, rfl⟩ := Int.eq_ofNat_of_zero_le hlo.1.1.2.1
          have hxa : xa < nb := by omega
          have hya : ya < nb := by omega
          have q2 : (0 : Int) ≤ (xa : Int) := by omega
          have q3 : (xa : Int) < (nb : Int) := by omega
          have q4 : (0 : Int) ≤ (ya : Int) := by omega
          have q5 : (ya : Int) < (nb : Int) := by omega
          have q6 : (0 : Int) ≤ (k : Int) := by omega
          have q7 : (k : Int) < (n : Int) := by omega
          clear hlo
          obtain ⟨px, hx⟩ : ∃ px, s[xa]? = some px := ⟨_, List.getElem?_eq_getElem (by rw [SK.out.len]; exact hxa)⟩
          obtain ⟨py, hy⟩ : ∃ py, s[ya]? = some py := ⟨_, List.getElem?_eq_getElem (by rw [SK.out.len]; exact hya)⟩
          have c0 := SK.out.cell hx
          have c1 := SK.out.cell hy
          have HD := Lib.hid (show s.getD xa false = px ∧ s.getD ya false = py by
            rw [List.getD_eq_getElem?_getD, List.getD_eq_getElem?_getD, hx, hy]; exact ⟨rfl, rfl⟩)
          clear hx hy
          have hgz := SK.out.blk.lt
          have HBO := Lib.hid (below_bx wr (.cells #[.int .i64 (xa : Int), .int .i64 (ya : Int), .int .i64 z] 58))
          have LN := Lib.hid (IsBlk.new wr 58 #[.int .i64 (xa : Int), .int .i64 (ya : Int), .int .i64 z])
          go_upto_region 10 with fail
          have E1 := (HBO.out.cell (p := ⟨b', off' + k, none⟩) (Nat.lt_of_lt_of_le hb' SK.out.bel.size)).trans e0
          have C0 := (HBO.out.cell (p := ⟨g, xa, none⟩) hgz).trans c0
          have C1 := (HBO.out.cell (p := ⟨g, ya, none⟩) hgz).trans c1
          obtain ⟨L0, L1, _, _⟩ := LN.out.three
          have S2 := Lib.hid (SK.out.next HBO.out)
          have hgl : g ≠ wr.heap.size := by omega
          clear c0 c1 e0 g0 g1 g2 SK HBO r0 r1
          generalize wr.alloc (.cells #[.int .i64 (xa : Int), .int .i64 (ya : Int), .int .i64 z] 58) = V0 at *
          generalize wr.heap.size = gl at *
          by_cases hgo : t = true ∧ (px = true ∨ py = true)
          · have HP := Lib.hid (show passTo ls ts (iterP ls ts j s0) (k + 1) = (s.set xa true).set ya true by
              rw [HST.out, stepL, if_pos]; rfl
              refine ⟨hgo.1, ?_⟩
              show s.getD xa false = true ∨ s.getD ya false = true
              rw [HD.out.1, HD.out.2]; exact hgo.2)
            obtain ⟨rfl, hpq⟩ := hgo
            have HPQ := Lib.hid hpq
            clear hpq
            have l0 : (V0.setCell ⟨g, xa, none⟩ (.bool true)).cell? ⟨gl, 0, none⟩ = some (.int .i64 (xa : Int)) := (World.cell?_of_block (a := ⟨gl, 0, none⟩) (Below.heap_setCell V0 ⟨g, xa, none⟩ _ gl (fun e => hgl e.symm))).trans L0
            have l1 : (V0.setCell ⟨g, xa, none⟩ (.bool true)).cell? ⟨gl, 1, none⟩ = some (.int .i64 (ya : Int)) := (World.cell?_of_block (a := ⟨gl, 1, none⟩) (Below.heap_setCell V0 ⟨g, xa, none⟩ _ gl (fun e => hgl e.symm))).trans L1
            have S3 := Lib.hid (S2.out.put (a := xa) (t := true))
            have f0 : V0.frozen? ⟨g, xa, none⟩ = false := S2.out.blk.thaw xa
            have f1 : (V0.setCell ⟨g, xa, none⟩ (.bool true)).frozen? ⟨g, ya, none⟩ = false := S3.out.blk.thaw ya
            obtain ⟨py', hy'⟩ : ∃ py', (s.set xa true)[ya]? = some py' := ⟨_, List.getElem?_eq_getElem (by rw [S3.out.len]; exact hya)⟩
            have c2 := S3.out.cell hy'
            clear hy'
            cases px <;> cases py
            · exact absurd HPQ.out (by simp)
            all_goals
              go_upto_region 12 with fail
              generalize V0.setCell ⟨g, xa, none⟩ (.bool true) = V1 at *
              go_wp2
              go_roundw
              case rel => exact ⟨k + 1, by omega, by go_num, by rw [HP.out]; exact S3.out.put⟩
              case measure => simp [intOf]; omega
          · have HP := Lib.hid (show passTo ls ts (iterP ls ts j s0) (k + 1) = s by
              rw [HST.out, stepL, if_neg]
              rintro ⟨h1, h2⟩
              refine hgo ⟨h1, ?_⟩
              have h2' : s.getD xa false = true ∨ s.getD ya false = true := h2
              rwa [HD.out.1, HD.out.2] at h2')
            have HG := Lib.hid hgo
            clear hgo
            cases t
            · go_wp2
              go_roundw
              case rel => exact ⟨k + 1, by omega, by go_num, by rw [HP.out]; exact S2.out⟩
              case measure => simp [intOf]; omega
            · cases px <;> cases py
              · go_wp2
                go_roundw
                case rel => exact ⟨k + 1, by omega, by go_num, by rw [HP.out]; exact S2.out⟩
                case measure => simp [intOf]; omega
              all_goals exact absurd HG.out (by simp)
        · go_wp2
          obtain rfl : k = n := by omega
          refine ⟨⟨j + 1, by omega, by go_num, ?_⟩, by simp [intOf]; omega⟩
          have hall := passTo_all (ls := ls) (ts := ts) (s := iterP ls ts j s0) (by rw [HLR.out, HL.out])
          rw [HLR.out, hsk] at hall
          rw [iterP, ← hall]; exact SK.out
    · go_wp2
      go_ret
      obtain rfl : j = nb := by omega
      have hit := HIT.out
      simp only [Int.toNat_natCast] at hit
      rw [hs0] at hit
      have hbk := SJ.out.blk
      rw [hit] at hbk
      exact ⟨_, rfl, OwnT.mk (reachL_len _ _ _) (by have := SJ.out.lt; omega) hbk (Nat.le_refl _) (by simp [truthsB, reachL_len]) (by rw [List.take_of_length_le (by simp [truthsB, reachL_len])]; simp [truthsB]), SJ.out.bel⟩
end Go.Proofs.YtpmkeagdoehbhaaDoor

/- Reached, IslandNumbers, SameIsland, of the model. -/
namespace Go.Proofs.YtpmkeagdoehbhaaDoor
open Go.ChangeShapes Go.WideShapes Go.ChangeAt Go.RowKit

theorem own_lit (w : World) : OwnI 3 (w.alloc (.cells #[] 3)) w.heap.size (.slice (some ⟨w.heap.size, 0, none⟩) 0 0) [] := by
  have := World.ownsRow_lit (base := w.heap.size) (size := 1) (e := 3) w #[] 0 (by omega) (by decide) rfl
  simpa [OwnI] using this

/-- While a list grows beside a block that is read. -/
structure RchSt (w wr : World) (bs : Int) (n c : Nat) (A : Option Addr) (g2 : Nat) (t2 : TypeId) (cur2 : Array Value) (v : Value) (zs : List Int) : Prop where
  own : OwnI 3 wr (w.heap.size + 1) v zs
  bel : Below w.heap.size w wr
  box : IsBlk wr w.heap.size 25 #[.int .i64 bs, .slice A n c]
  blk : IsBlk wr g2 t2 cur2
  far : v.ownBlock ≠ some g2
theorem RchSt.push {w wr w' : World} {bs : Int} {n c : Nat} {A : Option Addr} {g2 : Nat} {t2 : TypeId} {cur2 : Array Value} {v : Value} {zs zs' : List Int} {g' n' cap' : Nat} (h : RchSt w wr bs n c A g2 t2 cur2 v zs) (o : Obj)
    (hown : OwnI 3 w' (w.heap.size + 1) (.slice (some ⟨g', 0, none⟩) n' cap') zs') (hg : (wr.alloc o).grownBy w' v.ownBlock) (hat : v.ownBlock = some g' ∨ g' = (wr.alloc o).heap.size) :
    RchSt w w' bs n c A g2 t2 cur2 (.slice (some ⟨g', 0, none⟩) n' cap') zs' := by
  have hlow := OwnI.lt h.own
  have hk := h.blk.lt
  have hsz := h.bel.size
  have hb := h.box.lt
  refine ⟨hown, (h.bel.alloc hsz o).grown hg (by simp; omega) (fun q hq => by have := (hlow q hq).1; omega), ?_, ?_, ?_⟩
  · exact (h.box.alloc o).farG hg (fun e => by have := (hlow _ e).1; omega)
  · exact (h.blk.alloc o).farG hg (fun e => h.far e)
  · intro e
    have e' : g' = g2 := by simpa [Value.ownBlock] using e
    rcases hat with hat | hat
    · exact h.far (by rw [hat, e'])
    · rw [World.size_alloc] at hat; omega

set_option maxRecDepth 100000 in
set_option maxHeartbeats 400000 in
theorem specRch_any (bs : Int) (A : Option Addr) (n c : Nat) (ls : List L3) (B : Option Addr) (m d : Nat) (ts : List Bool) (bus : Int) (w : World) (hn : n ≤ 1048576) (hr : RowL w A n ls) (hm : m ≤ 1048576) (hrt : RowT w B m ts) :
    Calls Tryd.prog 61 #[.agg #[.int .i64 bs, .slice A n c], .slice B m d, .int .i64 bus] w fun e w' => ∃ v, e = .returned v ∧ OwnI 3 w' w.heap.size v (rchF bs ls ts bus) ∧ Below w.heap.size w w' := by
  obtain ⟨i0, hi, hz0, hz1, hz2⟩ := info_parts intInfo6
  have HI := Lib.hid hi
  have HR := Lib.hid hr
  have HT := Lib.hid hrt
  have HLR := Lib.hid hr.1
  have HL := Lib.hid hrt.len
  have hown0 := own_lit (w.alloc (.cells #[.int .i64 bs, .slice A n c] 25))
  simp only [World.size_alloc] at hown0
  have HO0 := Lib.hid hown0
  clear hr hrt hi hown0
  have b0 : Below w.heap.size w ((w.alloc (.cells #[.int .i64 bs, .slice A n c] 25)).alloc (.cells #[] 3)) := (below_bx w _).alloc (by simp) _
  have K0 := Lib.hid ((IsBlk.new w 25 #[.int .i64 bs, .slice A n c]).alloc (.cells #[] 3))
  go_enter Tryd.func61, Tryd.ntmps61
  go_upto_region 2 with fail
  generalize hW0 : (w.alloc (.cells #[.int .i64 bs, .slice A n c] 25)).alloc (.cells #[] 3) = W0 at *
  have hz0' : w.heap.size + 2 = W0.heap.size := by rw [← hW0]; simp
  have HZ0 := Lib.hid hz0'
  clear hW0 hz0'
  obtain ⟨p0, p1, _, _⟩ := K0.out.two
  go_wp2_with fail
  refine (specStateValid_any bs _ n c ls _ m d _ hn (HR.out.below b0) (by omega)).mono ?_
  rintro e w1 ⟨rfl, hb1⟩
  have a1 : Below w.heap.size w w1 := b0.trans (hb1.mono b0.size)
  have K1 := Lib.hid (K0.out.keep hb1)
  have HO1 := Lib.hid (OwnI.keep HO0.out hb1)
  have hz1' : w.heap.size + 2 ≤ w1.heap.size := by have := hb1.size; have := HZ0.out; omega
  clear p0 p1 K0 HO0
  obtain ⟨p0, p1, _, _⟩ := K1.out.two
  by_cases hs : stOk bs ls m = true
  · have hbs := stOk_bs hs
    have HN := Lib.hid (stOk_net hs)
    obtain rfl : m = n := by have := (stOk_len hs).1; have := HLR.out; omega
    obtain ⟨nb, rfl⟩ := Int.eq_ofNat_of_zero_le (show 0 ≤ bs by omega)
    have hnb : nb ≤ 8 := by omega
    rw [hs]
    by_cases hin : inB bus 0 ((nb : Int) - 1) = true
    · have hin2 := hin
      simp [inB] at hin2
      obtain ⟨a, rfl⟩ := Int.eq_ofNat_of_zero_le hin2.1
      have ha : a < nb := by omega
      have HA := Lib.hid (show rchF nb ls ts a = ofN (rchTo (edgesOn ls ts) a nb) by rw [rchF, HL.out, if_pos ⟨hs, hin⟩, rchTo_all]; rfl)
      have HIN := Lib.hid hin
      clear hin hin2 hs
      go_wp2_with fail
      refine (l1In_any _ _ _ _).mono ?_
      rintro e w' ⟨rfl, rfl⟩
      rw [HIN.out]
      go_wp2_with fail
      refine (l3Reach_any nb _ m c ls _ d ts a _ (HR.out.below a1) (HT.out.below a1) HN.out ha).mono ?_
      rintro e w2 ⟨v2, rfl, hO2, hb2⟩
      have a2 : Below w.heap.size w w2 := a1.trans (hb2.mono a1.size)
      have K2 := Lib.hid (K1.out.keep hb2)
      have HO2 := Lib.hid (OwnI.keep HO1.out hb2)
      have hS : ∃ g2 c2 t2 cur2, v2 = .slice (some ⟨g2, 0, none⟩) nb c2 ∧ w1.heap.size ≤ g2 ∧ IsBlk w2 g2 t2 cur2 ∧ cur2.toList.take nb = (reachL (edgesOn ls ts) nb a).map Value.bool := by
        rcases hO2 with ⟨_, _, _, h⟩ | ⟨h0, g2, c2, t2, cur2, h1, h2, h3, h4, h5, h6⟩
        · have := reachL_len (edgesOn ls ts) nb a; rw [h] at this; simp at this; omega
        · rw [reachL_len] at h1 h6; exact ⟨g2, c2, t2, cur2, h1, h2, h3, h6⟩
      obtain ⟨g2, c2, t2, cur2, rfl, hg2, hk2, htk⟩ := hS
      have HTK := Lib.hid htk
      have HK2 := Lib.hid hk2
      have hz2' : w.heap.size + 2 ≤ w2.heap.size := by have := hb2.size; omega
      have hg2' : w.heap.size + 2 ≤ g2 := by omega
      clear p0 p1 K1 HO1 hO2 hg2 htk hk2
      have ST := Lib.hid (show RchSt w w2 (nb : Int) m c A g2 t2 cur2 (.slice (some ⟨w.heap.size + 1, 0, none⟩) 0 0) [] from ⟨HO2.out, a2, K2.out, HK2.out, fun e => by
        have e' : w.heap.size + 1 = g2 := by simpa [Value.ownBlock] using e
        omega⟩)
      clear HO2 a2 K2 HK2
      go_wp2
      go_loopw [7, 9] (fun v i wr => ∃ k : Nat, k ≤ nb ∧ i = .int .i64 k ∧ RchSt w wr (nb : Int) m c A g2 t2 cur2 v (ofN (rchTo (edgesOn ls ts) a k))) (fun _ i _ => nb - (intOf i).toNat)
      case atStart => exact ⟨0, by omega, rfl, ST.out⟩
      case round =>
        obtain ⟨k, hk, rfl, hst⟩ := hrel
        have SK := Lib.hid hst
        clear hst ST
        obtain ⟨r0, r1, _, _⟩ := SK.out.box.two
        by_cases hlt : k < nb
        · have g0 : wr.cell? ⟨g2, k, none⟩ = some (.bool (connB (edgesOn ls ts) a k)) := by
            rw [SK.out.blk.cell, ← Array.getElem?_toList]
            have := congrArg (fun l => l[k]?) HTK.out
            simp only [List.getElem?_map, reachL_get hlt, List.getElem?_take_of_lt hlt] at this
            exact this
          have q0 : (0 : Int) ≤ (k : Int) := by omega
          have q1 : (k : Int) < (nb : Int) := by omega
          have HN2 := Lib.hid (rchTo_next (edgesOn ls ts) a k)
          have hle2 : (ofN (rchTo (edgesOn ls ts) a k)).length ≤ k := by rw [ofN_len]; exact rchTo_len (edgesOn ls ts) a k
          have hzr := SK.out.bel.size
          have hg3 := SK.out.blk.lt
          cases hcb : connB (edgesOn ls ts) a k
          · rw [hcb] at g0 HN2
            clear hcb
            go_wp2
            go_roundw
            case rel => exact ⟨k + 1, by omega, by go_num, by rw [HN2.out]; simpa using SK.out⟩
            case measure => simp [intOf]; omega
          · rw [hcb] at g0 HN2
            clear hcb
            go_wp2_with (
              at_builtin
              refine wpList_append_lies _ rfl _ _ _ rfl (w.heap.size + 1) 3 i0 (.int .i64 0) 1 8 Tryd.underlying28 HI.out hz0 hz1 hz2 rfl (by decide) _ _ _ rfl (World.ownsRow.alloc SK.out.own _) ⟨wr.heap.size, 0, none⟩ 1 1 [.int .i64 (k : Int)] rfl rfl ?c1 ?c2 ?c0 ?c3 ?c4 ?c5 _ rfl ?_
              case c1 => exact cell_one_new _ _ _
              case c2 => intro u hu; simp at hu; subst hu; rfl
              case c0 => omega
              case c3 => simp only [maxLen]; omega
              case c4 => omega
              case c5 => simp; omega
              intro g' cap' w3 hown' hgrow hat hlt3
              have S3 := Lib.hid (SK.out.push (zs' := ofN (rchTo (edgesOn ls ts) a (k + 1))) (.cells #[.int .i64 (k : Int)] 3) (by rw [HN2.out]; simpa [OwnI] using hown') hgrow hat))
            go_roundw
            case rel => exact ⟨k + 1, by omega, by go_num, S3.out⟩
            case measure => simp [intOf]; omega
        · go_wp2
          go_ret
          obtain rfl : k = nb := by omega
          exact ⟨_, rfl, by rw [HA.out]; exact OwnI.more SK.out.own (by omega), SK.out.bel⟩
    · have HA := Lib.hid (show rchF nb ls ts bus = [] by rw [rchF, HL.out, if_neg (by rintro ⟨_, h⟩; exact hin h)])
      rw [Bool.not_eq_true] at hin
      have HIN := Lib.hid hin
      clear hin hs
      go_wp2_with fail
      refine (l1In_any _ _ _ _).mono ?_
      rintro e w' ⟨rfl, rfl⟩
      rw [HIN.out]
      go_wp2
      go_ret
      exact ⟨_, rfl, by rw [HA.out]; exact OwnI.more HO1.out (by omega), a1⟩
  · have hs' : stOk bs ls m = false := by rwa [Bool.not_eq_true] at hs
    have HA := Lib.hid (show rchF bs ls ts bus = [] by rw [rchF, HL.out, if_neg (by rintro ⟨h, _⟩; rw [hs'] at h; cases h)])
    rw [hs']
    clear hs hs'
    go_wp2
    go_ret
    exact ⟨_, rfl, by rw [HA.out]; exact OwnI.more HO1.out (by omega), a1⟩
end Go.Proofs.YtpmkeagdoehbhaaDoor

/- IslandNumbers and SameIsland, of the model. -/
namespace Go.Proofs.YtpmkeagdoehbhaaDoor
open Go.ChangeShapes Go.WideShapes Go.ChangeAt Go.RowKit

theorem l1Has_any (A : Option Addr) (n c : Nat) (zs : List Int) (x : Int) (w : World) (hn : n ≤ 1048576) (hr : RowZ w A n zs) :
    Calls Tryd.prog 81 #[.slice A n c, .int .i64 x] w fun e w' => e = .returned (.bool (decide (x ∈ zs))) ∧ w = w' := by
  have HR := Lib.hid hr
  have HL := Lib.hid hr.len
  clear hr
  go_enter Tryd.func81, Tryd.ntmps81
  go_wp2
  go_loop [5] (fun i => ∃ k : Nat, k ≤ n ∧ i = .int .i64 k ∧ ∀ j, j < k → ∀ y, zs[j]? = some y → y ≠ x) (fun i => n - (intOf i).toNat)
  case atStart => exact ⟨0, by omega, rfl, by intro j hj; omega⟩
  case round =>
    obtain ⟨k, hk, rfl, hno⟩ := hrel
    have HN := Lib.hid hno
    clear hno
    by_cases hlt : k < n
    · obtain ⟨b, off, y, rfl, hb, hky, g0⟩ := HR.out.at_ hlt
      have HK := Lib.hid hky
      have q0 : (0 : Int) ≤ (k : Int) := by omega
      have q1 : (k : Int) < (n : Int) := by omega
      clear hky
      by_cases hx : y = x
      · subst hx
        go_wp2
        go_ret
        exact ⟨retB (by rw [eq_comm, decide_eq_true_eq]; exact List.mem_of_getElem? HK.out), rfl⟩
      · have hxb : (y == x) = false := by simpa using hx
        go_wp2
        go_round
        case rel =>
          refine ⟨k + 1, by omega, by go_num, fun j hj z hz => ?_⟩
          rcases Nat.lt_or_ge j k with h1 | h1
          · exact HN.out j h1 z hz
          · obtain rfl : j = k := by omega
            rw [HK.out] at hz; cases hz; exact hx
        case measure => simp [intOf]; omega
    · go_wp2
      go_ret
      obtain rfl : k = n := by omega
      refine ⟨retB ?_, rfl⟩
      rw [eq_comm, decide_eq_false_iff_not]
      intro hm
      obtain ⟨j, hj, he⟩ := List.getElem_of_mem hm
      exact HN.out j (by have := HL.out; omega) _ (List.getElem?_eq_getElem hj) he

theorem samF_rch (bs : Int) (ls : List L3) (ts : List Bool) (x y : Int) : decide (y ∈ rchF bs ls ts x) = samF bs ls ts x y := by
  rw [Bool.eq_iff_iff, decide_eq_true_eq, rchF]
  by_cases hs : stOk bs ls ts.length = true
  · by_cases hx : inB x 0 (bs - 1) = true
    · rw [if_pos ⟨hs, hx⟩]
      simp only [samF, hs, hx, Bool.true_and, Bool.and_eq_true, connB_iff]
      rw [ofN, List.mem_map]
      constructor
      · rintro ⟨b, hb, rfl⟩
        obtain ⟨h1, h2⟩ := mem_reachF.1 hb
        exact ⟨by simp [inB]; omega, by simpa using h2⟩
      · rintro ⟨h1, h2⟩
        simp [inB] at h1
        refine ⟨y.toNat, mem_reachF.2 ⟨by omega, h2⟩, by simp; omega⟩
    · rw [if_neg (fun h => hx h.2)]
      simp [samF, hx]
  · rw [if_neg (fun h => hs h.1)]
    simp [samF, hs]

set_option maxRecDepth 100000 in
set_option maxHeartbeats 400000 in
theorem specSam_any (bs : Int) (A : Option Addr) (n c : Nat) (ls : List L3) (B : Option Addr) (m d : Nat) (ts : List Bool) (x y : Int) (w : World) (hn : n ≤ 1048576) (hr : RowL w A n ls) (hm : m ≤ 1048576) (hrt : RowT w B m ts) :
    Calls Tryd.prog 67 #[.agg #[.int .i64 bs, .slice A n c], .slice B m d, .int .i64 x, .int .i64 y] w fun e w' => e = .returned (.bool (samF bs ls ts x y)) ∧ Below w.heap.size w w' := by
  have HR := Lib.hid hr
  have HT := Lib.hid hrt
  have HS := Lib.hid (samF_rch bs ls ts x y)
  clear hr hrt
  go_enter Tryd.func67, Tryd.ntmps67
  go_wp2_with fail
  refine (specRch_any bs _ n c ls _ m d ts x _ hn (HR.out.below (below_bx w _)) hm (HT.out.below (below_bx w _))).mono ?_
  rintro e w1 ⟨v, rfl, hO, hb1⟩
  have a1 : Below w.heap.size w w1 := (below_bx w _).trans (hb1.mono (by simp))
  obtain ⟨A1, c1, rfl, hz⟩ := hO.sl
  have HZ := Lib.hid hz
  have hl8 := rchF_len bs ls ts x
  clear hz hO
  go_wp2_with fail
  refine (l1Has_any _ _ c1 (rchF bs ls ts x) y _ (by omega) HZ.out).mono ?_
  rintro e w' ⟨rfl, rfl⟩
  rw [HS.out]
  go_wp2
  go_ret
  exact ⟨rfl, a1⟩

/-- While the numbers of the islands are listed. -/
structure NumSt (w wr : World) (bs : Int) (n c : Nat) (A : Option Addr) (v : Value) (zs : List Int) : Prop where
  own : OwnI 3 wr (w.heap.size + 1) v zs
  bel : Below w.heap.size w wr
  box : IsBlk wr w.heap.size 25 #[.int .i64 bs, .slice A n c]
section
variable {w wr w' : World} {bs : Int} {n c : Nat} {A : Option Addr} {v v' : Value} {zs zs' : List Int}
theorem NumSt.next (h : NumSt w wr bs n c A v zs) (hb : Below wr.heap.size wr w') : NumSt w w' bs n c A v zs := ⟨OwnI.keep h.own hb, h.bel.trans (hb.mono h.bel.size), h.box.keep hb⟩
theorem NumSt.push (h : NumSt w wr bs n c A v zs) (o : Obj) (hown : OwnI 3 w' (w.heap.size + 1) v' zs') (hg : (wr.alloc o).grownBy w' v.ownBlock) : NumSt w w' bs n c A v' zs' := by
  have hlow := OwnI.lt h.own
  have hsz := h.bel.size
  refine ⟨hown, (h.bel.alloc hsz o).grown hg (by simp; omega) (fun q hq => by have := (hlow q hq).1; omega), ?_⟩
  exact (h.box.alloc o).farG hg (fun e => by have := (hlow _ e).1; omega)
end
theorem islTo_next {es : List E2} {nb k : Nat} (h : k < nb) : ofN ((islL es nb).take (k + 1)) = ofN ((islL es nb).take k) ++ [(leastF es k : Int)] := by
  rw [List.take_add_one, islL_get h]; simp [ofN]
theorem rchF_at {bs : Int} {ls : List L3} {ts : List Bool} {k : Nat} (hs : stOk bs ls ts.length = true) (hk : k < bs.toNat) : (rchF bs ls ts k)[0]? = some (leastF (edgesOn ls ts) k : Int) ∧ 0 < (rchF bs ls ts k).length := by
  have e : rchF bs ls ts k = ofN (reachF (edgesOn ls ts) bs.toNat k) := by rw [rchF, if_pos ⟨hs, by simp [inB]; omega⟩]; rfl
  have h0 := reachF_head (es := edgesOn ls ts) hk
  rw [List.head?_eq_getElem?] at h0
  rw [e]
  refine ⟨ofN_get h0, ?_⟩
  rw [ofN_len]
  exact (List.getElem?_eq_some_iff.1 h0).1

end Go.Proofs.YtpmkeagdoehbhaaDoor

/- Slices of slices of numbers, of the call's own: what they are, how they stay, how they grow. -/
namespace Go.Proofs.YtpmkeagdoehbhaaDoor
open Go.ChangeShapes Go.WideShapes Go.ChangeAt Go.RowKit

theorem sliceInfo : (Tryd.prog.info? 28).map (fun i => (i.zero, i.size, i.bytes)) = some (some (.slice none 0 0), 1, 24) := by kernel_rfl

/-- A slice of slices of numbers, all of the call's own from base on, no two in one block. -/
structure OwnVS (w : World) (base : Nat) (v : Value) (vs : List Value) (xss : List (List Int)) : Prop where
  row : w.ownsRow base 28 1 v xss.length vs
  each : ∀ (k : Nat) (u : Value) (zs : List Int), vs[k]? = some u → xss[k]? = some zs → OwnI 3 w base u zs
  off : ∀ (k : Nat) (u : Value) (q : Nat), vs[k]? = some u → u.ownBlock = some q → v.ownBlock ≠ some q
  apart : ∀ (j k : Nat) (u u' : Value) (q : Nat), vs[j]? = some u → vs[k]? = some u' → u.ownBlock = some q → u'.ownBlock = some q → j = k
def OwnSS (w : World) (base : Nat) (v : Value) (xss : List (List Int)) : Prop := ∃ vs, OwnVS w base v vs xss
section
variable {w w' : World} {base : Nat} {v u : Value} {vs : List Value} {xss : List (List Int)}
theorem OwnVS.len (h : OwnVS w base v vs xss) : vs.length = xss.length := by have := h.row.1; omega
theorem OwnVS.nil {w : World} {base : Nat} : OwnVS w base (.slice none 0 0) [] [] :=
  ⟨World.ownsRow_nil _ _ _ _, fun k u zs h => by simp at h, fun k u q h => by simp at h, fun j k u u' q h => by simp at h⟩
theorem OwnVS.lit (w : World) : OwnVS (w.alloc (.cells #[] 28)) w.heap.size (.slice (some ⟨w.heap.size, 0, none⟩) 0 0) [] [] :=
  ⟨by have := World.ownsRow_lit (base := w.heap.size) (size := 1) (e := 28) w #[] 0 (by omega) (by decide) rfl; simpa using this, fun k u zs h => by simp at h, fun k u q h => by simp at h, fun j k u u' q h => by simp at h⟩
theorem OwnVS.grow (h : OwnVS w base v vs xss) {row : Option Nat} (hg : w.grownBy w' row) (h1 : ∀ q, row = some q → q < base) : OwnVS w' base v vs xss := by
  have far : ∀ u' : Value, (∀ q, u'.ownBlock = some q → base ≤ q) → u'.ownBlock = none ∨ u'.ownBlock ≠ row := by
    intro u' hu
    rcases hq : u'.ownBlock with _ | q
    · exact .inl rfl
    · exact .inr (fun e => by have := h1 q e.symm; have := hu q hq; omega)
  refine ⟨?_, fun k u zs hu hz => ?_, h.off, h.apart⟩
  · exact World.ownsRow.kept h.row hg (far v (fun q hq => (World.ownsRow.lt h.row q hq).1))
  · exact World.ownsRow.kept (h.each k u zs hu hz) hg (far u (fun q hq => (World.ownsRow.lt (h.each k u zs hu hz) q hq).1))
theorem OwnVS.keep (h : OwnVS w base v vs xss) (hb : Below w.heap.size w w') : OwnVS w' base v vs xss := by
  have hg : w.grownBy w' none := ⟨hb.os, hb.tape, hb.output, hb.size, fun i hi _ => hb.block i hi⟩
  exact h.grow hg (fun q hq => by cases hq)
theorem OwnVS.more {base' : Nat} (h : OwnVS w base v vs xss) (hb : base' ≤ base) : OwnVS w base' v vs xss := by
  refine ⟨⟨h.row.1, ?_⟩, fun k u zs hu hz => (h.each k u zs hu hz).more hb, h.off, h.apart⟩
  rcases h.row.2 with h2 | ⟨g, cap, cur, h1, h2, h3⟩
  · exact .inl h2
  · exact .inr ⟨g, cap, cur, h1, Nat.le_trans hb h2, h3⟩
/-- A slice that was made later is appended. -/
theorem OwnVS.push {w0 : World} {zs : List Int} {g' n' cap' : Nat} (h : OwnVS w0 base v vs xss) (hb : Below w0.heap.size w0 w) (hu : OwnI 3 w w0.heap.size u zs) (hbase : base ≤ w0.heap.size) (o : Obj)
    (hown : w'.ownsRow base 28 1 (.slice (some ⟨g', 0, none⟩) n' cap') (xss.length + 1) (vs ++ [u])) (hg : (w.alloc o).grownBy w' v.ownBlock) (hat : v.ownBlock = some g' ∨ g' = (w.alloc o).heap.size) :
    OwnVS w' base (.slice (some ⟨g', 0, none⟩) n' cap') (vs ++ [u]) (xss ++ [zs]) := by
  have hl := h.len
  have hv : ∀ q, v.ownBlock = some q → base ≤ q ∧ q < w0.heap.size := fun q hq => World.ownsRow.lt h.row q hq
  have hul := OwnI.lt hu
  have hsz := hb.size
  have each : ∀ (k : Nat) (u' : Value) (q : Nat), vs[k]? = some u' → u'.ownBlock = some q → base ≤ q ∧ q < w0.heap.size := by
    intro k u' q hk hq
    obtain ⟨zs', hz⟩ : ∃ zs', xss[k]? = some zs' := ⟨_, List.getElem?_eq_getElem (by have := (List.getElem?_eq_some_iff.1 hk).1; omega)⟩
    exact OwnI.lt (h.each k u' zs' hk hz) q hq
  have at_ : ∀ {α : Type} {l : List α} {x y : α} {k : Nat}, (l ++ [x])[k]? = some y → (k < l.length ∧ l[k]? = some y) ∨ (k = l.length ∧ y = x) := by
    intro α l x y k hk
    rcases Nat.lt_or_ge k l.length with h1 | h1
    · rw [List.getElem?_append_left h1] at hk; exact .inl ⟨h1, hk⟩
    · have h2 : k < (l ++ [x]).length := (List.getElem?_eq_some_iff.1 hk).1
      have h3 : k = l.length := by simp at h2; omega
      subst h3
      simp at hk; exact .inr ⟨rfl, hk.symm⟩
  have newOff : ∀ q, q < w.heap.size → v.ownBlock ≠ some q → (Value.slice (some ⟨g', 0, none⟩) n' cap').ownBlock ≠ some q := by
    intro q hq hne e
    have e' : g' = q := by simpa [Value.ownBlock] using e
    rcases hat with hat | hat
    · exact hne (by rw [hat, e'])
    · rw [World.size_alloc] at hat; omega
  refine ⟨by simpa using hown, fun k u' zs' hk hz => ?_, fun k u' q hk hq => ?_, fun j k u1 u2 q hj hk h1 h2 => ?_⟩
  · rcases at_ hk with ⟨hk1, hk2⟩ | ⟨hk1, rfl⟩
    · rw [List.getElem?_append_left (by omega)] at hz
      have h0 : OwnI 3 w base u' zs' := OwnI.keep (h.each k u' zs' hk2 hz) hb
      exact OwnI.far (h0.alloc o) hg (fun q hq e => h.off k u' q hk2 hq e)
    · have hz' : zs' = zs := by
        have : (xss ++ [zs])[xss.length]? = some zs' := by rw [← hl, ← hk1]; exact hz
        simpa using this.symm
      subst hz'
      exact OwnI.far ((hu.more hbase).alloc o) hg (fun q hq e => by have := (hul q hq).1; have := (hv q e).2; omega)
  · rcases at_ hk with ⟨hk1, hk2⟩ | ⟨hk1, rfl⟩
    · exact newOff q (by have := (each k u' q hk2 hq).2; omega) (h.off k u' q hk2 hq)
    · exact newOff q (hul q hq).2 (fun e => by have := (hul q hq).1; have := (hv q e).2; omega)
  · rcases at_ hj with ⟨hj1, hj2⟩ | ⟨hj1, rfl⟩
    · rcases at_ hk with ⟨hk1, hk2⟩ | ⟨hk1, rfl⟩
      · exact h.apart j k u1 u2 q hj2 hk2 h1 h2
      · have := (each j u1 q hj2 h1).2; have := (hul q h2).1; omega
    · rcases at_ hk with ⟨hk1, hk2⟩ | ⟨hk1, rfl⟩
      · have := (each k u2 q hk2 h2).2; have := (hul q h1).1; omega
      · omega
/-- One row, and what is left when it is written anew. -/
theorem OwnSS.at_ {k : Nat} (h : OwnSS w base v xss) (hk : k < xss.length) : ∃ g cap u zs, v = .slice (some ⟨g, 0, none⟩) xss.length cap ∧ base ≤ g ∧ g < w.heap.size ∧ xss[k]? = some zs ∧ w.cell? ⟨g, k, none⟩ = some u ∧ OwnI 3 w base u zs ∧
    ∀ (w' : World) (zs' : List Int), w.grownBy w' u.ownBlock → OwnI 3 w' base u zs' → OwnSS w' base v (xss.set k zs') := by
  obtain ⟨vs, h⟩ := h
  have hl := h.len
  rcases h.row.2 with ⟨h1, h2⟩ | ⟨g, cap, cur, h1, h2, h3, h4, h5, h6, h7⟩
  · omega
  · obtain ⟨u, hu⟩ : ∃ u, vs[k]? = some u := ⟨_, List.getElem?_eq_getElem (by omega)⟩
    obtain ⟨zs, hz⟩ : ∃ zs, xss[k]? = some zs := ⟨_, List.getElem?_eq_getElem hk⟩
    have hg : IsBlk w g 28 cur := h3
    refine ⟨g, cap, u, zs, h1, h2, hg.lt, hz, ?_, h.each k u zs hu hz, fun w' zs' hgr hown => ?_⟩
    · rw [hg.cell, ← Array.getElem?_toList]
      rw [Nat.mul_one] at h7
      rw [← h7, List.getElem?_take_of_lt hk] at hu
      exact hu
    · refine ⟨vs, ⟨?_, fun j u' zs2 hj hz2 => ?_, h.off, h.apart⟩⟩
      · rw [List.length_set]
        refine World.ownsRow.kept h.row hgr ?_
        rcases hq : v.ownBlock with _ | q
        · exact .inl rfl
        · exact .inr (fun e => h.off k u q hu e.symm hq)
      · by_cases hjk : k = j
        · subst hjk
          rw [List.getElem?_set_self hk] at hz2
          injection hz2 with hz2; subst hz2
          rw [hu] at hj; injection hj with hj; subst hj
          exact hown
        · rw [List.getElem?_set_ne hjk] at hz2
          refine OwnI.far (h.each j u' zs2 hj hz2) hgr (fun q hq e => hjk (h.apart k j u u' q hu hj e hq))
theorem OwnSS.form (h : OwnSS w base v xss) : ∃ A cap, v = .slice A xss.length cap := by
  obtain ⟨vs, h⟩ := h
  rcases h.row.2 with ⟨h1, h2⟩ | ⟨g, cap, cur, h1, h2⟩
  · exact ⟨none, 0, by rw [h2]; exact h1⟩
  · exact ⟨_, cap, h1⟩
theorem OwnSS.keep (h : OwnSS w base v xss) (hb : Below w.heap.size w w') : OwnSS w' base v xss := let ⟨vs, h⟩ := h; ⟨vs, h.keep hb⟩
theorem OwnSS.alloc (h : OwnSS w base v xss) (o : Obj) : OwnSS (w.alloc o) base v xss := h.keep (below_bx w o)
theorem OwnSS.grow (h : OwnSS w base v xss) {row : Option Nat} (hg : w.grownBy w' row) (h1 : ∀ q, row = some q → q < base) : OwnSS w' base v xss := let ⟨vs, h⟩ := h; ⟨vs, h.grow hg h1⟩
theorem OwnSS.more {base' : Nat} (h : OwnSS w base v xss) (hb : base' ≤ base) : OwnSS w base' v xss := let ⟨vs, h⟩ := h; ⟨vs, h.more hb⟩
theorem OwnSS.drewN (h : OwnSS w base v xss) (n : Nat) : OwnSS (w.drewN n) base v xss := h.keep (below_drewN (Below.refl _ _) n)
end
end Go.Proofs.YtpmkeagdoehbhaaDoor

/- IslandsOf, of the program and of the model. -/
namespace Go.Proofs.YtpmkeagdoehbhaaDoor
open Go.ChangeShapes Go.WideShapes Go.ChangeAt Go.RowKit

/-- The islands whose first bus is less than k. -/
noncomputable def iofTo (es : List E2) (nb k : Nat) : List (List Int) := (heads es k).map fun b => ofN (reachF es nb b)
theorem iofTo_yes {es : List E2} {nb k : Nat} (h : leastF es k = k) : iofTo es nb (k + 1) = iofTo es nb k ++ [ofN (reachF es nb k)] := by rw [iofTo, heads_yes h, List.map_append]; rfl
theorem iofTo_no {es : List E2} {nb k : Nat} (h : leastF es k ≠ k) : iofTo es nb (k + 1) = iofTo es nb k := by rw [iofTo, heads_no h]; rfl
theorem iofTo_len (es : List E2) (nb k : Nat) : (iofTo es nb k).length ≤ k := by rw [iofTo, List.length_map]; exact heads_len es k

end Go.Proofs.YtpmkeagdoehbhaaDoor
