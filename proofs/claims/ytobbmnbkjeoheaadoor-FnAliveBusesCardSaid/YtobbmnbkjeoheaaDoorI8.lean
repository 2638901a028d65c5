/- Reached, IslandNumbers, SameIsland, of the model. -/
import Derived.Test.YtobbmnbkjeoheaaDoorI7
namespace Go.Proofs.YtobbmnbkjeoheaaDoor
open Go.ChangeShapes Go.WideShapes Go.ChangeAt Go.RowKit

theorem own_lit (w : World) : OwnI 3 (w.alloc (.cells #[] 3)) w.heap.size (.slice (some ⟨w.heap.size, 0, none⟩) 0 0) [] := by
  have := World.ownsRow_lit (base := w.heap.size) (size := 1) (e := 3) w #[] 0 (by omega) (by decide) rfl
  simpa [OwnI] using this

/-- While a list grows beside a block that is read. -/
structure RchSt (w wr : World) (bs : Int) (n c : Nat) (A : Option Addr) (g2 : Nat) (t2 : TypeId) (cur2 : Array Value) (v : Value) (zs : List Int) : Prop where
  own : OwnI 3 wr (w.heap.size + 1) v zs
  bel : Below w.heap.size w wr
  box : IsBlk wr w.heap.size 25 #[.int .i64 bs, .slice A n c]
  blk : IsBlk wr g2 t2 cur2
  far : v.ownBlock ≠ some g2
theorem RchSt.push {w wr w' : World} {bs : Int} {n c : Nat} {A : Option Addr} {g2 : Nat} {t2 : TypeId} {cur2 : Array Value} {v : Value} {zs zs' : List Int} {g' n' cap' : Nat} (h : RchSt w wr bs n c A g2 t2 cur2 v zs) (o : Obj)
    (hown : OwnI 3 w' (w.heap.size + 1) (.slice (some ⟨g', 0, none⟩) n' cap') zs') (hg : (wr.alloc o).grownBy w' v.ownBlock) (hat : v.ownBlock = some g' ∨ g' = (wr.alloc o).heap.size) :
    RchSt w w' bs n c A g2 t2 cur2 (.slice (some ⟨g', 0, none⟩) n' cap') zs' := by
  have hlow := OwnI.lt h.own
  have hk := h.blk.lt
  have hsz := h.bel.size
  have hb := h.box.lt
  refine ⟨hown, (h.bel.alloc hsz o).grown hg (by simp; omega) (fun q hq => by have := (hlow q hq).1; omega), ?_, ?_, ?_⟩
  · exact (h.box.alloc o).farG hg (fun e => by have := (hlow _ e).1; omega)
  · exact (h.blk.alloc o).farG hg (fun e => h.far e)
  · intro e
    have e' : g' = g2 := by simpa [Value.ownBlock] using e
    rcases hat with hat | hat
    · exact h.far (by rw [hat, e'])
    · rw [World.size_alloc] at hat; omega

set_option maxRecDepth 100000 in
set_option maxHeartbeats 400000 in
theorem specRch_any (bs : Int) (A : Option Addr) (n c : Nat) (ls : List L3) (B : Option Addr) (m d : Nat) (ts : List Bool) (bus : Int) (w : World) (hn : n ≤ 1048576) (hr : RowL w A n ls) (hm : m ≤ 1048576) (hrt : RowT w B m ts) :
    Calls Tryd.prog 47 #[.agg #[.int .i64 bs, .slice A n c], .slice B m d, .int .i64 bus] w fun e w' => ∃ v, e = .returned v ∧ OwnI 3 w' w.heap.size v (rchF bs ls ts bus) ∧ Below w.heap.size w w' := by
  obtain ⟨i0, hi, hz0, hz1, hz2⟩ := info_parts intInfo6
  have HI := Lib.hid hi
  have HR := Lib.hid hr
  have HT := Lib.hid hrt
  have HLR := Lib.hid hr.1
  have HL := Lib.hid hrt.len
  have hown0 := own_lit (w.alloc (.cells #[.int .i64 bs, .slice A n c] 25))
  simp only [World.size_alloc] at hown0
  have HO0 := Lib.hid hown0
  clear hr hrt hi hown0
  have b0 : Below w.heap.size w ((w.alloc (.cells #[.int .i64 bs, .slice A n c] 25)).alloc (.cells #[] 3)) := (below_bx w _).alloc (by simp) _
  have K0 := Lib.hid ((IsBlk.new w 25 #[.int .i64 bs, .slice A n c]).alloc (.cells #[] 3))
  go_enter Tryd.func47, Tryd.ntmps47
  go_upto_region 2 with fail
  generalize hW0 : (w.alloc (.cells #[.int .i64 bs, .slice A n c] 25)).alloc (.cells #[] 3) = W0 at *
  have hz0' : w.heap.size + 2 = W0.heap.size := by rw [← hW0]; simp
  have HZ0 := Lib.hid hz0'
  clear hW0 hz0'
  obtain ⟨p0, p1, _, _⟩ := K0.out.two
  go_wp2_with fail
  refine (specStateValid_any bs _ n c ls _ m d _ hn (HR.out.below b0) (by omega)).mono ?_
  rintro e w1 ⟨rfl, hb1⟩
  have a1 : Below w.heap.size w w1 := b0.trans (hb1.mono b0.size)
  have K1 := Lib.hid (K0.out.keep hb1)
  have HO1 := Lib.hid (OwnI.keep HO0.out hb1)
  have hz1' : w.heap.size + 2 ≤ w1.heap.size := by have := hb1.size; have := HZ0.out; omega
  clear p0 p1 K0 HO0
  obtain ⟨p0, p1, _, _⟩ := K1.out.two
  by_cases hs : stOk bs ls m = true
  · have hbs := stOk_bs hs
    have HN := Lib.hid (stOk_net hs)
    obtain rfl : m = n := by have := (stOk_len hs).1; have := HLR.out; omega
    obtain ⟨nb, rfl⟩ := Int.eq_ofNat_of_zero_le (show 0 ≤ bs by omega)
    have hnb : nb ≤ 8 := by omega
    rw [hs]
    by_cases hin : inB bus 0 ((nb : Int) - 1) = true
    · have hin2 := hin
      simp [inB] at hin2
      obtain ⟨a, rfl⟩ := Int.eq_ofNat_of_zero_le hin2.1
      have ha : a < nb := by omega
      have HA := Lib.hid (show rchF nb ls ts a = ofN (rchTo (edgesOn ls ts) a nb) by rw [rchF, HL.out, if_pos ⟨hs, hin⟩, rchTo_all]; rfl)
      have HIN := Lib.hid hin
      clear hin hin2 hs
      go_wp2_with fail
      refine (l1In_any _ _ _ _).mono ?_
      rintro e w' ⟨rfl, rfl⟩
      rw [HIN.out]
      go_wp2_with fail
      refine (l3Reach_any nb _ m c ls _ d ts a _ (HR.out.below a1) (HT.out.below a1) HN.out ha).mono ?_
      rintro e w2 ⟨v2, rfl, hO2, hb2⟩
      have a2 : Below w.heap.size w w2 := a1.trans (hb2.mono a1.size)
      have K2 := Lib.hid (K1.out.keep hb2)
      have HO2 := Lib.hid (OwnI.keep HO1.out hb2)
      have hS : ∃ g2 c2 t2 cur2, v2 = .slice (some ⟨g2, 0, none⟩) nb c2 ∧ w1.heap.size ≤ g2 ∧ IsBlk w2 g2 t2 cur2 ∧ cur2.toList.take nb = (reachL (edgesOn ls ts) nb a).map Value.bool := by
        rcases hO2 with ⟨_, _, _, h⟩ | ⟨h0, g2, c2, t2, cur2, h1, h2, h3, h4, h5, h6⟩
        · have := reachL_len (edgesOn ls ts) nb a; rw [h] at this; simp at this; omega
        · rw [reachL_len] at h1 h6; exact ⟨g2, c2, t2, cur2, h1, h2, h3, h6⟩
      obtain ⟨g2, c2, t2, cur2, rfl, hg2, hk2, htk⟩ := hS
      have HTK := Lib.hid htk
      have HK2 := Lib.hid hk2
      have hz2' : w.heap.size + 2 ≤ w2.heap.size := by have := hb2.size; omega
      have hg2' : w.heap.size + 2 ≤ g2 := by omega
      clear p0 p1 K1 HO1 hO2 hg2 htk hk2
      have ST := Lib.hid (show RchSt w w2 (nb : Int) m c A g2 t2 cur2 (.slice (some ⟨w.heap.size + 1, 0, none⟩) 0 0) [] from ⟨HO2.out, a2, K2.out, HK2.out, fun e => by
        have e' : w.heap.size + 1 = g2 := by simpa [Value.ownBlock] using e
        omega⟩)
      clear HO2 a2 K2 HK2
      go_wp2
      go_loopw [7, 9] (fun v i wr => ∃ k : Nat, k ≤ nb ∧ i = .int .i64 k ∧ RchSt w wr (nb : Int) m c A g2 t2 cur2 v (ofN (rchTo (edgesOn ls ts) a k))) (fun _ i _ => nb - (intOf i).toNat)
      case atStart => exact ⟨0, by omega, rfl, ST.out⟩
      case round =>
        obtain ⟨k, hk, rfl, hst⟩ := hrel
        have SK := Lib.hid hst
        clear hst ST
        obtain ⟨r0, r1, _, _⟩ := SK.out.box.two
        by_cases hlt : k < nb
        · have g0 : wr.cell? ⟨g2, k, none⟩ = some (.bool (connB (edgesOn ls ts) a k)) := by
            rw [SK.out.blk.cell, ← Array.getElem?_toList]
            have := congrArg (fun l => l[k]?) HTK.out
            simp only [List.getElem?_map, reachL_get hlt, List.getElem?_take_of_lt hlt] at this
            exact this
          have q0 : (0 : Int) ≤ (k : Int) := by omega
          have q1 : (k : Int) < (nb : Int) := by omega
          have HN2 := Lib.hid (rchTo_next (edgesOn ls ts) a k)
          have hle2 : (ofN (rchTo (edgesOn ls ts) a k)).length ≤ k := by rw [ofN_len]; exact rchTo_len (edgesOn ls ts) a k
          have hzr := SK.out.bel.size
          have hg3 := SK.out.blk.lt
          cases hcb : connB (edgesOn ls ts) a k
          · rw [hcb] at g0 HN2
            clear hcb
            go_wp2
            go_roundw
            case rel => exact ⟨k + 1, by omega, by go_num, by rw [HN2.out]; simpa using SK.out⟩
            case measure => simp [intOf]; omega
          · rw [hcb] at g0 HN2
            clear hcb
            go_wp2_with (
              at_builtin
              refine wpList_append_lies _ rfl _ _ _ rfl (w.heap.size + 1) 3 i0 (.int .i64 0) 1 8 Tryd.underlying42 HI.out hz0 hz1 hz2 rfl (by decide) _ _ _ rfl (World.ownsRow.alloc SK.out.own _) ⟨wr.heap.size, 0, none⟩ 1 1 [.int .i64 (k : Int)] rfl rfl ?c1 ?c2 ?c0 ?c3 ?c4 ?c5 _ rfl ?_
              case c1 => exact cell_one_new _ _ _
              case c2 => intro u hu; simp at hu; subst hu; rfl
              case c0 => omega
              case c3 => simp only [maxLen]; omega
              case c4 => omega
              case c5 => simp; omega
              intro g' cap' w3 hown' hgrow hat hlt3
              have S3 := Lib.hid (SK.out.push (zs' := ofN (rchTo (edgesOn ls ts) a (k + 1))) (.cells #[.int .i64 (k : Int)] 3) (by rw [HN2.out]; simpa [OwnI] using hown') hgrow hat))
            go_roundw
            case rel => exact ⟨k + 1, by omega, by go_num, S3.out⟩
            case measure => simp [intOf]; omega
        · go_wp2
          go_ret
          obtain rfl : k = nb := by omega
          exact ⟨_, rfl, by rw [HA.out]; exact OwnI.more SK.out.own (by omega), SK.out.bel⟩
    · have HA := Lib.hid (show rchF nb ls ts bus = [] by rw [rchF, HL.out, if_neg (by rintro ⟨_, h⟩; exact hin h)])
      rw [Bool.not_eq_true] at hin
      have HIN := Lib.hid hin
      clear hin hs
      go_wp2_with fail
      refine (l1In_any _ _ _ _).mono ?_
      rintro e w' ⟨rfl, rfl⟩
      rw [HIN.out]
      go_wp2
      go_ret
      exact ⟨_, rfl, by rw [HA.out]; exact OwnI.more HO1.out (by omega), a1⟩
  · have hs' : stOk bs ls m = false := by rwa [Bool.not_eq_true] at hs
    have HA := Lib.hid (show rchF bs ls ts bus = [] by rw [rchF, HL.out, if_neg (by rintro ⟨h, _⟩; rw [hs'] at h; cases h)])
    rw [hs']
    clear hs hs'
    go_wp2
    go_ret
    exact ⟨_, rfl, by rw [HA.out]; exact OwnI.more HO1.out (by omega), a1⟩
end Go.Proofs.YtobbmnbkjeoheaaDoor
