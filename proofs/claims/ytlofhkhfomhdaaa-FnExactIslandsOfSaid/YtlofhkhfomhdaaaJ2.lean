/- IslandsOf, of the model. -/
import Derived.Test.YtlofhkhfomhdaaaJ1
namespace Go.Proofs.Ytlofhkhfomhdaaa
open Go.ChangeShapes Go.WideShapes Go.ChangeAt Go.RowKit

/-- While the islands are listed beside the list of the numbers. -/
structure IofSt (w wr : World) (bs : Int) (n c : Nat) (A : Option Addr) (gz : Nat) (cz : Array Value) (v : Value) (vs : List Value) (xss : List (List Int)) : Prop where
  own : OwnVS wr (w.heap.size + 1) v vs xss
  bel : Below w.heap.size w wr
  box : IsBlk wr w.heap.size 31 #[.int .i64 bs, .slice A n c]
  blk : IsBlk wr gz 3 cz
  far : v.ownBlock ≠ some gz
section
variable {w wr w' : World} {bs : Int} {n c gz : Nat} {A : Option Addr} {cz : Array Value} {v : Value} {vs : List Value} {xss : List (List Int)}
theorem IofSt.next (h : IofSt w wr bs n c A gz cz v vs xss) (hb : Below wr.heap.size wr w') : IofSt w w' bs n c A gz cz v vs xss :=
  ⟨h.own.keep hb, h.bel.trans (hb.mono h.bel.size), h.box.keep hb, h.blk.keep hb, h.far⟩
theorem IofSt.push {w2 : World} {u : Value} {zs : List Int} {g' n' cap' : Nat} (h : IofSt w wr bs n c A gz cz v vs xss) (hb : Below wr.heap.size wr w2) (hu : OwnI 3 w2 wr.heap.size u zs) (o : Obj)
    (hown : w'.ownsRow (w.heap.size + 1) 27 1 (.slice (some ⟨g', 0, none⟩) n' cap') (xss.length + 1) (vs ++ [u])) (hg : (w2.alloc o).grownBy w' v.ownBlock) (hat : v.ownBlock = some g' ∨ g' = (w2.alloc o).heap.size) :
    IofSt w w' bs n c A gz cz (.slice (some ⟨g', 0, none⟩) n' cap') (vs ++ [u]) (xss ++ [zs]) := by
  have hlow : ∀ q, v.ownBlock = some q → w.heap.size + 1 ≤ q ∧ q < wr.heap.size := fun q hq => World.ownsRow.lt h.own.row q hq
  have hx := h.box.lt
  have hk := h.blk.lt
  have hsz := h.bel.size
  have hs2 := hb.size
  have h2 := h.next hb
  refine ⟨h.own.push hb hu (by omega) o hown hg hat, (h2.bel.alloc h2.bel.size o).grown hg (by simp; omega) (fun q hq => by have := (hlow q hq).1; omega), ?_, ?_, ?_⟩
  · exact (h2.box.alloc o).farG hg (fun e => by have := (hlow _ e).1; omega)
  · exact (h2.blk.alloc o).farG hg (fun e => h.far e)
  · intro e
    have e' : g' = gz := by simpa [Value.ownBlock] using e
    rcases hat with hat | hat
    · exact h.far (by rw [hat, e'])
    · rw [World.size_alloc] at hat; omega
end

set_option maxRecDepth 100000 in
set_option maxHeartbeats 400000 in
theorem specIof_any (bs : Int) (A : Option Addr) (n c : Nat) (ls : List L3) (B : Option Addr) (m d : Nat) (ts : List Bool) (w : World) (hn : n ≤ 1048576) (hr : RowL w A n ls) (hm : m ≤ 1048576) (hrt : RowT w B m ts) :
    Calls Try.prog 25 #[.agg #[.int .i64 bs, .slice A n c], .slice B m d] w fun e w' => ∃ v, e = .returned v ∧ OwnSS w' w.heap.size v (iofF bs ls ts) ∧ Below w.heap.size w w' := by
  obtain ⟨i0, hi, hz0, hz1, hz2⟩ := info_parts sliceInfo
  have HI := Lib.hid hi
  have HR := Lib.hid hr
  have HT := Lib.hid hrt
  have HL := Lib.hid hrt.len
  have hown0 := OwnVS.lit (w.alloc (.cells #[.int .i64 bs, .slice A n c] 31))
  simp only [World.size_alloc] at hown0
  have HO0 := Lib.hid hown0
  have b0 : Below w.heap.size w ((w.alloc (.cells #[.int .i64 bs, .slice A n c] 31)).alloc (.cells #[] 27)) := (below_bx w _).alloc (by simp) _
  have K0 := Lib.hid ((IsBlk.new w 31 #[.int .i64 bs, .slice A n c]).alloc (.cells #[] 27))
  clear hr hrt hi hown0
  go_enter Try.func25, Try.ntmps25
  go_upto_region 2 with fail
  generalize hW0 : (w.alloc (.cells #[.int .i64 bs, .slice A n c] 31)).alloc (.cells #[] 27) = W0 at *
  have hz0' : w.heap.size + 2 = W0.heap.size := by rw [← hW0]; simp
  have HZ0 := Lib.hid hz0'
  clear hW0 hz0'
  obtain ⟨p0, p1, _, _⟩ := K0.out.two
  go_wp2_with fail
  refine (specIsl_any bs _ n c ls _ m d ts _ hn (HR.out.below b0) hm (HT.out.below b0)).mono ?_
  rintro e w1 ⟨v1, rfl, hO1, hb1⟩
  have a1 : Below w.heap.size w w1 := b0.trans (hb1.mono b0.size)
  have K1 := Lib.hid (K0.out.keep hb1)
  have HO1 := Lib.hid (OwnVS.keep HO0.out hb1)
  clear p0 p1 K0 HO0
  by_cases hs : stOk bs ls m = true
  · have hbs := stOk_bs hs
    obtain ⟨nb, rfl⟩ := Int.eq_ofNat_of_zero_le (show 0 ≤ bs by omega)
    have hnb : nb ≤ 8 := by omega
    have HF := Lib.hid (show islF nb ls ts = ofN (islL (edgesOn ls ts) nb) by rw [islF, HL.out, if_pos hs]; rfl)
    have HA := Lib.hid (show iofF nb ls ts = iofTo (edgesOn ls ts) nb nb by rw [iofF, HL.out, if_pos hs]; rfl)
    have HS := Lib.hid hs
    have hlen : (islF nb ls ts).length = nb := by rw [HF.out, ofN_len, islL_len]
    clear hs
    rcases hO1.2 with ⟨h1, h2⟩ | ⟨gz, capz, cz, rfl, hgz, hkz, hcz, hmz, hsz, htk⟩
    · omega
    rw [hlen] at htk hcz ⊢
    have HZB := Lib.hid (show IsBlk w1 gz 3 cz from hkz)
    have HTK := Lib.hid htk
    have ST := Lib.hid (show IofSt w w1 (nb : Int) n c A gz cz (.slice (some ⟨w.heap.size + 1, 0, none⟩) 0 0) [] [] from ⟨HO1.out, a1, K1.out, HZB.out, fun e => by
      have e' : w.heap.size + 1 = gz := by simpa [Value.ownBlock] using e
      have := HZ0.out
      omega⟩)
    clear hO1 hkz hsz htk HO1 K1 a1 hlen hmz
    go_wp2
    go_loopw [5, 7] (fun v i wr => ∃ k vs, k ≤ nb ∧ i = .int .i64 (k : Nat) ∧ IofSt w wr (nb : Int) n c A gz cz v vs (iofTo (edgesOn ls ts) nb k)) (fun _ i _ => nb - (intOf i).toNat)
    case atStart => exact ⟨0, [], by omega, rfl, ST.out⟩
    case round =>
      obtain ⟨k, vs, hk, rfl, hst⟩ := hrel
      have SK := Lib.hid hst
      clear hst ST
      obtain ⟨p0, p1, _, _⟩ := SK.out.box.two
      by_cases hlt : k < nb
      · have g0 : wr.cell? ⟨gz, k, none⟩ = some (.int .i64 (leastF (edgesOn ls ts) k : Int)) := by
          rw [SK.out.blk.cell, ← Array.getElem?_toList]
          have := congrArg (fun l => l[k]?) HTK.out
          simp only [Nat.mul_one, List.getElem?_map, HF.out, ofN_get (islL_get hlt), List.getElem?_take_of_lt hlt] at this
          exact this
        have q0 : (0 : Int) ≤ (k : Int) := by omega
        have q1 : (k : Int) < (nb : Int) := by omega
        by_cases hh : leastF (edgesOn ls ts) k = k
        · have HN := Lib.hid (iofTo_yes (nb := nb) hh)
          have hle := iofTo_len (edgesOn ls ts) nb k
          rw [hh] at g0
          have HA2 := Lib.hid (show rchF nb ls ts k = ofN (reachF (edgesOn ls ts) nb k) by rw [rchF, HL.out, if_pos ⟨HS.out, by simp [inB]; omega⟩]; rfl)
          clear hh
          go_wp2_with fail
          refine (specRch_any nb _ n c ls _ m d ts k _ hn (HR.out.below SK.out.bel) hm (HT.out.below SK.out.bel)).mono ?_
          rintro e w2 ⟨v2, rfl, hO2, hb2⟩
          have HU := Lib.hid hO2
          have S2 := Lib.hid (SK.out.next hb2)
          have hzr := SK.out.bel.size
          have hz2' := hb2.size
          have hbx := SK.out.box.lt
          obtain ⟨A2, c2, rfl, _⟩ := hO2.sl
          clear hO2 p0 p1
          go_wp2_with (
            at_builtin
            refine wpList_append_lies _ rfl _ _ _ rfl (w.heap.size + 1) 27 i0 (.slice none 0 0) 1 24 Try.underlying43 HI.out hz0 hz1 hz2 rfl (by decide) _ _ _ rfl (World.ownsRow.alloc S2.out.own.row _) ⟨w2.heap.size, 0, none⟩ 1 1 [.slice A2 (rchF nb ls ts k).length c2] rfl rfl ?c1 ?c2 ?c0 ?c3 ?c4 ?c5 _ rfl ?_
            case c1 => exact cell_one_new _ _ _
            case c2 => intro u hu; simp at hu; subst hu; rfl
            case c0 => omega
            case c3 => simp only [maxLen]; omega
            case c4 => omega
            case c5 => simp; omega
            intro g' cap' w3 hown' hgrow hat hlt3
            have S3 := Lib.hid (SK.out.push hb2 HU.out (.cells #[.slice A2 (rchF nb ls ts k).length c2] 27) hown' hgrow hat))
          go_roundw
          case rel => exact ⟨k + 1, _, by omega, by go_num, by rw [HN.out, ← HA2.out]; exact S3.out⟩
          case measure => simp [intOf]; omega
        · have HN := Lib.hid (iofTo_no (nb := nb) hh)
          have hne : (((leastF (edgesOn ls ts) k : Nat) : Int) == ((k : Nat) : Int)) = false := by rw [beq_eq_false_iff_ne]; omega
          clear hh
          go_wp2
          go_roundw
          case rel => exact ⟨k + 1, vs, by omega, by go_num, by rw [HN.out]; exact SK.out⟩
          case measure => simp [intOf]; omega
      · go_wp2
        go_ret
        obtain rfl : k = nb := by omega
        exact ⟨_, rfl, by rw [HA.out]; exact ⟨_, SK.out.own.more (by omega)⟩, SK.out.bel⟩
  · have hs' : stOk bs ls m = false := by rwa [Bool.not_eq_true] at hs
    have HF := Lib.hid (show islF bs ls ts = [] by rw [islF, HL.out, if_neg (by rw [hs']; decide)])
    have HA := Lib.hid (show iofF bs ls ts = [] by rw [iofF, HL.out, if_neg (by rw [hs']; decide)])
    have hlen : (islF bs ls ts).length = 0 := by rw [HF.out]; rfl
    obtain ⟨A1, c1, rfl, _⟩ := hO1.sl
    rw [hlen]
    clear hs hs' hlen hO1
    go_wp2
    go_loopw [5, 7] (fun v i wr => v = .slice (some ⟨w.heap.size + 1, 0, none⟩) 0 0 ∧ i = .int .i64 0 ∧ wr = w1) (fun _ _ _ => 0)
    case atStart => exact ⟨rfl, rfl, rfl⟩
    case round =>
      obtain ⟨rfl, rfl, rfl⟩ := hrel
      go_wp2
      go_ret
      exact ⟨_, rfl, by rw [HA.out]; exact ⟨_, HO1.out.more (by omega)⟩, a1⟩
end Go.Proofs.Ytlofhkhfomhdaaa
