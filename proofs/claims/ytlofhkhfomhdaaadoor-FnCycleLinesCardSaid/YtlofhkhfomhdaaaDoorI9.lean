/- IslandNumbers and SameIsland, of the model. -/
import Derived.Test.YtlofhkhfomhdaaaDoorI8
namespace Go.Proofs.YtlofhkhfomhdaaaDoor
open Go.ChangeShapes Go.WideShapes Go.ChangeAt Go.RowKit

theorem l1Has_any (A : Option Addr) (n c : Nat) (zs : List Int) (x : Int) (w : World) (hn : n ≤ 1048576) (hr : RowZ w A n zs) :
    Calls Tryd.prog 56 #[.slice A n c, .int .i64 x] w fun e w' => e = .returned (.bool (decide (x ∈ zs))) ∧ w = w' := by
  have HR := Lib.hid hr
  have HL := Lib.hid hr.len
  clear hr
  go_enter Tryd.func56, Tryd.ntmps56
  go_wp2
  go_loop [5] (fun i => ∃ k : Nat, k ≤ n ∧ i = .int .i64 k ∧ ∀ j, j < k → ∀ y, zs[j]? = some y → y ≠ x) (fun i => n - (intOf i).toNat)
  case atStart => exact ⟨0, by omega, rfl, by intro j hj; omega⟩
  case round =>
    obtain ⟨k, hk, rfl, hno⟩ := hrel
    have HN := Lib.hid hno
    clear hno
    by_cases hlt : k < n
    · obtain ⟨b, off, y, rfl, hb, hky, g0⟩ := HR.out.at_ hlt
      have HK := Lib.hid hky
      have q0 : (0 : Int) ≤ (k : Int) := by omega
      have q1 : (k : Int) < (n : Int) := by omega
      clear hky
      by_cases hx : y = x
      · subst hx
        go_wp2
        go_ret
        exact ⟨retB (by rw [eq_comm, decide_eq_true_eq]; exact List.mem_of_getElem? HK.out), rfl⟩
      · have hxb : (y == x) = false := by simpa using hx
        go_wp2
        go_round
        case rel =>
          refine ⟨k + 1, by omega, by go_num, fun j hj z hz => ?_⟩
          rcases Nat.lt_or_ge j k with h1 | h1
          · exact HN.out j h1 z hz
          · obtain rfl : j = k := by omega
            rw [HK.out] at hz; cases hz; exact hx
        case measure => simp [intOf]; omega
    · go_wp2
      go_ret
      obtain rfl : k = n := by omega
      refine ⟨retB ?_, rfl⟩
      rw [eq_comm, decide_eq_false_iff_not]
      intro hm
      obtain ⟨j, hj, he⟩ := List.getElem_of_mem hm
      exact HN.out j (by have := HL.out; omega) _ (List.getElem?_eq_getElem hj) he

theorem samF_rch (bs : Int) (ls : List L3) (ts : List Bool) (x y : Int) : decide (y ∈ rchF bs ls ts x) = samF bs ls ts x y := by
  rw [Bool.eq_iff_iff, decide_eq_true_eq, rchF]
  by_cases hs : stOk bs ls ts.length = true
  · by_cases hx : inB x 0 (bs - 1) = true
    · rw [if_pos ⟨hs, hx⟩]
      simp only [samF, hs, hx, Bool.true_and, Bool.and_eq_true, connB_iff]
      rw [ofN, List.mem_map]
      constructor
      · rintro ⟨b, hb, rfl⟩
        obtain ⟨h1, h2⟩ := mem_reachF.1 hb
        exact ⟨by simp [inB]; omega, by simpa using h2⟩
      · rintro ⟨h1, h2⟩
        simp [inB] at h1
        refine ⟨y.toNat, mem_reachF.2 ⟨by omega, h2⟩, by simp; omega⟩
    · rw [if_neg (fun h => hx h.2)]
      simp [samF, hx]
  · rw [if_neg (fun h => hs h.1)]
    simp [samF, hs]

set_option maxRecDepth 100000 in
set_option maxHeartbeats 400000 in
theorem specSam_any (bs : Int) (A : Option Addr) (n c : Nat) (ls : List L3) (B : Option Addr) (m d : Nat) (ts : List Bool) (x y : Int) (w : World) (hn : n ≤ 1048576) (hr : RowL w A n ls) (hm : m ≤ 1048576) (hrt : RowT w B m ts) :
    Calls Tryd.prog 29 #[.agg #[.int .i64 bs, .slice A n c], .slice B m d, .int .i64 x, .int .i64 y] w fun e w' => e = .returned (.bool (samF bs ls ts x y)) ∧ Below w.heap.size w w' := by
  have HR := Lib.hid hr
  have HT := Lib.hid hrt
  have HS := Lib.hid (samF_rch bs ls ts x y)
  clear hr hrt
  go_enter Tryd.func29, Tryd.ntmps29
  go_wp2_with fail
  refine (specRch_any bs _ n c ls _ m d ts x _ hn (HR.out.below (below_bx w _)) hm (HT.out.below (below_bx w _))).mono ?_
  rintro e w1 ⟨v, rfl, hO, hb1⟩
  have a1 : Below w.heap.size w w1 := (below_bx w _).trans (hb1.mono (by simp))
  obtain ⟨A1, c1, rfl, hz⟩ := hO.sl
  have HZ := Lib.hid hz
  have hl8 := rchF_len bs ls ts x
  clear hz hO
  go_wp2_with fail
  refine (l1Has_any _ _ c1 (rchF bs ls ts x) y _ (by omega) HZ.out).mono ?_
  rintro e w' ⟨rfl, rfl⟩
  rw [HS.out]
  go_wp2
  go_ret
  exact ⟨rfl, a1⟩

/-- While the numbers of the islands are listed. -/
structure NumSt (w wr : World) (bs : Int) (n c : Nat) (A : Option Addr) (v : Value) (zs : List Int) : Prop where
  own : OwnI 3 wr (w.heap.size + 1) v zs
  bel : Below w.heap.size w wr
  box : IsBlk wr w.heap.size 25 #[.int .i64 bs, .slice A n c]
section
variable {w wr w' : World} {bs : Int} {n c : Nat} {A : Option Addr} {v v' : Value} {zs zs' : List Int}
theorem NumSt.next (h : NumSt w wr bs n c A v zs) (hb : Below wr.heap.size wr w') : NumSt w w' bs n c A v zs := ⟨OwnI.keep h.own hb, h.bel.trans (hb.mono h.bel.size), h.box.keep hb⟩
theorem NumSt.push (h : NumSt w wr bs n c A v zs) (o : Obj) (hown : OwnI 3 w' (w.heap.size + 1) v' zs') (hg : (wr.alloc o).grownBy w' v.ownBlock) : NumSt w w' bs n c A v' zs' := by
  have hlow := OwnI.lt h.own
  have hsz := h.bel.size
  refine ⟨hown, (h.bel.alloc hsz o).grown hg (by simp; omega) (fun q hq => by have := (hlow q hq).1; omega), ?_⟩
  exact (h.box.alloc o).farG hg (fun e => by have := (hlow _ e).1; omega)
end
theorem islTo_next {es : List E2} {nb k : Nat} (h : k < nb) : ofN ((islL es nb).take (k + 1)) = ofN ((islL es nb).take k) ++ [(leastF es k : Int)] := by
  rw [List.take_add_one, islL_get h]; simp [ofN]
theorem rchF_at {bs : Int} {ls : List L3} {ts : List Bool} {k : Nat} (hs : stOk bs ls ts.length = true) (hk : k < bs.toNat) : (rchF bs ls ts k)[0]? = some (leastF (edgesOn ls ts) k : Int) ∧ 0 < (rchF bs ls ts k).length := by
  have e : rchF bs ls ts k = ofN (reachF (edgesOn ls ts) bs.toNat k) := by rw [rchF, if_pos ⟨hs, by simp [inB]; omega⟩]; rfl
  have h0 := reachF_head (es := edgesOn ls ts) hk
  rw [List.head?_eq_getElem?] at h0
  rw [e]
  refine ⟨ofN_get h0, ?_⟩
  rw [ofN_len]
  exact (List.getElem?_eq_some_iff.1 h0).1

set_option maxRecDepth 100000 in
set_option maxHeartbeats 400000 in
theorem specIsl_any (bs : Int) (A : Option Addr) (n c : Nat) (ls : List L3) (B : Option Addr) (m d : Nat) (ts : List Bool) (w : World) (hn : n ≤ 1048576) (hr : RowL w A n ls) (hm : m ≤ 1048576) (hrt : RowT w B m ts) :
    Calls Tryd.prog 20 #[.agg #[.int .i64 bs, .slice A n c], .slice B m d] w fun e w' => ∃ v, e = .returned v ∧ OwnI 3 w' w.heap.size v (islF bs ls ts) ∧ Below w.heap.size w w' := by
  obtain ⟨i0, hi, hz0, hz1, hz2⟩ := info_parts intInfo6
  have HI := Lib.hid hi
  have HR := Lib.hid hr
  have HT := Lib.hid hrt
  have HL := Lib.hid hrt.len
  have hown0 := own_lit (w.alloc (.cells #[.int .i64 bs, .slice A n c] 25))
  simp only [World.size_alloc] at hown0
  have S0 := Lib.hid (show NumSt w ((w.alloc (.cells #[.int .i64 bs, .slice A n c] 25)).alloc (.cells #[] 3)) bs n c A (.slice (some ⟨w.heap.size + 1, 0, none⟩) 0 0) [] from
    ⟨hown0, (below_bx w _).alloc (by simp) _, (IsBlk.new w 25 #[.int .i64 bs, .slice A n c]).alloc (.cells #[] 3)⟩)
  clear hr hrt hi hown0
  go_enter Tryd.func20, Tryd.ntmps20
  go_upto_region 2 with fail
  generalize (w.alloc (.cells #[.int .i64 bs, .slice A n c] 25)).alloc (.cells #[] 3) = W0 at *
  by_cases hs : stOk bs ls m = true
  · have hbs := stOk_bs hs
    obtain ⟨nb, rfl⟩ := Int.eq_ofNat_of_zero_le (show 0 ≤ bs by omega)
    have hnb : nb ≤ 8 := by omega
    have HF := Lib.hid (show islF nb ls ts = ofN (islL (edgesOn ls ts) nb) by rw [islF, HL.out, if_pos hs]; rfl)
    have HS := Lib.hid hs
    clear hs
    go_wp2
    go_loopw [5, 6] (fun v i wr => ∃ k : Nat, k ≤ nb ∧ i = .int .i64 k ∧ NumSt w wr (nb : Int) n c A v (ofN ((islL (edgesOn ls ts) nb).take k))) (fun _ i _ => nb - (intOf i).toNat)
    case atStart => exact ⟨0, by omega, rfl, by simpa [ofN] using S0.out⟩
    case round =>
      obtain ⟨k, hk, rfl, hst⟩ := hrel
      have SK := Lib.hid hst
      clear hst S0
      obtain ⟨p0, p1, _, _⟩ := SK.out.box.two
      by_cases hlt : k < nb
      · go_wp2_with fail
        refine (specStateValid_any nb _ n c ls _ m d _ hn (HR.out.below SK.out.bel) (by omega)).mono ?_
        rintro e w1 ⟨rfl, hb1⟩
        rw [HS.out]
        have S1 := Lib.hid (SK.out.next hb1)
        clear SK p0 p1
        obtain ⟨p0, p1, _, _⟩ := S1.out.box.two
        go_wp2_with fail
        refine (specRch_any nb _ n c ls _ m d ts k _ hn (HR.out.below S1.out.bel) hm (HT.out.below S1.out.bel)).mono ?_
        rintro e w2 ⟨v2, rfl, hO2, hb2⟩
        have S2 := Lib.hid (S1.out.next hb2)
        clear S1 p0 p1
        obtain ⟨h0, hp⟩ := rchF_at (bs := nb) (ls := ls) (ts := ts) (k := k) (by rw [HL.out]; exact HS.out) (by simpa using hlt)
        obtain ⟨A2, c2, rfl, hz⟩ := hO2.sl
        obtain ⟨b, off, y, rfl, hb, hky, g0⟩ := hz.at_ hp
        rw [h0] at hky
        injection hky with hky
        subst hky
        have hpi : (0 : Int) < ((rchF nb ls ts k).length : Int) := by omega
        have hle2 : (ofN ((islL (edgesOn ls ts) nb).take k)).length ≤ k := by rw [ofN_len, List.length_take]; omega
        have HN2 := Lib.hid (islTo_next (es := edgesOn ls ts) hlt)
        have hzr := S2.out.bel.size
        have hzb := S2.out.box.lt
        clear h0 hp hz hO2
        simp only [Nat.add_zero] at g0
        go_wp2_with (
          at_builtin
          refine wpList_append_own _ rfl _ _ _ rfl (w.heap.size + 1) 3 i0 (.int .i64 0) 1 8 Tryd.underlying29 HI.out hz0 hz1 hz2 rfl (by decide) _ _ _ rfl (World.ownsRow.alloc S2.out.own _) ⟨w2.heap.size, 0, none⟩ 1 1 [.int .i64 (leastF (edgesOn ls ts) k : Int)] rfl rfl ?c1 ?c2 ?c3 ?c4 ?c5 ?_
          case c1 => exact cell_one_new _ _ _
          case c2 => intro u hu; simp at hu; subst hu; rfl
          case c3 => simp only [maxLen]; omega
          case c4 => omega
          case c5 => simp; omega
          intro v' w3 hown' hgrow _
          have S3 := Lib.hid (S2.out.push (zs' := ofN ((islL (edgesOn ls ts) nb).take (k + 1))) (.cells #[.int .i64 (leastF (edgesOn ls ts) k : Int)] 3) (by rw [HN2.out]; simpa [OwnI] using hown') hgrow))
        go_roundw
        case rel => exact ⟨k + 1, by omega, by go_num, S3.out⟩
        case measure => simp [intOf]; omega
      · go_wp2
        go_ret
        obtain rfl : k = nb := by omega
        exact ⟨_, rfl, by
          have := SK.out.own
          rw [List.take_of_length_le (by rw [islL_len]; omega)] at this
          rw [HF.out]; exact OwnI.more this (by omega), SK.out.bel⟩
  · have hs' : stOk bs ls m = false := by rwa [Bool.not_eq_true] at hs
    have HA := Lib.hid (show islF bs ls ts = [] by rw [islF, HL.out, if_neg (by rw [hs']; decide)])
    have HS := Lib.hid hs'
    clear hs hs'
    go_wp2
    go_loopw [5, 6] (fun v i wr => v = .slice (some ⟨w.heap.size + 1, 0, none⟩) 0 0 ∧ i = .int .i64 0 ∧ wr = W0) (fun _ _ _ => 0)
    case atStart => exact ⟨rfl, rfl, rfl⟩
    case round =>
      obtain ⟨rfl, rfl, rfl⟩ := hrel
      obtain ⟨p0, p1, _, _⟩ := S0.out.box.two
      by_cases hb : 0 < bs
      · go_wp2_with fail
        refine (specStateValid_any bs _ n c ls _ m d _ hn (HR.out.below S0.out.bel) (by omega)).mono ?_
        rintro e w1 ⟨rfl, hb1⟩
        rw [HS.out]
        go_wp2
        go_ret
        exact ⟨_, rfl, by rw [HA.out]; exact OwnI.more (S0.out.next hb1).own (by omega), (S0.out.next hb1).bel⟩
      · go_wp2
        go_ret
        exact ⟨_, rfl, by rw [HA.out]; exact OwnI.more S0.out.own (by omega), S0.out.bel⟩
end Go.Proofs.YtlofhkhfomhdaaaDoor
