/- RoomAt, of the program. -/
import Derived.Test.YtpmkeagdoehbhaaX2
import Derived.Test.YtpmkeagdoehbhaaBDC
import Derived.Test.YtpmkeagdoehbhaaBCC
import Derived.Laws.EntriesVeiled
import Derived.Shelf.Abstract
import Derived.Lib.SliceRun
namespace Go.Proofs.Ytpmkeagdoehbhaa
open Go.ChangeShapes Go.WideShapes Go.ChangeAt Go.RowKit Go.Shelf

/-! A copy of a row of buses -/
theorem src_cellsU {w : World} {ad : Addr} {n : Nat} {us : List TU} (h : RowU w (some ad) n us) : ∀ j u, (us.flatMap fU)[j]? = some u → w.cell? (ad.add j) = some u := by
  intro j u hj
  have hlt : j < (us.flatMap fU).length := (List.getElem?_eq_some_iff.1 hj).1
  rw [flat_len fU_len] at hlt
  have hn : 0 < n := by have := h.1; omega
  obtain ⟨b, off, e, _, hc⟩ := h.2 hn
  injection e with e
  rw [e, add_none]
  obtain ⟨k, i, hi, rfl⟩ : ∃ k i, i < 2 ∧ j = k * 2 + i := ⟨j / 2, j % 2, by omega, by omega⟩
  have hk : us[k]? = some (us[k]'(by omega)) := List.getElem?_eq_getElem _
  obtain ⟨c0, c1⟩ := hc _ _ hk
  rw [flat_get (f := fU) fU_len us k _ i hk hi] at hj
  rcases i with _ | _ | i
  · simp only [fU, List.getElem?_cons_zero, Option.some.injEq] at hj
    subst hj
    simpa using c0
  · simp only [fU, Nat.zero_add, List.getElem?_cons_succ, List.getElem?_cons_zero, Option.some.injEq] at hj
    subst hj
    simpa [Nat.add_assoc] using c1
  · omega
theorem int_oneU (us : List TU) : ∀ u ∈ us.flatMap fU, u.oneCell' = true := by
  intro u hu
  obtain ⟨x, _, hx⟩ := List.mem_flatMap.1 hu
  simp only [fU, List.mem_cons, List.not_mem_nil, or_false] at hx
  rcases hx with rfl | rfl <;> rfl
theorem ownU_some {w : World} {base : Nat} {v : Value} {us : List TU} (h : OwnU w base v us) (h0 : 0 < us.length) : ∃ g cap, v = .slice (some ⟨g, 0, none⟩) us.length cap ∧ base ≤ g ∧ g < w.heap.size := by
  rcases h.2 with ⟨_, h1⟩ | ⟨g, cap, cur, rfl, hb, hg, _⟩
  · omega
  · exact ⟨g, cap, rfl, hb, (Array.getElem?_eq_some_iff.1 hg).1⟩
theorem busInfo8 : (Try.prog.info? 55).map (fun i => (i.zero, i.size, i.bytes)) = some (some (.agg #[.int .i64 0, .int .i64 0]), 2, 16) := by kernel_rfl

theorem cloneU_any (A : Option Addr) (n c : Nat) (us : List TU) (w : World) (hn : n ≤ 1048576) (hr : RowU w A n us) :
    Calls Try.prog 40 #[.slice A n c] w fun e w' => ∃ v, e = .returned v ∧ OwnU w' w.heap.size v us ∧ Below w.heap.size w w' := by
  obtain ⟨i0, hi, hz0, hz1, hz2⟩ := info_parts busInfo8
  have HI0 := Lib.hid hi
  have HL := hr.1
  have HO0 := Lib.hid (World.ownsRow_lit (base := w.heap.size) (size := 2) (e := 55) w #[] 0 (by omega) (by decide) rfl)
  clear hi
  rcases A with _ | ad
  · have hn0 : n = 0 := by
      rcases Nat.eq_zero_or_pos n with h0 | h0
      · exact h0
      · obtain ⟨_, _, h, _⟩ := hr.2 h0; cases h
    subst hn0
    have hus : us = [] := List.eq_nil_of_length_eq_zero (by simpa using HL)
    subst hus
    have he : ∀ w : World, (binOp .eql 36 (.slice none 0 c) (.slice none 0 0)).run Try.prog w = .ok (.bool true) w := fun w => Lib.run_eql_slice_nil w 36 55 none 0 c 0 0 Try.underlying36
    clear hr HL
    go_enter Try.func40, Try.ntmps40
    go_wp2
    go_ret
    exact ⟨_, rfl, OwnU.nil, Below.refl _ _⟩
  · have HC := Lib.hid (src_cellsU (hr.below (below_bx w (.cells #[] 55))))
    have HL1 := Lib.hid (show (us.flatMap fU).length = n * 2 by rw [flat_len fU_len, HL])
    have he : ∀ w : World, (binOp .eql 36 (.slice (some ad) n c) (.slice none 0 0)).run Try.prog w = .ok (.bool false) w := fun w => Lib.run_eql_slice_nil w 36 55 (some ad) n c 0 0 Try.underlying36
    clear hr
    go_enter Try.func40, Try.ntmps40
    go_wp2_with (
      at_builtin
      refine wpList_append_own _ rfl _ _ _ rfl w.heap.size 55 i0 (.agg #[.int .i64 0, .int .i64 0]) 2 16 Try.underlying36 HI0.out hz0 hz1 hz2 rfl (by decide) _ _ _ rfl HO0.out ad n c (us.flatMap fU) rfl HL1.out ?c1 ?c2 ?c3 ?c4 ?c5 ?_
      case c1 => exact HC.out
      case c2 => exact int_oneU us
      case c3 => simp only [maxLen]; omega
      case c4 => omega
      case c5 => simp
      intro v' w3 hown' hgrow _
      have hb3 : Below w.heap.size w w3 := (below_bx w _).grown hgrow (by simp) (fun q hq => (World.ownsRow.lt HO0.out q hq).1))
    go_ret
    refine ⟨_, rfl, ?_, hb3⟩
    show World.ownsRow _ _ _ _ _ us.length _
    rw [HL]
    simpa using hown'

/-! Search, of a closure that writes -/
set_option maxRecDepth 100000 in
set_option maxHeartbeats 1000000 in
theorem search8_any (cb : Array Value) (n : Nat) (p : Nat → Bool) (I : World → Prop) (w : World) (hsz : n ≤ 1000)
    (hf : ∀ (W : World) (i : Nat), i < n → I W → Calls Try.prog 42 (#[.int .i64 (i : Int)] ++ cb) W fun e w' => e = .returned (.bool (p i)) ∧ I w')
    (hmono : ∀ a b, a ≤ b → b < n → p a = true → p b = true) (h0 : I w) :
    Calls Try.prog 41 #[.int .i64 (n : Int), .func (.func 42) #[] cb] w fun e w' => e = .returned (.int .i64 (((List.range n).countP (fun i => !p i) : Nat) : Int)) ∧ I w' := by
  have eg : ∀ args w, (callFunc 42 args).run Try.prog w = .ok (.enter 42 args) w := enters_of Try.func42 (by kernel_rfl) rfl
  have HF := Lib.hid hf
  have HM := Lib.hid hmono
  have HI0 := Lib.hid h0
  clear hf hmono h0
  generalize hcnt : (List.range n).countP (fun i => !p i) = cnt
  have CN := Lib.hid hcnt
  clear hcnt
  go_enter Try.func41, Try.ntmps41
  go_wp2
  go_loopw [5, 6] (fun s5 s6 wr => ∃ lo hi : Nat, s5 = .int .i64 lo ∧ s6 = .int .i64 hi ∧ lo ≤ hi ∧ hi ≤ n ∧ Hid (I wr ∧ (∀ t, t < lo → p t = false) ∧ (∀ t, hi ≤ t → t < n → p t = true))) (fun a b _ => (intOf b).toNat - (intOf a).toNat)
  case atStart => exact ⟨0, n, rfl, rfl, by omega, by omega, Lib.hid ⟨HI0.out, fun t ht => absurd ht (by omega), fun t h1 h2 => absurd h1 (by omega)⟩⟩
  case round =>
    obtain ⟨lo, hi, rfl, rfl, hlh, hin, J⟩ := hrel
    by_cases hlt : lo < hi
    · have hc := HF.out wr ((lo + hi) / 2) (by omega) J.out.1
      rw [show (((lo + hi) / 2 : Nat) : Int) = ((lo : Int) + (hi : Int)) / 2 by omega] at hc
      cases hp : p ((lo + hi) / 2) <;> rw [hp] at hc
      · have HP := Lib.hid hp
        clear hp
        go_wp2_with (go_at_fn 42; refine hc.mono ?_; rintro e w' ⟨rfl, hI⟩)
        go_roundw
        case rel =>
          exact ⟨(lo + hi) / 2 + 1, hi, by rw [show ((lo : Int) + (hi : Int)) / 2 + 1 = (((lo + hi) / 2 + 1 : Nat) : Int) by omega], rfl, by omega, hin, Lib.hid ⟨hI, fun t ht => (by
            cases h : p t with
            | false => rfl
            | true => have := HM.out t ((lo + hi) / 2) (by omega) (by omega) h; rw [HP.out] at this; cases this), J.out.2.2⟩⟩
        case measure => simp [intOf]; omega
      · have HP := Lib.hid hp
        clear hp
        go_wp2_with (go_at_fn 42; refine hc.mono ?_; rintro e w' ⟨rfl, hI⟩)
        go_roundw
        case rel =>
          exact ⟨lo, (lo + hi) / 2, rfl, by rw [show ((lo : Int) + (hi : Int)) / 2 = (((lo + hi) / 2 : Nat) : Int) by omega], by omega, by omega, Lib.hid ⟨hI, J.out.2.1, fun t ht htn => HM.out ((lo + hi) / 2) t ht htn HP.out⟩⟩
        case measure => simp [intOf]; omega
    · obtain rfl : hi = lo := by omega
      have ecnt : cnt = hi := by
        rw [← CN.out]
        exact countP_edge hin (fun j hj => by rw [J.out.2.1 j hj]; rfl) (fun j h1 h2 => by rw [J.out.2.2 j h1 h2]; rfl)
      subst ecnt
      go_wp2
      go_ret
      exact ⟨rfl, J.out.1⟩

/-! The closure -/
/-- What the closure reads: boxes; the row of its own. -/
structure RoomC (w w0 : World) (L M gU cU : Nat) (bs : Int) (n c : Nat) (A : Option Addr) (m d : Nat) (B : Option Addr) (p s : Nat) (O : Option Addr) (most : Int) (us : List U2) (b : Nat) : Prop where
  bel : Below w.heap.size w w0
  net : IsBlk w0 w.heap.size 33 #[.int .i64 bs, .slice A n c]
  onb : IsBlk w0 (w.heap.size + 1) 25 #[.slice B m d]
  ohm : IsBlk w0 (w.heap.size + 2) 27 #[.slice O p s]
  mst : IsBlk w0 (w.heap.size + 3) 3 #[.int .i64 most]
  bus : IsBlk w0 (w.heap.size + 4) 3 #[.int .i64 (b : Int)]
  lod : IsBlk w0 L 3 #[.int .i64 (ld us b)]
  row : IsBlk w0 M 36 #[.slice (some ⟨gU, 0, none⟩) us.length cU]
  g5 : w.heap.size + 5 ≤ gU
  gL : gU ≠ L
  gM : gU ≠ M
/-- What it leaves: only the row has been written, at one bus. -/
structure RoomI (w w0 : World) (gU cU : Nat) (us : List U2) (b : Nat) (W : World) : Prop where
  gr : w0.grownBy W (some gU)
  ow : ∃ r : Int, OwnU W w.heap.size (.slice (some ⟨gU, 0, none⟩) us.length cU) (moreU us b r)

set_option maxRecDepth 100000 in
set_option maxHeartbeats 1000000 in
theorem roomFn_any (w w0 : World) (L M gU cU nb : Nat) (A : Option Addr) (n c : Nat) (ls : List L3) (B : Option Addr) (m d : Nat) (ts : List Bool) (us : List U2) (O : Option Addr) (p s : Nat) (os : List Int) (most : Int) (b : Nat) (hn : n ≤ 1048576) (hr : RowL w A n ls) (hm : m ≤ 1048576) (hrt : RowT w B m ts) (hp : p ≤ 1048576) (hro : RowZ w O p os)
    (hC : RoomC w w0 L M gU cU (nb : Int) n c A m d B p s O most us b) (hb : b < us.length) (hul : us.length ≤ 8) (hld : 0 ≤ ld us b ∧ ld us b ≤ 999) (W : World) (i : Nat) (hi : i < 1000) (hI : RoomI w w0 gU cU us b W) :
    Calls Try.prog 42 (#[.int .i64 (i : Int)] ++ #[.pointer (some ⟨L, 0, none⟩), .pointer (some ⟨M, 0, none⟩), .pointer (some ⟨w.heap.size + 4, 0, none⟩), .pointer (some ⟨w.heap.size, 0, none⟩), .pointer (some ⟨w.heap.size + 1, 0, none⟩), .pointer (some ⟨w.heap.size + 2, 0, none⟩), .pointer (some ⟨w.heap.size + 3, 0, none⟩)]) W fun e w' => e = .returned (.bool (!roomB nb ls ts us os most b i)) ∧ RoomI w w0 gU cU us b w' := by
  obtain ⟨hbel, hnet, honb, hohm, hmst, hbus, hlod, hrow, g5, gL, gM⟩ := hC
  obtain ⟨hgr, r, hO⟩ := hI
  have hbelW : Below w.heap.size w W := hbel.grown hgr hbel.size (fun q e => by injection e with e; omega)
  have hat : (moreU us b r)[b]? = some (fd us b, ld us b + r) := moreU_at hb r
  obtain ⟨g, cap, hv, _, hgl, hfr, ⟨z, hz⟩, hput⟩ := OwnU.put (u' := (fd us b, ld us b + (i : Int) + 1)) (x := .int .i64 (ld us b + (i : Int) + 1)) hO hat (show 1 < 2 by decide) rfl
  injection hv with hv1 hv2 hv3
  injection hv1 with hv1
  injection hv1 with hv1
  subst hv1 hv3
  clear hv2
  have hset : (moreU us b r).set b (fd us b, ld us b + (i : Int) + 1) = moreU us b ((i : Int) + 1) := by
    rw [moreU, moreU, List.set_set, Int.add_assoc]
  rw [hset] at hput
  have HPUT := Lib.hid hput
  have hg2 : w0.grownBy (W.setCell ⟨gU, b * 2 + 1, none⟩ (.int .i64 (ld us b + (i : Int) + 1))) (some gU) := grown_then hgr (grown_put W gU (b * 2 + 1) _)
  have hbel2 : Below w.heap.size w (W.setCell ⟨gU, b * 2 + 1, none⟩ (.int .i64 (ld us b + (i : Int) + 1))) := hbel.grown hg2 hbel.size (fun q e => by injection e with e; omega)
  obtain ⟨q3, _⟩ := (hbus.farG hgr (fun e => by injection e with e; omega)).at1
  obtain ⟨q1, _⟩ := (hlod.farG hgr (fun e => by injection e with e; omega)).at1
  obtain ⟨q2, _⟩ := (hrow.farG hgr (fun e => by injection e with e; omega)).at1
  obtain ⟨r4, r5, _, _⟩ := (hnet.farG hg2 (fun e => by injection e with e; omega)).two
  obtain ⟨r1, _⟩ := (honb.farG hg2 (fun e => by injection e with e; omega)).at1
  obtain ⟨r2, _⟩ := (hrow.farG hg2 (fun e => by injection e with e; omega)).at1
  obtain ⟨r6, _⟩ := (hohm.farG hg2 (fun e => by injection e with e; omega)).at1
  obtain ⟨r7, _⟩ := (hmst.farG hg2 (fun e => by injection e with e; omega)).at1
  have HG2 := Lib.hid hg2
  have HR := Lib.hid (hr.below hbel2)
  have HT := Lib.hid (hrt.below hbel2)
  have HRO := Lib.hid (hro.below hbel2)
  have ii0 : (0 : Int) ≤ (b : Int) := by omega
  have ii1 : (b : Int) < (us.length : Int) := by omega
  have hld0 := hld.1
  have hld1 := hld.2
  have HRB := Lib.hid (show roomB nb ls ts us os most b i = dwiF nb ls ts (moreU us b ((i : Int) + 1)) os most from rfl)
  have hul2 : us.length ≤ 1048576 := by omega
  clear hgr hO hbelW hput hset hg2 hbel2 hr hrt hro hbel hnet honb hohm hmst hbus hlod hrow hat hld
  generalize hLD : ld us b = LD at *
  clear hLD
  have hw1 : IntKind.i64.wrap (LD + (i : Int)) = LD + (i : Int) := IntWalk.i64_in _ (by omega)
  have hw2 : IntKind.i64.wrap (LD + (i : Int) + 1) = LD + (i : Int) + 1 := IntWalk.i64_in _ (by omega)
  show Calls Try.prog 42 #[.int .i64 (i : Int), .pointer (some ⟨L, 0, none⟩), .pointer (some ⟨M, 0, none⟩), .pointer (some ⟨w.heap.size + 4, 0, none⟩), .pointer (some ⟨w.heap.size, 0, none⟩), .pointer (some ⟨w.heap.size + 1, 0, none⟩), .pointer (some ⟨w.heap.size + 2, 0, none⟩), .pointer (some ⟨w.heap.size + 3, 0, none⟩)] W _
  go_enter Try.func42, Try.ntmps42
  go_wp2_with fail
  obtain ⟨A3, c3, e3, hU3⟩ := HPUT.out.row
  rw [moreU_len] at e3 hU3
  injection e3 with e3
  subst e3
  refine (dropsWithin_any nb _ n c ls _ m d ts _ us.length _ (moreU us b ((i : Int) + 1)) _ p s os most _ hn HR.out hm HT.out hul2 hU3 hp HRO.out).mono ?_
  rintro e w2 ⟨rfl, hb2⟩
  rw [← HRB.out]
  have hg3 : (W.setCell ⟨gU, b * 2 + 1, none⟩ (.int .i64 (LD + (i : Int) + 1))).grownBy w2 (some gU) := ⟨hb2.os, hb2.tape, hb2.output, hb2.size, fun q hq _ => hb2.block q hq⟩
  have hO4 := HPUT.out.keep hb2
  cases hrb : roomB nb ls ts us os most b i
  all_goals
    have HQ := Lib.hid hrb
    clear hrb
    go_wp2
    go_ret
    exact ⟨retB (by rw [HQ.out]; rfl), grown_then HG2.out hg3, _, hO4⟩

/-! RoomAt -/
section
variable {nb : Nat} {ls : List L3} {ts : List Bool} {us : List U2} {os : List Int} {most bus : Int} {b : Nat}
theorem roo_neg {bs : Int} (h : drpF bs ls ts us os bus < 0) : rooF bs ls ts us os most bus = -1 := by
  rw [rooF, if_neg]
  rintro ⟨h1, h2, h3⟩
  have h4 := dwiF_ok h1
  have h5 := h2
  simp only [inB, Bool.and_eq_true, decide_eq_true_eq] at h5
  have hbs := okO_bs h4
  obtain ⟨n, rfl⟩ := Int.eq_ofNat_of_zero_le (show 0 ≤ bs by omega)
  obtain ⟨k, rfl⟩ := Int.eq_ofNat_of_zero_le h5.1
  rw [drpF_at h4 (by omega)] at h
  have := (drpV_fed h4 k).2 h3
  omega
theorem roo_out (h : dwiF (nb : Int) ls ts us os most = false) : rooF nb ls ts us os most bus = -1 := by rw [rooF, if_neg (by rw [h]; simp)]
theorem drp_pos {bs : Int} (h : ¬ drpF bs ls ts us os bus < 0) : ∃ k n : Nat, bus = (k : Int) ∧ bs = (n : Int) ∧ k < n ∧ n ≤ 8 ∧ okO bs ls ts us os = true ∧ us.length = n ∧ fedB (edgesOn ls ts) us k = true ∧ drpF bs ls ts us os bus = drp ls ts us os n k := by
  have h0 := h
  rw [drpF] at h
  split at h
  · rename_i hc
    have hbs := okO_bs hc.1
    obtain ⟨n, rfl⟩ := Int.eq_ofNat_of_zero_le (show 0 ≤ bs by omega)
    have h5 := hc.2
    simp only [inB, Bool.and_eq_true, decide_eq_true_eq] at h5
    obtain ⟨k, rfl⟩ := Int.eq_ofNat_of_zero_le h5.1
    have hul : us.length = n := by have := busesOk_len (okU_bu (radF_iff.1 (okO_iff.1 hc.1).1).1); omega
    rw [Int.toNat_natCast, Int.toNat_natCast] at h
    have hf := (drpV_fed hc.1 k).1 (by omega)
    exact ⟨k, n, rfl, rfl, by omega, by omega, hc.1, hul, hf, by rw [drpF_at hc.1 (by omega), drpV, if_pos hf]⟩
  · omega
theorem roo_at (h : dwiF (nb : Int) ls ts us os most = true) (hb : b < nb) (hf : fedB (edgesOn ls ts) us b = true) : rooF nb ls ts us os most (b : Int) = (roomN nb ls ts us os most b : Int) := by
  rw [rooF, if_pos ⟨h, by simp [inB]; omega, by rw [Int.toNat_natCast]; exact hf⟩, Int.toNat_natCast]
end

set_option maxRecDepth 100000 in
set_option maxHeartbeats 2000000 in
theorem roomAt_any (bs : Int) (A : Option Addr) (n c : Nat) (ls : List L3) (B : Option Addr) (m d : Nat) (ts : List Bool) (U : Option Addr) (q r : Nat) (us : List U2) (O : Option Addr) (p s : Nat) (os : List Int) (most bus : Int) (w : World) (hn : n ≤ 1048576) (hr : RowL w A n ls) (hm : m ≤ 1048576) (hrt : RowT w B m ts) (hq : q ≤ 1048576) (hu : RowU w U q us) (hp : p ≤ 1048576) (hro : RowZ w O p os) :
    Calls Try.prog 24 #[.agg #[.int .i64 bs, .slice A n c], .slice B m d, .slice U q r, .slice O p s, .int .i64 most, .int .i64 bus] w fun e w' => e = .returned (.int .i64 (rooF bs ls ts us os most bus)) ∧ Below w.heap.size w w' := by
  have hmf : ∀ (fn : Fn) (first cap : Array Value) (w : World), (Instr.makeFunc fn first cap).run Try.prog w = .ok (.func fn first cap) w := fun _ _ _ _ => rfl
  have HR := Lib.hid hr
  have HT := Lib.hid hrt
  have HU := Lib.hid hu
  have HRO := Lib.hid hro
  have x0 := below_bx w (.cells #[.int .i64 bs, .slice A n c] 33)
  have x1 := x0.alloc x0.size (.cells #[.slice B m d] 25)
  have x2 := x1.alloc x1.size (.cells #[.slice O p s] 27)
  have x3 := x2.alloc x2.size (.cells #[.int .i64 most] 3)
  have b0 := Lib.hid (x3.alloc x3.size (.cells #[.int .i64 bus] 3))
  have K0 := Lib.hid (((((IsBlk.new w 33 #[.int .i64 bs, .slice A n c]).alloc (.cells #[.slice B m d] 25)).alloc (.cells #[.slice O p s] 27)).alloc (.cells #[.int .i64 most] 3)).alloc (.cells #[.int .i64 bus] 3))
  have K1 := Lib.hid ((((IsBlk.new (w.alloc (.cells #[.int .i64 bs, .slice A n c] 33)) 25 #[.slice B m d]).alloc (.cells #[.slice O p s] 27)).alloc (.cells #[.int .i64 most] 3)).alloc (.cells #[.int .i64 bus] 3))
  have K2 := Lib.hid (((IsBlk.new ((w.alloc (.cells #[.int .i64 bs, .slice A n c] 33)).alloc (.cells #[.slice B m d] 25)) 27 #[.slice O p s]).alloc (.cells #[.int .i64 most] 3)).alloc (.cells #[.int .i64 bus] 3))
  have K3 := Lib.hid ((IsBlk.new (((w.alloc (.cells #[.int .i64 bs, .slice A n c] 33)).alloc (.cells #[.slice B m d] 25)).alloc (.cells #[.slice O p s] 27)) 3 #[.int .i64 most]).alloc (.cells #[.int .i64 bus] 3))
  have K4 := Lib.hid (IsBlk.new ((((w.alloc (.cells #[.int .i64 bs, .slice A n c] 33)).alloc (.cells #[.slice B m d] 25)).alloc (.cells #[.slice O p s] 27)).alloc (.cells #[.int .i64 most] 3)) 3 #[.int .i64 bus])
  simp only [World.size_alloc, Nat.add_assoc, Nat.reduceAdd] at K1 K2 K3 K4
  clear hr hrt hu hro x0 x1 x2 x3
  go_enter Try.func24, Try.ntmps24
  go_upto_region 1 with fail
  have hs0 : ((((((w.alloc (.cells #[.int .i64 bs, .slice A n c] 33)).alloc (.cells #[.slice B m d] 25)).alloc (.cells #[.slice O p s] 27)).alloc (.cells #[.int .i64 most] 3)).alloc (.cells #[.int .i64 bus] 3))).heap.size = w.heap.size + 5 := by simp only [World.size_alloc, Nat.add_assoc, Nat.reduceAdd]
  generalize ((((w.alloc (.cells #[.int .i64 bs, .slice A n c] 33)).alloc (.cells #[.slice B m d] 25)).alloc (.cells #[.slice O p s] 27)).alloc (.cells #[.int .i64 most] 3)).alloc (.cells #[.int .i64 bus] 3) = W0 at *
  simp only [Nat.add_assoc, Nat.reduceAdd]
  obtain ⟨p0, p1, _, _⟩ := K0.out.two
  obtain ⟨p2, _⟩ := K1.out.at1
  obtain ⟨p3, _⟩ := K2.out.at1
  obtain ⟨p4, _⟩ := K3.out.at1
  obtain ⟨p5, _⟩ := K4.out.at1
  go_wp2_with fail
  refine (dropAt_any bs _ n c ls _ m d ts _ q r us _ p s os bus _ hn (HR.out.below b0.out) hm (HT.out.below b0.out) hq (HU.out.below b0.out) hp (HRO.out.below b0.out)).mono ?_
  rintro e w1 ⟨rfl, hb1⟩
  have b1 := Lib.hid (b0.out.trans (hb1.mono b0.out.size))
  by_cases hneg : drpF bs ls ts us os bus < 0
  · have E1 := Lib.hid (roo_neg (most := most) hneg)
    generalize drpF bs ls ts us os bus = D at *
    go_wp2
    go_ret
    exact ⟨retI E1.out.symm, b1.out⟩
  · obtain ⟨k, nb, rfl, rfl, hk, hnb, hok, hul, hf, _⟩ := drp_pos hneg
    have L0 := Lib.hid (K0.out.keep hb1)
    have L1 := Lib.hid (K1.out.keep hb1)
    have L2 := Lib.hid (K2.out.keep hb1)
    have L3 := Lib.hid (K3.out.keep hb1)
    have L4 := Lib.hid (K4.out.keep hb1)
    have HOK := Lib.hid hok
    have HF := Lib.hid hf
    have hs1 := hb1.size
    clear p0 p1 p2 p3 p4 p5 K0 K1 K2 K3 K4 hb1 hok hf
    obtain ⟨p0, p1, _, _⟩ := L0.out.two
    obtain ⟨p2, _⟩ := L1.out.at1
    obtain ⟨p3, _⟩ := L2.out.at1
    obtain ⟨p4, _⟩ := L3.out.at1
    obtain ⟨p5, _⟩ := L4.out.at1
    generalize drpF nb ls ts us os k = D at *
    go_wp2_with fail
    refine (dropsWithin_any nb _ n c ls _ m d ts _ q r us _ p s os most _ hn (HR.out.below b1.out) hm (HT.out.below b1.out) hq (HU.out.below b1.out) hp (HRO.out.below b1.out)).mono ?_
    rintro e w2 ⟨rfl, hb2⟩
    have b2 := Lib.hid (b1.out.trans (hb2.mono b1.out.size))
    cases hd : dwiF nb ls ts us os most
    · have E1 := Lib.hid (roo_out (bus := k) hd)
      go_wp2
      go_ret
      exact ⟨retI E1.out.symm, b2.out⟩
    · have E1 := Lib.hid (roo_at hd hk HF.out)
      have HBU := Lib.hid (okU_bu (radF_iff.1 (okO_iff.1 HOK.out).1).1)
      have M0 := Lib.hid (L0.out.keep hb2)
      have M1 := Lib.hid (L1.out.keep hb2)
      have M2 := Lib.hid (L2.out.keep hb2)
      have M3 := Lib.hid (L3.out.keep hb2)
      have M4 := Lib.hid (L4.out.keep hb2)
      have hs2 := hb2.size
      clear p0 p1 p2 p3 p4 p5 L0 L1 L2 L3 L4 hb2 hd
      obtain ⟨p5, _⟩ := M4.out.at1
      have hqn : q = nb := by have := HU.out.len; omega
      subst hqn
      obtain ⟨b', off', u, rfl, hb', hku, _, g1⟩ := (HU.out.below b2.out).at_ hk
      have HLD := Lib.hid (ld_at hku)
      have hld := ld_bd HBU.out k
      rw [HLD.out] at hld
      have ii0 : (0 : Int) ≤ (k : Int) := by omega
      have ii1 : (k : Int) < (q : Int) := by omega
      have b3 := Lib.hid (b2.out.alloc b2.out.size (.cells #[.int .i64 u.2] 3))
      clear hku
      go_wp2_with fail
      refine (cloneU_any _ q r us _ hq (HU.out.below b3.out)).mono ?_
      rintro e w3 ⟨v, rfl, hO, hb3⟩
      obtain ⟨gU, cU, rfl, hgU, hgl⟩ := ownU_some hO (by omega)
      rw [World.size_alloc] at hgU
      have hs3 := hb3.size
      rw [World.size_alloc] at hs3
      have b4 : Below w.heap.size w w3 := b3.out.trans (hb3.mono b3.out.size)
      have HRC := Lib.hid (show RoomC w (w3.alloc (.cells #[.slice (some ⟨gU, 0, none⟩) us.length cU] 36)) w2.heap.size w3.heap.size gU cU (q : Int) n c A m d B p s O most us k from
        ⟨b4.alloc b4.size _, ((M0.out.alloc _).keep hb3).alloc _, ((M1.out.alloc _).keep hb3).alloc _, ((M2.out.alloc _).keep hb3).alloc _, ((M3.out.alloc _).keep hb3).alloc _, ((M4.out.alloc _).keep hb3).alloc _, by rw [HLD.out]; exact ((IsBlk.new w2 3 #[.int .i64 u.2]).keep hb3).alloc _, IsBlk.new w3 _ _, by omega, by omega, by omega⟩)
      have HRI := Lib.hid (show RoomI w (w3.alloc (.cells #[.slice (some ⟨gU, 0, none⟩) us.length cU] 36)) gU cU us k (w3.alloc (.cells #[.slice (some ⟨gU, 0, none⟩) us.length cU] 36)) from
        ⟨World.grownBy.refl _ _, 0, by rw [moreU_zero (by omega)]; exact (OwnU.more hO b3.out.size).alloc _⟩)
      obtain ⟨N, hN⟩ := Int.eq_ofNat_of_zero_le (show 0 ≤ 999 - u.2 by omega)
      have hS := search8_any #[.pointer (some ⟨w2.heap.size, 0, none⟩), .pointer (some ⟨w3.heap.size, 0, none⟩), .pointer (some ⟨w.heap.size + 4, 0, none⟩), .pointer (some ⟨w.heap.size, 0, none⟩), .pointer (some ⟨w.heap.size + 1, 0, none⟩), .pointer (some ⟨w.heap.size + 2, 0, none⟩), .pointer (some ⟨w.heap.size + 3, 0, none⟩)] N (fun i => !roomB q ls ts us os most k i) (RoomI w (w3.alloc (.cells #[.slice (some ⟨gU, 0, none⟩) us.length cU] 36)) gU cU us k) (w3.alloc (.cells #[.slice (some ⟨gU, 0, none⟩) us.length cU] 36)) (by omega)
        (fun W i hi hI => roomFn_any w _ w2.heap.size w3.heap.size gU cU q A n c ls B m d ts us O p s os most k hn HR.out hm HT.out hp HRO.out HRC.out (by omega) (by omega) (by rw [HLD.out]; exact hld) W i (by omega) hI)
        (fun i j hij hj hp => by
          cases hq : roomB q ls ts us os most k j
          · rfl
          · rw [roomB_mono HBU.out (by omega) hij hq] at hp; cases hp)
        HRI.out
      have hcnt : (List.range N).countP (fun i => !(!roomB q ls ts us os most k i)) = roomN q ls ts us os most k := by
        rw [roomN, HLD.out, hN]
        congr 1
        funext i
        rw [Bool.not_not]
      rw [hcnt, ← hN] at hS
      have HS := Lib.hid hS
      have HB4 := Lib.hid (b4.alloc b4.size (.cells #[.slice (some ⟨gU, 0, none⟩) us.length cU] 36))
      have HG5 := Lib.hid HRC.out.g5
      have lp := ((IsBlk.new w2 3 #[.int .i64 u.2]).keep hb3).alloc (.cells #[.slice (some ⟨gU, 0, none⟩) us.length cU] 36)
      obtain ⟨p6, _⟩ := lp.at1
      have hw9 : IntKind.i64.wrap (999 - u.2) = 999 - u.2 := IntWalk.i64_in _ (by omega)
      clear hcnt hN hS lp hO hb3 p5 g1 hul
      go_wp2_with fail
      refine HS.out.mono ?_
      rintro e w5 ⟨rfl, hI5⟩
      have hb5 : Below w.heap.size w w5 := HB4.out.grown hI5.gr HB4.out.size (fun q e => by injection e with e; have := HG5.out; omega)
      go_wp2
      go_ret
      exact ⟨retI E1.out.symm, hb5⟩
end Go.Proofs.Ytpmkeagdoehbhaa
