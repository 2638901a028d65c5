/- Busbars: BarsRun, of the program. -/
import Derived.Test.YtafgfhjlkdjngaaDoorBr5
import Derived.Shelf.Abstract
namespace Go.Proofs.YtafgfhjlkdjngaaDoor
open Go.ChangeShapes Go.WideShapes Go.ChangeAt Go.RowKit Go.Shelf

def brF (b : BB) (ds : List Int) : BB × Nat := if brsOk b = true then runR b ds else (([], false), 0)
/-- Bars that change at block X, beside a result that is not set yet. -/
structure BrSt (w wr : World) (X B : Nat) (v : Value) (x : BB) : Prop where
  own : OwnI 3 wr B v x.1
  bel : Below w.heap.size w wr
  cur : IsBlk wr X 25 #[v, .bool x.2]
  ret : IsBlk wr (w.heap.size + 1) 25 #[.slice none 0 0, .bool false]
  hX : w.heap.size ≤ X
  hB : w.heap.size + 2 ≤ B
  hXB : X < B
  ne : X ≠ w.heap.size + 1
section
variable {w wr w' : World} {X B : Nat} {v : Value} {x : BB}
theorem BrSt.next (h : BrSt w wr X B v x) (hb : Below wr.heap.size wr w') : BrSt w w' X B v x :=
  ⟨OwnI.keep h.own hb, h.bel.trans (hb.mono h.bel.size), h.cur.keep hb, h.ret.keep hb, h.hX, h.hB, h.hXB, h.ne⟩
theorem IsBlk.put2 {w : World} {g : Nat} {t : TypeId} {a b : Value} (h : IsBlk w g t #[a, b]) (a' b' : Value) : IsBlk ((w.setCell ⟨g, 0, none⟩ a').setCell ⟨g, 1, none⟩ b') g t #[a', b'] := by
  have := (h.put 0 a').put 1 b'
  simpa using this
theorem IsBlk.far2 {w : World} {g q : Nat} {t : TypeId} {cs : Array Value} (h : IsBlk w g t cs) (hne : g ≠ q) (a b : Value) : IsBlk ((w.setCell ⟨q, 0, none⟩ a).setCell ⟨q, 1, none⟩ b) g t cs :=
  (h.far (p := ⟨q, 0, none⟩) hne _).far (p := ⟨q, 1, none⟩) hne _
theorem BrSt.mk2 {a b : Value} (bel : Below w.heap.size w wr) (cur : IsBlk wr X 25 #[a, b]) (ret : IsBlk wr (w.heap.size + 1) 25 #[.slice none 0 0, .bool false]) (hX : w.heap.size ≤ X) (hB : w.heap.size + 2 ≤ B) (hXB : X < B) (ne : X ≠ w.heap.size + 1) (ho : OwnI 3 wr B v x.1) :
    BrSt w ((wr.setCell ⟨X, 0, none⟩ v).setCell ⟨X, 1, none⟩ (.bool x.2)) X B v x :=
  ⟨OwnI.ret2 ho (fun q hq => by have := (OwnI.lt ho q hq).1; omega) _ _, below_two bel hX _ _, cur.put2 _ _, ret.far2 (fun e => ne e.symm) _ _, hX, hB, hXB, ne⟩
theorem BrSt.put (h : BrSt w wr X B v x) {v' : Value} {y : BB} (ho : OwnI 3 wr B v' y.1) : BrSt w ((wr.setCell ⟨X, 0, none⟩ v').setCell ⟨X, 1, none⟩ (.bool y.2)) X B v' y :=
  BrSt.mk2 h.bel h.cur h.ret h.hX h.hB h.hXB h.ne ho
theorem BrSt.done (h : BrSt w wr X B v x) (a b : Value) : OwnI 3 ((wr.setCell ⟨w.heap.size + 1, 0, none⟩ a).setCell ⟨w.heap.size + 1, 1, none⟩ b) w.heap.size v x.1 ∧ Below w.heap.size w ((wr.setCell ⟨w.heap.size + 1, 0, none⟩ a).setCell ⟨w.heap.size + 1, 1, none⟩ b) :=
  ⟨OwnI.ret2 (OwnI.moreR h.own (by have := h.hB; omega)) (fun q hq => by have := (OwnI.lt h.own q hq).1; have := h.hB; omega) _ _, below_two h.bel (by omega) _ _⟩
end
theorem bdF_ok {b : BB} (h : brsOk b = true) (d : Int) : bdF b d = doR b d := by rw [bdF, if_pos h]
theorem bdB_ok {b : BB} (h : brsOk b = true) (d : Int) : bdB b d = mayR b d := by rw [bdB, h, Bool.true_and]

/-- Bars that change at block w.heap.size, beside a result that is not set yet; their slice lies in neither. -/
structure RunB (w wr : World) (base : Nat) (v : Value) (x : BB) : Prop where
  own : OwnI 3 wr base v x.1
  bel : Below w.heap.size w wr
  cur : IsBlk wr w.heap.size 25 #[v, .bool x.2]
  ret : IsBlk wr (w.heap.size + 1) 25 #[.slice none 0 0, .bool false]
  far : ∀ q, v.ownBlock = some q → q ≠ w.heap.size ∧ q ≠ w.heap.size + 1
section
variable {w wr w' : World} {base B : Nat} {v v' : Value} {x y : BB}
theorem RunB.next (h : RunB w wr base v x) (hb : Below wr.heap.size wr w') : RunB w w' base v x :=
  ⟨OwnI.keep h.own hb, h.bel.trans (hb.mono h.bel.size), h.cur.keep hb, h.ret.keep hb, h.far⟩
theorem RunB.put (h : RunB w wr base v x) (ho : OwnI 3 wr B v' y.1) (hb : base ≤ B) (hB : w.heap.size + 2 ≤ B) : RunB w ((wr.setCell ⟨w.heap.size, 0, none⟩ v').setCell ⟨w.heap.size, 1, none⟩ (.bool y.2)) base v' y :=
  ⟨OwnI.moreR (OwnI.ret2 ho (fun q hq => by have := (OwnI.lt ho q hq).1; omega) _ _) hb, below_two h.bel (Nat.le_refl _) _ _, h.cur.put2 _ _, h.ret.far2 (by omega) _ _, fun q hq => by have := (OwnI.lt ho q hq).1; omega⟩
theorem RunB.done (h : RunB w wr base v x) (a b : Value) : OwnI 3 ((wr.setCell ⟨w.heap.size + 1, 0, none⟩ a).setCell ⟨w.heap.size + 1, 1, none⟩ b) base v x.1 ∧ Below w.heap.size w ((wr.setCell ⟨w.heap.size + 1, 0, none⟩ a).setCell ⟨w.heap.size + 1, 1, none⟩ b) :=
  ⟨OwnI.ret2 h.own (fun q hq => (h.far q hq).2) _ _, below_two h.bel (by omega) _ _⟩
end
set_option maxRecDepth 100000 in
set_option maxHeartbeats 8000000 in
theorem runPossibleB_any (A : Option Addr) (n c : Nat) (ss : List Int) (cp : Bool) (D : Option Addr) (m dc : Nat) (ds : List Int) (base : Nat) (w : World) (hbw : base ≤ w.heap.size) (hok : brsOk (ss, cp) = true) (hown : OwnI 3 w base (.slice A n c) ss) (hm : m ≤ 1048576) (hrd : RowZ w D m ds) :
    Calls Tryd.prog 59 #[.agg #[.slice A n c, .bool cp], .slice D m dc, .func (.func 62) #[] #[]] w fun e w' => ∃ v, e = .returned (.tuple #[vR v (runR (ss, cp) ds).1.2, .int .i64 ((runR (ss, cp) ds).2 : Int)]) ∧ OwnI 3 w' base v (runR (ss, cp) ds).1.1 ∧ Below w.heap.size w w' := by
  have eg : ∀ args w, (callFunc 62 args).run Tryd.prog w = .ok (.enter 62 args) w := enters_of Tryd.func62 (by kernel_rfl) rfl
  have HL := Lib.hid (OwnI.rowZ hown).len
  have HD := Lib.hid hrd
  have HDL := Lib.hid hrd.len
  have HOK := Lib.hid hok
  have hn6 : n ≤ 6 := by have := brs_len hok; rw [← HL.out]; exact this.2
  have hn : n ≤ 1048576 := by omega
  have S0 := Lib.hid (show RunB w ((w.alloc (.cells #[.slice A n c, .bool cp] 25)).alloc (.cells #[.slice none 0 0, .bool false] 25)) base (.slice A n c) (ss, cp) from
    ⟨OwnI.alloc (OwnI.alloc hown _) _, (below_bx w _).alloc (by simp) _, (IsBlk.new w _ _).alloc _, by have := IsBlk.new (w.alloc (.cells #[.slice A n c, .bool cp] 25)) 25 #[.slice none 0 0, .bool false]; simpa using this, fun q hq => by have := OwnI.lt hown q hq; omega⟩)
  clear hrd hok hown
  go_enter Tryd.func59, Tryd.ntmps59
  go_wp2
  go_loopw [8, 15] (fun s i wr => ∃ (k q : Nat) (x : BB) (v : Value), k ≤ m ∧ i = .int .i64 k ∧ s = .int .i64 q ∧ q ≤ k ∧ runR (ss, cp) (ds.take k) = (x, q) ∧ RunB w wr base v x) (fun _ i _ => m - (intOf i).toNat)
  case atStart => exact ⟨0, 0, (ss, cp), _, by omega, rfl, rfl, by omega, rfl, S0.out⟩
  case round =>
    obtain ⟨k, q, x, v', hk, rfl, rfl, hqk, hrun, hst⟩ := hrel
    have SK := Lib.hid hst
    have HRUN := Lib.hid hrun
    have hxok : brsOk x = true := by have := run_okR (ds.take k) _ HOK.out; rw [hrun] at this; exact this
    have hxl : x.1.length = n := by have := run_lenR (ds.take k) (ss, cp); rw [hrun] at this; exact this.trans HL.out
    obtain ⟨x0, x1⟩ := x
    dsimp only at hxl
    obtain ⟨A1, c1, rfl⟩ := OwnI.shape SK.out.own
    have HXL := Lib.hid hxl
    have HXOK := Lib.hid hxok
    clear hst hrun hxok
    rw [show (x0, x1).1.length = n from hxl] at SK
    clear hxl
    obtain ⟨p0, p1, f0, f1⟩ := SK.out.cur.two
    by_cases hlt : k < m
    · obtain ⟨b', off, z, rfl, hb', hz, g0⟩ := HD.out.at_ hlt
      rw [← SK.out.bel.cell (p := ⟨b', off + k, none⟩) hb'] at g0
      have HNX := Lib.hid (run_nextR HRUN.out hz)
      have HROW := Lib.hid (OwnI.rowZ SK.out.own)
      have HBF := Lib.hid (bdF_ok HXOK.out z)
      have HBB := Lib.hid (bdB_ok HXOK.out z)
      have hyl0 : (doR (x0, x1) z).1.length = n := by rw [do_len]; exact HXL.out
      clear hz
      have hc0 := Lib.hid (barsDo_any A1 n c1 x0 x1 z wr hn HROW.out)
      have hw3 : w.heap.size + 2 ≤ wr.heap.size := by have := SK.out.ret.lt; omega
      clear HROW
      by_cases hmy : mayR (x0, x1) z = true
      · rw [hmy] at HNX HBB
        generalize doR (x0, x1) z = y at *
        obtain ⟨y0, y1⟩ := y
        dsimp only at hyl0
        have hyl := Lib.hid hyl0
        clear hmy hyl0
        go_wp2_with (go_at_fn 62; refine hc0.out.mono ?_; rintro e w3 ⟨v, rfl, hO, hb3⟩; rw [HBF.out] at hO ⊢; rw [HBB.out]; dsimp only [vR] at hO ⊢; obtain ⟨A2, c2, rfl⟩ := OwnI.shape hO; rw [hyl.out] at hO ⊢; have S3 := Lib.hid ((SK.out.next hb3).next (below_bx w3 (.cells #[.slice A2 n c2, .bool y1] 25))); have O3 := Lib.hid (OwnI.alloc hO (.cells #[.slice A2 n c2, .bool y1] 25)); have hqb : (q : Int) ≤ 1048576 := (by omega); clear p0 p1 f0 f1; obtain ⟨p0, p1, f0, f1⟩ := S3.out.cur.two; clear hO hb3 SK)
        go_roundw
        case rel => exact ⟨k + 1, q + 1, (y0, y1), _, by omega, by go_num, by go_num, by omega, by rw [HNX.out]; rfl, S3.out.put (y := (y0, y1)) O3.out (by omega) (by omega)⟩
        case measure => simp [intOf]; omega
      · rw [Bool.not_eq_true] at hmy
        have HST := Lib.hid (show runR (ss, cp) (ds.take (k + 1)) = ((x0, x1), q) by rw [HNX.out, hmy, doR, if_neg (by rw [hmy]; simp)]; rfl)
        rw [hmy] at HBB
        generalize doR (x0, x1) z = y at *
        obtain ⟨y0, y1⟩ := y
        dsimp only at hyl0
        have hyl := Lib.hid hyl0
        clear hmy hyl0 HNX
        go_wp2_with (go_at_fn 62; refine hc0.out.mono ?_; rintro e w3 ⟨v, rfl, hO, hb3⟩; rw [HBF.out] at hO ⊢; rw [HBB.out]; dsimp only [vR] at hO ⊢; obtain ⟨A2, c2, rfl⟩ := OwnI.shape hO; rw [hyl.out] at hO ⊢)
        have S3 := Lib.hid ((SK.out.next hb3).next (below_bx w3 (.cells #[.slice A2 n c2, .bool y1] 25)))
        clear hO hb3 SK
        go_roundw
        case rel => exact ⟨k + 1, q, (x0, x1), _, by omega, by go_num, rfl, by omega, HST.out, S3.out⟩
        case measure => simp [intOf]; omega
    · obtain rfl : k = m := by omega
      have HFIN := Lib.hid (show runR (ss, cp) ds = ((x0, x1), q) by have := HRUN.out; rw [← HDL.out, List.take_length] at this; exact this)
      obtain ⟨r0, r1, s0, s1⟩ := SK.out.ret.two
      go_wp2
      refine bodyPost_ret (v := .tuple #[vR (.slice A1 n c1) x1, .int .i64 (q : Int)]) (by simp [results, Tryd.results59, go_sem, r0, r1, vR]) rfl ⟨_, by rw [HFIN.out], by rw [HFIN.out]; exact (SK.out.done _ _).1, (SK.out.done _ _).2⟩
set_option maxRecDepth 100000 in
set_option maxHeartbeats 8000000 in
theorem barsRun_any (A : Option Addr) (n c : Nat) (ss : List Int) (cp : Bool) (D : Option Addr) (m dc : Nat) (ds : List Int) (w : World) (hn : n ≤ 1048576) (hr : RowZ w A n ss) (hm : m ≤ 1048576) (hrd : RowZ w D m ds) :
    Calls Tryd.prog 14 #[.agg #[.slice A n c, .bool cp], .slice D m dc] w fun e w' => ∃ v, e = .returned (.tuple #[vR v (brF (ss, cp) ds).1.2, .int .i64 ((brF (ss, cp) ds).2 : Int)]) ∧ OwnI 3 w' w.heap.size v (brF (ss, cp) ds).1.1 ∧ Below w.heap.size w w' := by
  have HR := Lib.hid hr
  have HL := Lib.hid hr.len
  have HD := Lib.hid hrd
  have HDL := Lib.hid hrd.len
  have b0 : Below w.heap.size w ((w.alloc (.cells #[.slice A n c, .bool cp] 25)).alloc (.cells #[.slice none 0 0, .bool false] 25)) := (below_bx w _).alloc (by simp) _
  have KA := Lib.hid ((IsBlk.new w 25 #[.slice A n c, .bool cp]).alloc (.cells #[.slice none 0 0, .bool false] 25))
  have KR := Lib.hid (IsBlk.new (w.alloc (.cells #[.slice A n c, .bool cp] 25)) 25 #[.slice none 0 0, .bool false])
  simp only [World.size_alloc] at KR
  obtain ⟨p0, p1, -⟩ := KA.out.two
  clear hr hrd
  by_cases hok : brsOk (ss, cp) = true
  · have HOK := Lib.hid hok
    have hn6 : n ≤ 6 := by have := brs_len hok; rw [← HL.out]; exact this.2
    have HIN := Lib.hid (brs_in hok)
    have HF := Lib.hid (show brF (ss, cp) ds = runR (ss, cp) ds by rw [brF, if_pos hok])
    clear hok
    go_enter Tryd.func14, Tryd.ntmps14
    go_wp2_with fail
    refine (barsValid_any A n c ss cp _ hn (HR.out.below b0)).mono ?_
    rintro e w1 ⟨rfl, hb1⟩
    rw [HOK.out]
    have K1 := Lib.hid (KA.out.keep hb1)
    have R1 := Lib.hid (KR.out.keep hb1)
    have b1 : Below w.heap.size w w1 := b0.trans (hb1.mono b0.size)
    have HR1 := Lib.hid (show RowZ w1.drew A n ss from HR.out.below b1.drew)
    have K1d := Lib.hid (show IsBlk w1.drew w.heap.size 25 #[.slice A n c, .bool cp] from K1.out)
    have R1d := Lib.hid (show IsBlk w1.drew (w.heap.size + 1) 25 #[.slice none 0 0, .bool false] from R1.out)
    have b1d : Below w.heap.size w w1.drew := b1.drew
    have B1D := Lib.hid b1d
    have hlt1 := R1.out.lt
    have hnl := num_lt13 HIN.out (show (ss, cp).1.length ≤ 6 by simp only; rw [HL.out]; exact hn6)
    have HOFF := Lib.hid (show offR (numR (ss, cp)) n = (ss, cp) by rw [← HL.out]; exact num_off HIN.out)
    clear p0 p1 hb1 KA KR
    obtain ⟨p0, p1, f0, f1⟩ := K1.out.two
    go_upto_region 3 with fail
    have AR := Lib.hid (show ∀ wx : World, Below w.heap.size w wx → RowZ wx D m ds from fun _ h => HD.out.below h)
    go_region_with (first
      | (go_at_call 59; refine (runPossibleB_any A2 n c2 ss cp D m dc ds (w.heap.size + 2) _ (by have := R3.out.lt; omega) HOK.out (OwnI.moreR O3.out hsz3.out) hm (AR.out _ B3.out)).mono ?_; rintro e w4 ⟨v, rfl, hO4, hb4⟩; obtain ⟨A4, c4, e4⟩ := OwnI.shape hO4; subst e4; dsimp only [vR]; have R4 := Lib.hid (R3.out.keep hb4); obtain ⟨r0, r1, s0, s1⟩ := R4.out.two)
      | (go_at_call 61; refine (barsNumber_any A n c ss cp _ hn6 HIN.out HR1.out).mono ?_; rintro e w2 ⟨rfl, hb2⟩; obtain ⟨q0, q1, g0, g1⟩ := (K1d.out.keep hb2).two; have K2 := Lib.hid (K1d.out.keep hb2); have R2 := Lib.hid (R1d.out.keep hb2); have B2 := Lib.hid (B1D.out.trans (hb2.mono B1D.out.size)))
      | (go_at_call 60; refine (barsOf_any (numR (ss, cp)) n hnl hn6 _).mono ?_; rintro e w3 ⟨v3, rfl, hO, hb3⟩; rw [HOFF.out] at hO; rw [HOFF.out]; dsimp only [vR] at hO ⊢; obtain ⟨A2, c2, rfl⟩ := OwnI.shape hO; rw [HL.out] at hO ⊢; have O3 := Lib.hid hO; have R3 := Lib.hid (R2.out.keep hb3); have B3 := Lib.hid (B2.out.trans (hb3.mono B2.out.size)); have hsz3 := Lib.hid (show w.heap.size + 2 ≤ w2.heap.size from R2.out.lt)))
    all_goals go_wp2
    all_goals
      have b4 := B3.out.trans (hb4.mono B3.out.size)
      refine bodyPost_ret (v := .tuple #[vR (.slice A4 (runR (ss, cp) ds).1.1.length c4) (runR (ss, cp) ds).1.2, .int .i64 ((runR (ss, cp) ds).2 : Int)]) (by simp [results, Tryd.results14, go_sem, vR, r0, r1]) rfl ⟨_, by rw [HF.out], by rw [HF.out]; exact OwnI.moreR (OwnI.ret2 hO4 (fun q hq => by have := (OwnI.lt hO4 q hq).1; omega) _ _) (by omega), below_two b4 (by omega) _ _⟩
  · rw [Bool.not_eq_true] at hok
    have HF := Lib.hid (show brF (ss, cp) ds = (([], false), 0) by rw [brF, if_neg (by rw [hok]; simp)])
    go_enter Tryd.func14, Tryd.ntmps14
    go_wp2_with fail
    refine (barsValid_any A n c ss cp _ hn (HR.out.below b0)).mono ?_
    rintro e w1 ⟨rfl, hb1⟩
    rw [hok]
    have R1 := Lib.hid (KR.out.keep hb1)
    have b1 : Below w.heap.size w w1 := b0.trans (hb1.mono b0.size)
    obtain ⟨r0, r1, s0, s1⟩ := R1.out.two
    clear hok p0 p1 hb1
    go_wp2
    refine bodyPost_ret (v := .tuple #[vR (.slice none 0 0) false, .int .i64 0]) (by simp [results, Tryd.results14, go_sem, r0, r1, vR]) rfl ⟨_, by rw [HF.out]; rfl, ?_, below_two b1 (by omega) _ _⟩
    rw [HF.out]
    exact OwnI.nil
end Go.Proofs.YtafgfhjlkdjngaaDoor
