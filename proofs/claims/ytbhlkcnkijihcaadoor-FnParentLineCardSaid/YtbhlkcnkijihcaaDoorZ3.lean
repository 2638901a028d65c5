/- The drawings of FnRadial, FnFedBy, FnParentLine, FnPathLines and FnBelowLine. -/
import Derived.Test.YtbhlkcnkijihcaaDoorZ2
import Derived.Test.YtbhlkcnkijihcaaDoorBDC
namespace Go.Proofs.YtbhlkcnkijihcaaDoor
open Go.ChangeShapes Go.WideShapes Go.ChangeAt Go.RowKit

section
variable {w w' : World} {base n : Nat} {A : Option Addr} {us : List TU} {row : Option Nat}
theorem RowUB.far (h : RowUB w base A n us) (hg : w.grownBy w' row) (hne : ∀ q, row = some q → q < base) : RowUB w' base A n us := by
  refine ⟨⟨h.1.1, fun hn => ?_⟩, h.2⟩
  obtain ⟨b, off, e, hlt, hc⟩ := h.1.2 hn
  have hb := h.2 b off e
  have eq : w'.heap[b]? = w.heap[b]? := hg.block b hlt (fun e => by have := hne _ e.symm; omega)
  have hcell : ∀ o, w'.cell? ⟨b, o, none⟩ = w.cell? ⟨b, o, none⟩ := fun o => by simp [World.cell?, eq]
  refine ⟨b, off, e, Nat.lt_of_lt_of_le hlt hg.size, fun k l hk => ?_⟩
  obtain ⟨h0, h1⟩ := hc k l hk
  exact ⟨(hcell _).trans h0, (hcell _).trans h1⟩
theorem RowUB.more {base' : Nat} (h : RowUB w base A n us) (hb : base' ≤ base) : RowUB w base' A n us := ⟨h.1, fun b off e => Nat.le_trans hb (h.2 b off e)⟩
theorem RowUB.pick {R : Nat} (h : RowUB w base A n us) (hg : w.grownBy w' (some R)) (hR : R < base) : RowUB w' base A n us := h.far hg (fun q e => by injection e with e; omega)
theorem RowUB.keep (h : RowUB w base A n us) (hb : Below w.heap.size w w') : RowUB w' base A n us := ⟨h.1.below hb, h.2⟩
theorem RowUB.far1 {q : Nat} (h : RowUB w base A n us) (hq : q < base) (u u' : Value) : RowUB ((w.setCell ⟨q, 0, none⟩ u).setCell ⟨q, 1, none⟩ u') base A n us :=
  h.far (grown_then (grown_put _ _ _ _) (grown_put _ _ _ _)) (fun p e => by injection e with e; omega)
end

/-- What a drawing with a bus hands back. -/
def DrawnB (w w' : World) (e : Ending) (bs : Int) (A : Option Addr) (c : Nat) (ls : List L3) (B : Option Addr) (d : Nat) (ts : List Bool) (U : Option Addr) (r : Nat) (us : List TU) (bus : Int) : Prop :=
  e = .returned (.tuple #[.agg #[.int .i64 bs, .slice A ls.length c], .slice B ts.length d, .slice U us.length r, .int .i64 bus]) ∧ OwnL w' (w.heap.size + 1) (.slice A ls.length c) ls ∧ ls.length ≤ 12 ∧ -1 ≤ bs ∧ bs ≤ 9 ∧ OwnT w' (w.heap.size + 1) (.slice B ts.length d) ts ∧ ts.length ≤ 13 ∧ RowUB w' (w.heap.size + 1) U us.length us ∧ us.length ≤ 10
def RadBus (w : World) (R : Nat) (l : Int) (e : Ending) (w' : World) : Prop := ∃ bs A c ls B d ts U r us bus, DrawnB w w' e bs A c ls B d ts U r us bus ∧ Rd w' R l ∧ w.grownBy w' (some R)

set_option maxRecDepth 100000 in
set_option maxHeartbeats 2000000 in
theorem radialBus_any (R : Nat) (lim : Int) (hlim : lim ≤ 600000) (w : World) (hR : R < w.heap.size) (hr : Rd w R lim) :
    Calls Tryd.prog 48 #[.pointer (some ⟨R, 0, none⟩)] w (RadBus w R (lim + 260)) := by
  go_enter Tryd.func48, Tryd.ntmps48
  go_wp2_with fail
  refine (radialDraw_any R 9 lim (by omega) (by omega) _ (by simp; omega) (hr.alloc _)).mono ?_
  rintro e w2 ⟨bs, A', c', ls, As, cs, ts, Au, cu, us, ⟨rfl, ho, hl, hb0, hb9, hO, hts, hU, hus⟩, hr2, hg2⟩
  have S1 := Lib.hid (sw_start (bs := bs) hR ho hr2 hg2)
  have O1 := Lib.hid (show OwnT (w2.alloc (.cells #[.int .i64 bs, .slice A' ls.length c'] 25)) (w.heap.size + 1) (.slice As ts.length cs) ts from (hO.more (by simp)).keep (below_bx _ _))
  have U1 := Lib.hid (show RowUB (w2.alloc (.cells #[.int .i64 bs, .slice A' ls.length c'] 25)) (w.heap.size + 1) Au us.length us from (hU.more (by simp)).keep (below_bx _ _))
  clear hr2 hg2 ho hO hU hr
  go_upto_region 2 with fail
  obtain ⟨p0, p1, p2, p3⟩ := S1.out.var.two
  obtain ⟨q0, q1, q2, q3⟩ := S1.out.ret.two
  have hX1 : ¬ w.heap.size = w2.heap.size := by have := S1.out.hX; omega
  generalize w2.heap.size = X at *
  generalize hw3 : w2.alloc (.cells #[.int .i64 bs, .slice A' ls.length c'] 25) = w3 at *
  have D1 := Lib.hid S1.out.drew
  have DO := Lib.hid (show OwnT w3.drew (w.heap.size + 1) (.slice As ts.length cs) ts from O1.out)
  have DU := Lib.hid (show RowUB w3.drew (w.heap.size + 1) Au us.length us from U1.out)
  have hk1 : IntKind.i64.wrap (bs + 1) = bs + 1 := IntWalk.i64_in _ (by omega)
  have hk2 := Lib.hid (show bs + 1 ≤ 1000000 by omega)
  have hk3 := Lib.hid (show lim + 250 ≤ 1000000 by omega)
  have hk4 := Lib.hid (show lim + 250 + 1 ≤ 1000000 by omega)
  have hlt := Lib.hid (show R < w.heap.size + 1 by omega)
  clear hw3 S1 O1 U1
  go_region_with (first
    | (go_at_call 65; refine (pick_any R 12 _ hk4.out (by decide) _ T1.out.rd).mono ?_; rintro e w5 ⟨vb, rfl, hd0, hd1, _, hr5, hg5⟩; have T2 := Lib.hid (T1.out.pick hr5 hg5); have O5 := Lib.hid (O4.out.pick hg5 hlt.out); have U5 := Lib.hid (U4.out.pick hg5 hlt.out); obtain ⟨p0, p1, p2, p3⟩ := T2.out.var.two; obtain ⟨q0, q1, q2, q3⟩ := T2.out.ret.two)
    | (go_at_call 65; refine (pick_any R _ _ hk3.out hk2.out _ D1.out.rd).mono ?_; rintro e w4 ⟨va, rfl, he0, he1, _, hr4, hg4⟩; have T1 := Lib.hid (D1.out.pick hr4 hg4); have O4 := Lib.hid (DO.out.pick hg4 hlt.out); have U4 := Lib.hid (DU.out.pick hg4 hlt.out); obtain ⟨p0, p1, p2, p3⟩ := T1.out.var.two; obtain ⟨q0, q1, q2, q3⟩ := T1.out.ret.two))
  all_goals clear hk1
  all_goals go_wp2_with fail
  all_goals
    obtain ⟨o4, r4, g4⟩ := T2.out.done (.int .i64 bs) (.slice A' ls.length c')
    refine bodyPost_ret (v := .tuple #[.agg #[.int .i64 bs, .slice A' ls.length c'], .slice As ts.length cs, .slice Au us.length cu, .int .i64 (IntKind.i64.wrap (va - IntKind.i64.wrap (vb.tdiv 11)))]) (by simp [results, Tryd.results48, go_sem, q0, q1]) rfl ⟨bs, A', c', ls, As, cs, ts, Au, cu, us, _, ⟨rfl, o4, hl, hb0, hb9, O5.out.far1 (by omega) _ _, hts, U5.out.far1 (by omega) _ _, hus⟩, r4.mono (by omega), g4⟩

/-- The answer of such a drawing: rows; with a number. -/
def Drawn3 (w : World) (e : Ending) (w' : World) : Prop := ∃ bs A c ls B d ts U r us, e = .returned (.tuple #[.agg #[.int .i64 bs, .slice A ls.length c], .slice B ts.length d, .slice U us.length r]) ∧ RowL w' A ls.length ls ∧ ls.length ≤ 12 ∧ -1 ≤ bs ∧ bs ≤ 9 ∧ RowT w' B ts.length ts ∧ ts.length ≤ 13 ∧ RowU w' U us.length us ∧ us.length ≤ 10 ∧ Below w.heap.size w w'
def Drawn4 (w : World) (e : Ending) (w' : World) : Prop := ∃ bs A c ls B d ts U r us bus, e = .returned (.tuple #[.agg #[.int .i64 bs, .slice A ls.length c], .slice B ts.length d, .slice U us.length r, .int .i64 bus]) ∧ RowL w' A ls.length ls ∧ ls.length ≤ 12 ∧ -1 ≤ bs ∧ bs ≤ 9 ∧ RowT w' B ts.length ts ∧ ts.length ≤ 13 ∧ RowU w' U us.length us ∧ us.length ≤ 10 ∧ Below w.heap.size w w'
theorem stored3 {w w1 w2 : World} {A B U : Option Addr} {c d n m r : Nat} {ls : List L3} {ts : List Bool} {us : List TU} (hb1 : Below (w.heap.size + 1) (w.alloc (.cells #[.int .i64 0, .slice none 0 0] 25)) w1) (hs : w.heap.size + 1 + 1 ≤ w1.heap.size)
    (ho : OwnL w2 (w1.heap.size + 1) (.slice A n c) ls) (hO : OwnT w2 (w1.heap.size + 1) (.slice B m d) ts) (hU : RowUB w2 (w1.heap.size + 1) U r us) (hg : w1.grownBy w2 (some (w.heap.size + 1))) (x y : Value) :
    RowL ((w2.setCell ⟨w.heap.size, 0, none⟩ x).setCell ⟨w.heap.size, 1, none⟩ y) A n ls ∧ RowT ((w2.setCell ⟨w.heap.size, 0, none⟩ x).setCell ⟨w.heap.size, 1, none⟩ y) B m ts ∧ RowU ((w2.setCell ⟨w.heap.size, 0, none⟩ x).setCell ⟨w.heap.size, 1, none⟩ y) U r us ∧ Below w.heap.size w ((w2.setCell ⟨w.heap.size, 0, none⟩ x).setCell ⟨w.heap.size, 1, none⟩ y) := by
  have h12 := hg.size
  have b1 : Below w.heap.size w w1 := (below_bx w _).trans (hb1.mono (by omega))
  have b2 := b1.grown hg (by omega) (fun q hq => by injection hq with hq; omega)
  exact ⟨(ho.far1 (by omega) _ _).rowL, (hO.far1 (by omega) _ _).rowT, (hU.far1 (by omega) _ _).1, (b2.setCell (Nat.le_refl _) _).setCell (Nat.le_refl _) _⟩

set_option maxRecDepth 100000 in
set_option maxHeartbeats 1000000 in
theorem drawFedBy_any (A : Option Addr) (n c : Nat) (code : List Int) (w : World) (hr : RowB w A n code) (hnc : n ≤ c) (hc : c ≤ 9223372036854775807) :
    Calls Tryd.prog 11 #[.slice A n c] w (Drawn4 w) := by
  go_enter Tryd.func11, Tryd.ntmps11
  go_wp2_with fail
  refine (open_any A n c code _ (hr.alloc _) hnc hc).mono ?_
  rintro e w1 ⟨rfl, hb1, hr1, hs1⟩
  simp only [World.size_alloc] at hb1 hr1 hs1
  have k1 : IsBlk w1 w.heap.size 25 #[.int .i64 0, .slice none 0 0] := (IsBlk.new w 25 #[.int .i64 0, .slice none 0 0]).below hb1 (by omega)
  have HB := Lib.hid hb1
  have HS := Lib.hid (show w.heap.size + 1 + 1 ≤ w1.heap.size by omega)
  clear hb1 hs1 hr
  go_wp2_with fail
  refine (radialBus_any (w.heap.size + 1) 0 (by decide) _ (by have := HS.out; omega) hr1).mono ?_
  rintro e w2 ⟨bs, A', c', ls, As, cs, ts, Au, cu, us, bus, ⟨rfl, ho, hl, hb0, hb9, hO, hts, hU, hus⟩, hr2, hg2⟩
  have S := Lib.hid (stored3 HB.out HS.out ho hO hU hg2 (.int .i64 bs) (.slice A' ls.length c'))
  obtain ⟨q0, q1, q2, q3⟩ := (show IsBlk w2 w.heap.size 25 _ from (hg2.block _ k1.lt (by simp)).trans k1).two
  clear k1 ho hO hU hr2 hg2 hr1
  go_wp2_with fail
  exact bodyPost_ret (v := .tuple #[.agg #[.int .i64 bs, .slice A' ls.length c'], .slice As ts.length cs, .slice Au us.length cu, .int .i64 bus]) (by simp [results, Tryd.results11, go_sem, q0, q1]) rfl ⟨bs, A', c', ls, As, cs, ts, Au, cu, us, bus, rfl, S.out.1, hl, hb0, hb9, S.out.2.1, hts, S.out.2.2.1, hus, S.out.2.2.2⟩

set_option maxRecDepth 100000 in
set_option maxHeartbeats 1000000 in
theorem drawParentLine_any (A : Option Addr) (n c : Nat) (code : List Int) (w : World) (hr : RowB w A n code) (hnc : n ≤ c) (hc : c ≤ 9223372036854775807) :
    Calls Tryd.prog 19 #[.slice A n c] w (Drawn4 w) := by
  go_enter Tryd.func19, Tryd.ntmps19
  go_wp2_with fail
  refine (open_any A n c code _ (hr.alloc _) hnc hc).mono ?_
  rintro e w1 ⟨rfl, hb1, hr1, hs1⟩
  simp only [World.size_alloc] at hb1 hr1 hs1
  have k1 : IsBlk w1 w.heap.size 25 #[.int .i64 0, .slice none 0 0] := (IsBlk.new w 25 #[.int .i64 0, .slice none 0 0]).below hb1 (by omega)
  have HB := Lib.hid hb1
  have HS := Lib.hid (show w.heap.size + 1 + 1 ≤ w1.heap.size by omega)
  clear hb1 hs1 hr
  go_wp2_with fail
  refine (radialBus_any (w.heap.size + 1) 0 (by decide) _ (by have := HS.out; omega) hr1).mono ?_
  rintro e w2 ⟨bs, A', c', ls, As, cs, ts, Au, cu, us, bus, ⟨rfl, ho, hl, hb0, hb9, hO, hts, hU, hus⟩, hr2, hg2⟩
  have S := Lib.hid (stored3 HB.out HS.out ho hO hU hg2 (.int .i64 bs) (.slice A' ls.length c'))
  obtain ⟨q0, q1, q2, q3⟩ := (show IsBlk w2 w.heap.size 25 _ from (hg2.block _ k1.lt (by simp)).trans k1).two
  clear k1 ho hO hU hr2 hg2 hr1
  go_wp2_with fail
  exact bodyPost_ret (v := .tuple #[.agg #[.int .i64 bs, .slice A' ls.length c'], .slice As ts.length cs, .slice Au us.length cu, .int .i64 bus]) (by simp [results, Tryd.results19, go_sem, q0, q1]) rfl ⟨bs, A', c', ls, As, cs, ts, Au, cu, us, bus, rfl, S.out.1, hl, hb0, hb9, S.out.2.1, hts, S.out.2.2.1, hus, S.out.2.2.2⟩

set_option maxRecDepth 100000 in
set_option maxHeartbeats 1000000 in
theorem drawPathLines_any (A : Option Addr) (n c : Nat) (code : List Int) (w : World) (hr : RowB w A n code) (hnc : n ≤ c) (hc : c ≤ 9223372036854775807) :
    Calls Tryd.prog 25 #[.slice A n c] w (Drawn4 w) := by
  go_enter Tryd.func25, Tryd.ntmps25
  go_wp2_with fail
  refine (open_any A n c code _ (hr.alloc _) hnc hc).mono ?_
  rintro e w1 ⟨rfl, hb1, hr1, hs1⟩
  simp only [World.size_alloc] at hb1 hr1 hs1
  have k1 : IsBlk w1 w.heap.size 25 #[.int .i64 0, .slice none 0 0] := (IsBlk.new w 25 #[.int .i64 0, .slice none 0 0]).below hb1 (by omega)
  have HB := Lib.hid hb1
  have HS := Lib.hid (show w.heap.size + 1 + 1 ≤ w1.heap.size by omega)
  clear hb1 hs1 hr
  go_wp2_with fail
  refine (radialBus_any (w.heap.size + 1) 0 (by decide) _ (by have := HS.out; omega) hr1).mono ?_
  rintro e w2 ⟨bs, A', c', ls, As, cs, ts, Au, cu, us, bus, ⟨rfl, ho, hl, hb0, hb9, hO, hts, hU, hus⟩, hr2, hg2⟩
  have S := Lib.hid (stored3 HB.out HS.out ho hO hU hg2 (.int .i64 bs) (.slice A' ls.length c'))
  obtain ⟨q0, q1, q2, q3⟩ := (show IsBlk w2 w.heap.size 25 _ from (hg2.block _ k1.lt (by simp)).trans k1).two
  clear k1 ho hO hU hr2 hg2 hr1
  go_wp2_with fail
  exact bodyPost_ret (v := .tuple #[.agg #[.int .i64 bs, .slice A' ls.length c'], .slice As ts.length cs, .slice Au us.length cu, .int .i64 bus]) (by simp [results, Tryd.results25, go_sem, q0, q1]) rfl ⟨bs, A', c', ls, As, cs, ts, Au, cu, us, bus, rfl, S.out.1, hl, hb0, hb9, S.out.2.1, hts, S.out.2.2.1, hus, S.out.2.2.2⟩

/-- The answer of such a drawing: rows of its own; with a number. -/
def DrawnB4 (w : World) (e : Ending) (w' : World) : Prop := ∃ bs A c ls B d ts U r us bus, DrawnB w w' e bs A c ls B d ts U r us bus ∧ Below w.heap.size w w'

set_option maxRecDepth 100000 in
set_option maxHeartbeats 1000000 in
theorem drawBelowLineB_any (A : Option Addr) (n c : Nat) (code : List Int) (w : World) (hr : RowB w A n code) (hnc : n ≤ c) (hc : c ≤ 9223372036854775807) :
    Calls Tryd.prog 27 #[.slice A n c] w (DrawnB4 w) := by
  go_enter Tryd.func27, Tryd.ntmps27
  go_wp2_with fail
  refine (open_any A n c code _ (hr.alloc _) hnc hc).mono ?_
  rintro e w1 ⟨rfl, hb1, hr1, hs1⟩
  simp only [World.size_alloc] at hb1 hr1 hs1
  have HS := Lib.hid hs1
  clear hs1
  go_wp2_with fail
  refine (radialDraw_any (w.heap.size + 1) 9 0 (by decide) (by decide) _ (by rw [HS.out]; omega) hr1).mono ?_
  rintro e w2 ⟨bs, A', c', ls, As, cs, ts, Au, cu, us, ⟨rfl, ho, hl, hb0, hb9, hO, hts, hU, hus⟩, hr2, hg2⟩
  have S1 := Lib.hid (draw_startS (bs := bs) hb1 rfl HS.out ho hr2 hg2)
  have O1 := Lib.hid (show OwnT (w2.alloc (.cells #[.int .i64 bs, .slice A' ls.length c'] 25)) (w.heap.size + 1 + 1) (.slice As ts.length cs) ts from (hO.more (by rw [HS.out]; omega)).keep (below_bx _ _))
  have U1 := Lib.hid (show RowUB (w2.alloc (.cells #[.int .i64 bs, .slice A' ls.length c'] 25)) (w.heap.size + 1 + 1) Au us.length us from (hU.more (by rw [HS.out]; omega)).keep (below_bx _ _))
  clear hr2 hg2 ho hO hU hr hr1 hb1
  generalize hR : w.heap.size + 1 = R at *
  have HRR := Lib.hid hR
  clear hR
  have hX1 : ¬ w.heap.size = w2.heap.size := by have := S1.out.hR; have := S1.out.hX; omega
  have hRw := S1.out.hR
  go_upto_region 3 with fail
  generalize w2.heap.size = X at *
  generalize hw3 : w2.alloc (.cells #[.int .i64 bs, .slice A' ls.length c'] 25) = w3 at *
  obtain ⟨p0, p1, p2, p3⟩ := S1.out.var.two
  obtain ⟨q0, q1, q2, q3⟩ := S1.out.ret.two
  have D1 := Lib.hid S1.out.drew
  have DO := Lib.hid (show OwnT w3.drew (R + 1) (.slice As ts.length cs) ts from O1.out)
  have DU := Lib.hid (show RowUB w3.drew (R + 1) Au us.length us from U1.out)
  have hk1 : IntKind.i64.wrap ((ls.length : Int) + 1) = (ls.length : Int) + 1 := IntWalk.i64_in _ (by omega)
  have hk2 := Lib.hid (show (ls.length : Int) + 1 ≤ 1000000 by omega)
  have hlt := Lib.hid (Nat.lt_succ_self R)
  clear hw3 S1 O1 U1 HS
  go_region_with (first
    | (go_at_call 65; refine (pick_any R 12 _ (by decide) (by decide) _ T1.out.rd).mono ?_; rintro e w5 ⟨vb, rfl, hd0, hd1, _, hr5, hg5⟩; have T2 := Lib.hid (T1.out.pick hr5 hg5); have O5 := Lib.hid (O4.out.pick hg5 hlt.out); have U5 := Lib.hid (U4.out.pick hg5 hlt.out); obtain ⟨p0, p1, p2, p3⟩ := T2.out.var.two; obtain ⟨q0, q1, q2, q3⟩ := T2.out.ret.two)
    | (go_at_call 65; refine (pick_any R _ _ (by decide) hk2.out _ D1.out.rd).mono ?_; rintro e w4 ⟨va, rfl, he0, he1, _, hr4, hg4⟩; have T1 := Lib.hid (D1.out.pick hr4 hg4); have O4 := Lib.hid (DO.out.pick hg4 hlt.out); have U4 := Lib.hid (DU.out.pick hg4 hlt.out); obtain ⟨p0, p1, p2, p3⟩ := T1.out.var.two; obtain ⟨q0, q1, q2, q3⟩ := T1.out.ret.two))
  all_goals clear hk1
  all_goals go_wp2_with fail
  all_goals
    have T4 := T2.out.done (.int .i64 bs)
    refine bodyPost_ret (v := .tuple #[.agg #[.int .i64 bs, .slice A' ls.length c'], .slice As ts.length cs, .slice Au us.length cu, .int .i64 (IntKind.i64.wrap (va - IntKind.i64.wrap (vb.tdiv 11)))]) (by simp [results, Tryd.results27, go_sem, q0, q1]) rfl ⟨bs, A', c', ls, As, cs, ts, Au, cu, us, _, ⟨rfl, OwnL.more (T2.out.own.far1 (by omega) _ _) (by omega), hl, hb0, hb9, (O5.out.far1 (by omega) _ _).more (by omega), hts, (U5.out.far1 (by omega) _ _).more (by omega), hus⟩, T4.2⟩
theorem drawBelowLine_any (A : Option Addr) (n c : Nat) (code : List Int) (w : World) (hr : RowB w A n code) (hnc : n ≤ c) (hc : c ≤ 9223372036854775807) :
    Calls Tryd.prog 27 #[.slice A n c] w (Drawn4 w) := by
  refine (drawBelowLineB_any A n c code w hr hnc hc).mono ?_
  rintro e w2 ⟨bs, A', c', ls, As, cs, ts, Au, cu, us, bus, ⟨he, ho, hl, hb0, hb9, hO, hts, hU, hus⟩, hb⟩
  exact ⟨bs, A', c', ls, As, cs, ts, Au, cu, us, bus, he, ho.rowL, hl, hb0, hb9, hO.rowT, hts, hU.1, hus, hb⟩
end Go.Proofs.YtbhlkcnkijihcaaDoor
