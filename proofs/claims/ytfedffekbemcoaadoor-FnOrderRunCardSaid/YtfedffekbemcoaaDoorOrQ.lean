/- Switching orders: the drawing of a network, a state and an order. -/
import Derived.Test.YtfedffekbemcoaaDoorOrC
import Derived.Test.YtfedffekbemcoaaDoorOr2
import Derived.Test.YtfedffekbemcoaaDoorBCC
import Derived.Test.YtfedffekbemcoaaDoorB7
import Derived.Test.YtfedffekbemcoaaDoorBDB
import Derived.RegionTactic
namespace Go.Proofs.YtfedffekbemcoaaDoor
open Go.ChangeShapes Go.WideShapes Go.ChangeAt Go.RowKit

/-- While an order is made to fit a state: the list, a copy of the state above S4, the reader; below w3 all else is as it was. -/
structure RnSt (w3 wr : World) (R S4 : Nat) (lim : Int) (vl : Value) (us : List TP) (vx : Value) (xs : List Bool) : Prop where
  lst : OwnP wr w3.heap.size vl us
  lhi : ∀ q, vl.ownBlock = some q → q < S4
  cpy : OwnT wr S4 vx xs
  rd : Rd wr R lim
  hR : R < w3.heap.size
  h34 : w3.heap.size ≤ S4
  gr : w3.grownBy wr (some R)
section
variable {w3 wr w' : World} {R S4 : Nat} {lim lim' : Int} {vl vx : Value} {us us' : List TP} {xs xs' : List Bool}
theorem RnSt.pick (h : RnSt w3 wr R S4 lim vl us vx xs) (hr : Rd w' R lim') (hg : wr.grownBy w' (some R)) : RnSt w3 w' R S4 lim' vl us vx xs := by
  have h1 := h.hR
  have h2 := h.h34
  exact ⟨h.lst.far hg (fun q hq e => by injection e with e; have := (h.lst.lt q hq).1; omega), h.lhi, h.cpy.far hg (fun q hq e => by injection e with e; have := (h.cpy.lt q hq).1; omega), hr, h.hR, h.h34, grown_then h.gr hg⟩
theorem RnSt.drew (h : RnSt w3 wr R S4 lim vl us vx xs) : RnSt w3 wr.drew R S4 lim vl us vx xs := ⟨h.lst.keep ((Below.refl _ _).drew), h.lhi, h.cpy.drew, h.rd, h.hR, h.h34, grown_then h.gr ⟨rfl, rfl, rfl, Nat.le_refl _, fun _ _ _ => rfl⟩⟩
theorem RnSt.mono (h : RnSt w3 wr R S4 lim vl us vx xs) (hl : lim ≤ lim') : RnSt w3 wr R S4 lim' vl us vx xs := ⟨h.lst, h.lhi, h.cpy, h.rd.mono hl, h.hR, h.h34, h.gr⟩
theorem RnSt.putL (h : RnSt w3 wr R S4 lim vl us vx xs) {g i : Nat} {u : Value} (hg : vl.ownBlock = some g) (ho : OwnP (wr.setCell ⟨g, i, none⟩ u) w3.heap.size vl us') : RnSt w3 (wr.setCell ⟨g, i, none⟩ u) R S4 lim vl us' vx xs := by
  have h1 := h.hR
  have h2 := (h.lst.lt g hg).1
  have h3 := h.lhi g hg
  have hgp : wr.grownBy (wr.setCell ⟨g, i, none⟩ u) (some g) := grown_put _ _ _ _
  exact ⟨ho, h.lhi, h.cpy.far hgp (fun q hq e => by injection e with e; have := (h.cpy.lt q hq).1; omega), h.rd.far (by omega) hgp, h.hR, h.h34, grown_new h.gr hgp (by omega)⟩
theorem RnSt.putX (h : RnSt w3 wr R S4 lim vl us vx xs) {g i : Nat} {u : Value} (hg : S4 ≤ g) (ho : OwnT (wr.setCell ⟨g, i, none⟩ u) S4 vx xs') : RnSt w3 (wr.setCell ⟨g, i, none⟩ u) R S4 lim vl us vx xs' := by
  have h1 := h.hR
  have h2 := h.h34
  have hgp : wr.grownBy (wr.setCell ⟨g, i, none⟩ u) (some g) := grown_put _ _ _ _
  exact ⟨h.lst.far hgp (fun q hq e => by injection e with e; have := h.lhi q hq; omega), h.lhi, ho, h.rd.far (by omega) hgp, h.hR, h.h34, grown_new h.gr hgp (by omega)⟩
theorem RnSt.look (h : RnSt w3 wr R S4 lim vl us vx xs) : OwnP wr w3.heap.size vl us ∧ ∃ A c, vl = .slice A us.length c ∧ RowP wr A us.length us := ⟨h.lst, h.lst.row⟩
end
theorem rowB_allocO {w : World} {A : Option Addr} {n : Nat} {code : List Int} (hr : RowB w A n code) (o : Obj) : RowB (w.alloc o) A n code := by
  refine ⟨hr.1, fun hp => ?_, hr.2.2⟩
  obtain ⟨b, off, e, hlt, hcl⟩ := hr.2.1 hp
  exact ⟨b, off, e, by simp; omega, fun k x hk => by rw [World.cell?_alloc_lt _ _ _ hlt]; exact hcl k x hk⟩
theorem rowL_ofO {w : World} {base n c : Nat} {A : Option Addr} {ls : List L3} (h : OwnL w base (.slice A n c) ls) : RowL w A n ls := by
  obtain ⟨A', c', e, hr⟩ := h.row
  injection e with e1 e2 e3
  subst e1; rw [e2]; exact hr
theorem rowT_ofO {w : World} {base n c : Nat} {A : Option Addr} {ts : List Bool} (h : OwnT w base (.slice A n c) ts) : RowT w A n ts := by
  obtain ⟨A', c', e, _, hr⟩ := h.row
  injection e with e1 e2 e3
  subst e1; rw [e2]; exact hr
theorem own_cells {w : World} {base g n c : Nat} {us : List TP} {k : Nat} {p : TP} (h : OwnP w base (.slice (some ⟨g, 0, none⟩) n c) us) (hk : us[k]? = some p) : w.cell? ⟨g, k * 2, none⟩ = some (.int .i64 p.1) ∧ w.cell? ⟨g, k * 2 + 1, none⟩ = some (.bool p.2) := by
  obtain ⟨A, c', e, hr⟩ := h.row
  injection e with e1 _ _
  subst e1
  obtain ⟨b, off, e2, _, hc⟩ := hr.2 (by have := (List.getElem?_eq_some_iff.1 hk).1; omega)
  injection e2 with e2; injection e2 with e3 e4
  subst e3 e4
  have := hc k p hk
  simpa using this
/-- What is left when the loop is over. -/
theorem RnSt.fin {w w3 wr : World} {R S4 : Nat} {lim : Int} {us : List TP} {vx : Value} {xs : List Bool} {A B C : Option Addr} {c d r N : Nat} {ls : List L3} {ts : List Bool} (h : RnSt w3 wr R S4 lim (.slice C N r) us vx xs) (hN : us.length = N)
    (ha : Below w.heap.size w w3) (hR : R = w.heap.size + 1) (hOL : OwnL w3 (w.heap.size + 3) (.slice A ls.length c) ls) (hOT : OwnT w3 (w.heap.size + 3) (.slice B ts.length d) ts) (h3 : w.heap.size + 3 ≤ w3.heap.size) (u u' : Value) :
    RowL ((wr.setCell ⟨w.heap.size, 0, none⟩ u).setCell ⟨w.heap.size, 1, none⟩ u') A ls.length ls ∧ RowT ((wr.setCell ⟨w.heap.size, 0, none⟩ u).setCell ⟨w.heap.size, 1, none⟩ u') B ts.length ts ∧
    OwnP ((wr.setCell ⟨w.heap.size, 0, none⟩ u).setCell ⟨w.heap.size, 1, none⟩ u') w.heap.size (.slice C us.length r) us ∧ Below w.heap.size w ((wr.setCell ⟨w.heap.size, 0, none⟩ u).setCell ⟨w.heap.size, 1, none⟩ u') := by
  subst hR hN
  have g2 : wr.grownBy ((wr.setCell ⟨w.heap.size, 0, none⟩ u).setCell ⟨w.heap.size, 1, none⟩ u') (some w.heap.size) := grown_then (grown_put _ _ _ _) (grown_put _ _ _ _)
  have o1 := hOL.far h.gr (fun q hq e => by injection e with e; have := (World.ownsRow.lt hOL q hq).1; omega)
  have o2 := hOT.far h.gr (fun q hq e => by injection e with e; have := (hOT.lt q hq).1; omega)
  have b1 := ha.grown h.gr ha.size (fun k e => by injection e with e; omega)
  refine ⟨rowL_ofO (o1.far g2 (fun q hq e => by injection e with e; have := (World.ownsRow.lt hOL q hq).1; omega)), rowT_ofO (o2.far g2 (fun q hq e => by injection e with e; have := (hOT.lt q hq).1; omega)), (h.lst.far g2 (fun q hq e => by injection e with e; have := (h.lst.lt q hq).1; omega)).more (by omega), (b1.setCell (Nat.le_refl _) _).setCell (Nat.le_refl _) _⟩
/-- A network, a state and an order that were drawn. -/
def NetStOrd (w : World) (x : Ending) (w' : World) : Prop := ∃ bs A c ls B d ts C r us, x = .returned (.tuple #[.agg #[.int .i64 bs, .slice A ls.length c], .slice B ts.length d, .slice C us.length r]) ∧
  RowL w' A ls.length ls ∧ ls.length ≤ 12 ∧ RowT w' B ts.length ts ∧ ts.length ≤ 13 ∧ OwnP w' w.heap.size (.slice C us.length r) us ∧ us.length ≤ 13 ∧ Below w.heap.size w w'
set_option maxRecDepth 100000 in
set_option maxHeartbeats 4000000 in
theorem drawOrderRun_any (A : Option Addr) (n c : Nat) (code : List Int) (w : World) (hr : RowB w A n code) (hnc : n ≤ c) (hc : c ≤ 9223372036854775807) :
    Calls Tryd.prog 28 #[.slice A n c] w (NetStOrd w) := by
  have b0 := below_bx w (.cells #[.int .i64 0, .slice none 0 0] 41)
  have K0 := Lib.hid (IsBlk.new w 41 #[.int .i64 0, .slice none 0 0])
  go_enter Tryd.func28, Tryd.ntmps28
  go_wp2_with fail
  refine (open_any A n c code _ (rowB_allocO hr _) hnc hc).mono ?_
  rintro x w1 ⟨rfl, hb1, hr1, hs1⟩
  have hz1 : w1.heap.size = w.heap.size + 2 := by rw [hs1, World.size_alloc]
  have K1 := Lib.hid (K0.out.keep hb1)
  have a1 := Lib.hid (b0.trans (hb1.mono b0.size))
  rw [World.size_alloc] at hr1
  have HZ1 := Lib.hid hz1
  clear hr hb1 b0 K0 hs1 hz1
  simp only [World.size_alloc]
  go_wp2_with fail
  refine (switched_any (w.heap.size + 1) 9 0 (by decide) (by decide) (by decide) _ (by rw [HZ1.out]; omega) hr1).mono ?_
  rintro x w2 ⟨bs, A2, c2, ls, v, ts, rfl, hOL, hll, hb0, hb9, hOT, htl, hr2, hg2⟩
  have a2 := Lib.hid (a1.out.grown hg2 a1.out.size (fun k e => by injection e with e; omega))
  have K2 := Lib.hid (K1.out.farG hg2 (fun e => by injection e with e; omega))
  have hz2 : w.heap.size + 2 ≤ w2.heap.size := by have := hg2.size; have := HZ1.out; omega
  have HOL := Lib.hid (show OwnL w2 (w.heap.size + 3) (.slice A2 ls.length c2) ls by have := HZ1.out; rw [this] at hOL; exact hOL)
  have HOT := Lib.hid (show OwnT w2 (w.heap.size + 3) v ts by have := HZ1.out; rw [this] at hOT; exact hOT)
  have R2 := Lib.hid hr2
  clear hr1 hg2 hOL hOT hr2 a1 K1
  obtain ⟨B, d, rfl, _, _⟩ := HOT.out.row
  have A3 := Lib.hid (a2.out.alloc a2.out.size (.cells #[.int .i64 bs, .slice A2 ls.length c2] 41))
  have K3 := Lib.hid (K2.out.alloc (.cells #[.int .i64 bs, .slice A2 ls.length c2] 41))
  have N3 := Lib.hid (IsBlk.new w2 41 #[.int .i64 bs, .slice A2 ls.length c2])
  have OL3 := Lib.hid (OwnL.keep HOL.out (below_bx w2 (.cells #[.int .i64 bs, .slice A2 ls.length c2] 41)))
  have OT3 := Lib.hid (OwnT.alloc HOT.out (.cells #[.int .i64 bs, .slice A2 ls.length c2] 41))
  have R3 := Lib.hid (Rd.alloc R2.out (.cells #[.int .i64 bs, .slice A2 ls.length c2] 41))
  have HZ3 := Lib.hid (show (w2.alloc (.cells #[.int .i64 bs, .slice A2 ls.length c2] 41)).heap.size = w2.heap.size + 1 from World.size_alloc _ _)
  clear K2 HOL HOT R2 a2
  go_wp2_with fail
  generalize w2.alloc (.cells #[.int .i64 bs, .slice A2 ls.length c2] 41) = w3 at *
  refine (order_any (w.heap.size + 1) 9 _ (by decide) (by decide) _ (by rw [HZ3.out]; omega) R3.out).mono ?_
  rintro x w4 ⟨v4, us, rfl, hO4, hul, _, hr4, hg4⟩
  obtain ⟨C, r, rfl, _⟩ := hO4.row
  have OT4 := Lib.hid (OT3.out.far hg4 (fun q hq e => by injection e with e; have := (OT3.out.lt q hq).1; omega))
  have hz4 := hg4.size
  go_wp2_with fail
  refine (l2Copy_any B ts.length d ts _ (by omega) (rowT_ofO OT4.out)).mono ?_
  rintro x w5 ⟨vx, rfl, hX5, hb5⟩
  obtain ⟨X, e5, rfl, _, _⟩ := hX5.row
  have S0 := Lib.hid (show RnSt w3 w5 (w.heap.size + 1) w4.heap.size _ (.slice C us.length r) us (.slice X ts.length e5) ts from
    ⟨hO4.keep hb5, fun q hq => (hO4.lt q hq).2, hX5, hr4.keep hb5, by rw [HZ3.out]; omega, hz4, grown_then hg4 ⟨hb5.os, hb5.tape, hb5.output, hb5.size, fun i hi _ => hb5.block i hi⟩⟩)
  clear hO4 hr4 hg4 hX5 hb5 OT4
  go_wp2
  go_loopw [10] (fun i wr => ∃ (k : Nat) (us' : List TP) (xs : List Bool), k ≤ us.length ∧ i = .int .i64 (k : Int) ∧ us'.length = us.length ∧ xs.length = ts.length ∧ RnSt w3 wr (w.heap.size + 1) w4.heap.size (0 + 200 + 50 + (k : Int)) (.slice C us.length r) us' (.slice X ts.length e5) xs) (fun i _ => us.length - (intOf i).toNat)
  case atStart => exact ⟨0, us, ts, by omega, rfl, rfl, rfl, S0.out.mono (by omega)⟩
  case round =>
    obtain ⟨k, us', xs, hk, rfl, hul2, hxl, hst⟩ := hrel
    have S := Lib.hid hst
    have UL := Lib.hid hul2
    have XL := Lib.hid hxl
    clear hst hul2 hxl S0
    by_cases hlt : k < us.length
    · by_cases hm : 0 < ts.length
      · have hm' : (0 : Int) < (ts.length : Int) := by omega
        have hk5 : k ≤ 13 := by omega
        go_wp2_with fail
        refine (pick_any (w.heap.size + 1) 4 _ (by omega) (by decide) _ S.out.rd).mono ?_
        rintro x w6 ⟨vp, rfl, hp0, hp1, _, hr6, hg6⟩
        have S6 := Lib.hid (S.out.pick hr6 hg6)
        clear hr6 hg6 hp1 S
        have S := S6
        clear S6
        by_cases hp : 0 < vp
        · obtain ⟨C', r', eC, hrow⟩ := S.out.lst.row
          have hrow2 : RowP w6 C us.length us' := by
            rw [← UL.out]; injection eC with e1 e2 e3; rw [e1]; exact hrow
          have RW := Lib.hid hrow2
          clear eC hrow hrow2
          go_wp2_with fail
          refine (specOrderValid_any C us.length r us' _ (by omega) RW.out).mono ?_
          rintro x ww ⟨rfl, rfl⟩
          cases ho : ordOk us'
          · go_wp2
            go_roundw
            case rel => exact ⟨k + 1, us', xs, by omega, by go_num, UL.out, XL.out, S.out.mono (by omega)⟩
            case measure => simp [intOf]; omega
          · obtain ⟨g, off, p, rfl, hb, hkp, g0, g1⟩ := RW.out.at_ hlt
            have hoff : off = 0 := by
              rcases S.out.lst.2 with ⟨h1, _⟩ | ⟨g', cap, cur, h1, _⟩
              · cases h1
              · injection h1 with h1; injection h1 with h1; injection h1 with _ h2
            subst hoff
            obtain ⟨hx0, hx9⟩ := ordOk_get ho hkp
            obtain ⟨x, t⟩ := p
            simp only [Nat.zero_add] at g0 g1 hx0 hx9
            obtain ⟨y, rfl⟩ := Int.eq_ofNat_of_zero_le hx0
            have hrem : ((y : Nat) : Int).tmod (ts.length : Int) = ((y % ts.length : Nat) : Int) := by rw [Int.tmod_eq_emod_of_nonneg (by omega)]; rfl
            have hjm : y % ts.length < ts.length := Nat.mod_lt _ hm
            have hy9 : y % ts.length ≤ 9 := by have := Nat.mod_le y ts.length; omega
            generalize y % ts.length = j at *
            have hjx : j < xs.length := by rw [XL.out]; exact hjm
            have hmz : ((ts.length : Int) == 0) = false := by rw [beq_eq_false_iff_ne]; omega
            obtain ⟨g', cap', eg, _, _, f0, _, hO7⟩ := S.out.lst.put (k := k) (j := 0) (u := ((y : Int), t)) (u' := ((j : Int), t)) (x := .int .i64 (j : Int)) hkp (by decide) rfl
            injection eg with eg1 eg2 eg3; clear eg2 eg3; injection eg1 with eg1; injection eg1 with eg1 _
            subst eg1
            have S7 := Lib.hid (S.out.putL rfl hO7)
            simp only [Nat.add_zero] at f0 S7
            clear hO7 ho hkp
            go_upto_region 10 with fail
            generalize w6.setCell ⟨g, k * 2, none⟩ (.int .i64 (j : Int)) = W7 at *
            have hk7 : (us'.set k ((j : Int), t))[k]? = some ((j : Int), t) := List.getElem?_set_self (by rw [UL.out]; exact hlt)
            obtain ⟨n0, n1⟩ := own_cells S7.out.lst hk7
            obtain ⟨gx, cx, ex, hgx, _, nx, fx, hput⟩ := OwnT.at_ S7.out.cpy hjx
            injection ex with ex1 ex2 ex3
            clear ex2 ex3
            subst ex1
            obtain ⟨g', cap', eg, _, _, f1, _, hO8⟩ := S7.out.lst.put (k := k) (j := 1) (u := ((j : Int), t)) (u' := ((j : Int), !xs.getD j false)) (x := .bool (!xs.getD j false)) hk7 (by decide) rfl
            injection eg with eg1 eg2 eg3; clear eg2 eg3; injection eg1 with eg1; injection eg1 with eg1 _
            subst eg1
            have S8 := Lib.hid (S7.out.putL rfl hO8)
            rw [List.set_set] at S8
            clear hO8 hk7 g0 g1 f0 hput S7 S
            generalize xs.getD j false = b at *
            go_upto_region 11 with fail
            generalize W7.setCell ⟨g, k * 2 + 1, none⟩ (.bool (!b)) = W8 at *
            have hk8 : (us'.set k ((j : Int), !b))[k]? = some ((j : Int), !b) := List.getElem?_set_self (by rw [UL.out]; exact hlt)
            clear n0 n1 nx fx f1
            obtain ⟨n0, n1⟩ := own_cells S8.out.lst hk8
            obtain ⟨gx', cx', ex, hgx', _, nx, fx, hput⟩ := OwnT.at_ S8.out.cpy hjx
            injection ex with ex1 ex2 ex3; clear ex2 ex3; injection ex1 with ex1; injection ex1 with ex1 _
            subst ex1
            have HPut := Lib.hid (hput (!b))
            have D8 := Lib.hid S8.out.drew
            clear hput hk8
            generalize xs.getD j false = b' at nx
            have hj0 : (0 : Int) ≤ (j : Int) := by omega
            have hjm' : (j : Int) < (ts.length : Int) := by omega
            go_region
            all_goals go_wp2
            all_goals
              go_roundw
              case rel => exact ⟨k + 1, us'.set k ((j : Int), !b), xs.set j (!b), by omega, by go_num, by rw [List.length_set]; exact UL.out, by rw [List.length_set]; exact XL.out, (S8.out.putX hgx HPut.out).drew.mono (by omega)⟩
              case measure => simp [intOf]; omega
        · have hp' : ¬ (0 : Int) < vp := hp
          skip
          obtain ⟨q0, q1, q2, q3⟩ := (show IsBlk w6 w.heap.size 41 #[.int .i64 0, .slice none 0 0] from (S.out.gr.block _ K3.out.lt (fun e => by injection e with e; omega)).trans K3.out).two
          obtain ⟨s0, s1, _, _⟩ := (show IsBlk w6 w2.heap.size 41 #[.int .i64 bs, .slice A2 ls.length c2] from (S.out.gr.block _ N3.out.lt (fun e => by injection e with e; omega)).trans N3.out).two
          have hn02 : ¬ w.heap.size = w2.heap.size := by omega
          have hn20 : ¬ w2.heap.size = w.heap.size := by omega
          go_wp2
          obtain ⟨f1, f2, f3, f4⟩ := RnSt.fin (w := w) S.out UL.out A3.out rfl OL3.out OT3.out (by rw [HZ3.out]; omega) (.int .i64 bs) (.slice A2 ls.length c2)
          rw [UL.out] at f3
          refine bodyPost_ret (v := .tuple #[.agg #[.int .i64 bs, .slice A2 ls.length c2], .slice B ts.length d, .slice C us.length r]) (by simp [results, Tryd.results28, go_sem, q0, q1]) rfl ⟨bs, A2, c2, ls, B, d, ts, C, r, us', by rw [UL.out], f1, hll, f2, htl, by rw [UL.out]; exact f3, by rw [UL.out]; exact hul, f4⟩
      · have hm' : ¬ (0 : Int) < (ts.length : Int) := by omega
        obtain ⟨q0, q1, q2, q3⟩ := (show IsBlk wr w.heap.size 41 #[.int .i64 0, .slice none 0 0] from (S.out.gr.block _ K3.out.lt (fun e => by injection e with e; omega)).trans K3.out).two
        obtain ⟨s0, s1, _, _⟩ := (show IsBlk wr w2.heap.size 41 #[.int .i64 bs, .slice A2 ls.length c2] from (S.out.gr.block _ N3.out.lt (fun e => by injection e with e; omega)).trans N3.out).two
        have hn02 : ¬ w.heap.size = w2.heap.size := by omega
        have hn20 : ¬ w2.heap.size = w.heap.size := by omega
        go_wp2
        obtain ⟨f1, f2, f3, f4⟩ := RnSt.fin (w := w) S.out UL.out A3.out rfl OL3.out OT3.out (by rw [HZ3.out]; omega) (.int .i64 bs) (.slice A2 ls.length c2)
        rw [UL.out] at f3
        refine bodyPost_ret (v := .tuple #[.agg #[.int .i64 bs, .slice A2 ls.length c2], .slice B ts.length d, .slice C us.length r]) (by simp [results, Tryd.results28, go_sem, q0, q1]) rfl ⟨bs, A2, c2, ls, B, d, ts, C, r, us', by rw [UL.out], f1, hll, f2, htl, by rw [UL.out]; exact f3, by rw [UL.out]; exact hul, f4⟩
    · obtain rfl : k = us.length := by omega
      obtain ⟨q0, q1, q2, q3⟩ := (show IsBlk wr w.heap.size 41 #[.int .i64 0, .slice none 0 0] from (S.out.gr.block _ K3.out.lt (fun e => by injection e with e; omega)).trans K3.out).two
      obtain ⟨s0, s1, _, _⟩ := (show IsBlk wr w2.heap.size 41 #[.int .i64 bs, .slice A2 ls.length c2] from (S.out.gr.block _ N3.out.lt (fun e => by injection e with e; omega)).trans N3.out).two
      have hn02 : ¬ w.heap.size = w2.heap.size := by omega
      have hn20 : ¬ w2.heap.size = w.heap.size := by omega
      go_wp2
      obtain ⟨f1, f2, f3, f4⟩ := RnSt.fin (w := w) S.out UL.out A3.out rfl OL3.out OT3.out (by rw [HZ3.out]; omega) (.int .i64 bs) (.slice A2 ls.length c2)
      rw [UL.out] at f3
      refine bodyPost_ret (v := .tuple #[.agg #[.int .i64 bs, .slice A2 ls.length c2], .slice B ts.length d, .slice C us.length r]) (by simp [results, Tryd.results28, go_sem, q0, q1]) rfl ⟨bs, A2, c2, ls, B, d, ts, C, r, us', by rw [UL.out], f1, hll, f2, htl, by rw [UL.out]; exact f3, by rw [UL.out]; exact hul, f4⟩
end Go.Proofs.YtfedffekbemcoaaDoor
