/- The drawing of a state with a list of lines; FnChangeAll: the walk. -/
import Derived.Test.YtcgbigbbonlgfaaDoorD3
import Derived.Test.YtcgbigbbonlgfaaDoorG2
import Derived.Test.YtcgbigbbonlgfaaDoorG3
import Derived.Test.YtcgbigbbonlgfaaDoorB7
import Derived.Test.YtcgbigbbonlgfaaDoorM2
namespace Go.Proofs.YtcgbigbbonlgfaaDoor
open Go.ChangeShapes Go.WideShapes Go.ChangeAt Go.RowKit

theorem row_farI {w w' : World} {base : Nat} {v : Value} {zs : List Int} {R : Nat} (h : OwnI 3 w base v zs) (hg : w.grownBy w' (some R)) (hR : R < base) : OwnI 3 w' base v zs := row_far h hg hR
theorem OwnI.put_ {w : World} {base : Nat} {v : Value} {zs : List Int} {k : Nat} (h : OwnI 3 w base v zs) (hk : k < zs.length) :
    ∃ g cap, v = .slice (some ⟨g, 0, none⟩) zs.length cap ∧ base ≤ g ∧ g < w.heap.size ∧ w.cell? ⟨g, k, none⟩ = some (.int .i64 (zs.getD k 0)) ∧ w.frozen? ⟨g, k, none⟩ = false ∧ ∀ z, OwnI 3 (w.setCell ⟨g, k, none⟩ (.int .i64 z)) base v (zs.set k z) := by
  rcases h.2 with ⟨h1, h2⟩ | ⟨g, cap, cur, h1, h2, h3, h4, h5, h6, h7⟩
  · omega
  · have hb : IsBlk w g 3 cur := h3
    rw [Nat.mul_one] at h6 h7
    refine ⟨g, cap, h1, h2, hb.lt, ?_, hb.thaw k, fun z => ?_⟩
    · rw [hb.cell k, ← Array.getElem?_toList]
      have h8 : (cur.toList.take zs.length)[k]? = some (.int .i64 (zs.getD k 0)) := by
        rw [h7, List.getElem?_map, List.getD_eq_getElem?_getD, List.getElem?_eq_getElem hk]; rfl
      rwa [List.getElem?_take_of_lt hk] at h8
    · rw [h1]
      refine OwnI.mk_ (cur := cur.setIfInBounds k (.int .i64 z)) (by simp) h2 (hb.put k _) h4 h5 (by simpa using h6) ?_
      rw [Array.toList_setIfInBounds, List.take_set, h7, List.map_set]

/-- While a list is drawn beside a state: the reader, the state, the list. -/
structure ListSt (w wx : World) (Z : Nat) (lim : Int) (v : Value) (ts : List Bool) (vl : Value) (zs : List Int) : Prop where
  hZ : w.heap.size < Z
  zlt : Z ≤ wx.heap.size
  rd : Rd wx w.heap.size lim
  on : OwnT wx (w.heap.size + 1) v ts
  low : ∀ q, tblk v ts = some q → q < Z
  list : OwnI 3 wx Z vl zs
  bel : Below w.heap.size w wx
section
variable {w wx w' : World} {Z : Nat} {lim lim' : Int} {v : Value} {ts : List Bool} {vl vl' : Value} {zs zs' : List Int}
theorem ListSt.pick (h : ListSt w wx Z lim v ts vl zs) (hr : Rd w' w.heap.size lim') (hg : wx.grownBy w' (some w.heap.size)) : ListSt w w' Z lim' v ts vl zs :=
  ⟨h.hZ, Nat.le_trans h.zlt hg.size, hr, h.on.pick hg (by omega), h.low, row_farI h.list hg h.hZ, h.bel.grown hg h.bel.size (fun q hq => by injection hq with hq; omega)⟩
theorem ListSt.push (h : ListSt w wx Z lim v ts vl zs) (o : Obj) (hown : w'.ownsRow Z 3 1 vl' zs'.length (zs'.map (Value.int .i64))) (hg : (wx.alloc o).grownBy w' vl.ownBlock) : ListSt w w' Z lim v ts vl' zs' := by
  have hZ := h.hZ
  have hl := OwnI.lt h.list
  refine ⟨h.hZ, Nat.le_trans h.zlt (by have := hg.size; simp at this; omega), (h.rd.alloc o).grown hg (fun q hq => by have := (hl q hq).1; omega), (h.on.alloc o).far hg (fun q hq e => by have := h.low q hq; have := (hl q e).1; omega), h.low, hown, (h.bel.alloc h.bel.size o).grown hg (by have := h.bel.size; simp; omega) (fun q hq => by have := (hl q hq).1; omega)⟩
theorem ListSt.store (h : ListSt w wx Z lim v ts vl zs) {g k : Nat} (hg : Z ≤ g) (u : Value) (hown : OwnI 3 (wx.setCell ⟨g, k, none⟩ u) Z vl zs') : ListSt w (wx.setCell ⟨g, k, none⟩ u) Z lim v ts vl zs' := by
  have hZ := h.hZ
  have hgp : wx.grownBy (wx.setCell ⟨g, k, none⟩ u) (some g) := grown_put _ _ _ _
  exact ⟨h.hZ, Nat.le_trans h.zlt hgp.size, h.rd.far (by omega) hgp, h.on.far hgp (fun q hq e => by injection e with e; have := h.low q hq; omega), h.low, hown, h.bel.grown hgp h.bel.size (fun q hq => by injection hq with hq; omega)⟩
end

def ListEnd (w : World) (e : Ending) (w' : World) : Prop := ∃ Z v ts vl zs, e = .returned (.tuple #[v, vl]) ∧ ListSt w w' Z 1000 v ts vl zs ∧ ts.length ≤ 13 ∧ zs.length ≤ 6

set_option maxRecDepth 100000 in
set_option maxHeartbeats 1000000 in
theorem drawChangeAll_any (A : Option Addr) (n c : Nat) (code : List Int) (w : World) (hr : RowB w A n code) (hnc : n ≤ c) (hc : c ≤ 9223372036854775807) :
    Calls Tryd.prog 30 #[.slice A n c] w (ListEnd w) := by
  obtain ⟨i0, hi, hz0, hz1, hz2⟩ := info_parts intInfo6
  have HI0 := Lib.hid hi
  clear hi
  go_enter Tryd.func30, Tryd.ntmps30
  go_wp2_with fail
  refine (open_any A n c code _ hr hnc hc).mono ?_
  rintro e w1 ⟨rfl, hb1, hr1, hs1⟩
  have HS := Lib.hid hs1
  clear hs1
  go_wp2_with fail
  refine (net_any w.heap.size 0 0 (by decide) (by decide) _ (by rw [HS.out]; omega) hr1).mono ?_
  rintro e w2 ⟨bs, v, ls, rfl, ho, hl, hb0, hb9, hr2, hg2⟩
  obtain ⟨A', c', rfl, _⟩ := ho.row
  have a2 := hb1.grown hg2 hb1.size (fun q hq => by injection hq with hq; omega)
  have hlt2 : w.heap.size < w2.heap.size := by have := hg2.size; have := HS.out; omega
  clear ho
  generalize ls.length = m at *
  go_wp2_with fail
  refine (state_any w.heap.size bs A' m c' 0 _ (by decide) (by decide) _ hlt2 hr2 hl).mono ?_
  rintro e w3 ⟨v3, ts, rfl, hO, hts, hr3, hg3⟩
  obtain ⟨As, cs, rfl, _, _⟩ := hO.row
  have a3 := a2.grown hg3 a2.size (fun q hq => by injection hq with hq; omega)
  have hlt3 : w.heap.size < w3.heap.size := Nat.lt_of_lt_of_le hlt2 hg3.size
  have hown0 := World.ownsRow_lit (base := w3.heap.size) (size := 1) (e := 3) w3 #[] 0 (by omega) (by decide) rfl
  have S3 := Lib.hid (show ListSt w (w3.alloc (.cells #[] 3)) w3.heap.size (0 + 100 + 20) (.slice As ts.length cs) ts (.slice (some ⟨w3.heap.size, 0, none⟩) 0 0) [] from
    ⟨hlt3, by simp, hr3.alloc _, (hO.more (by omega)).alloc _, fun q hq => (hO.lt q hq).2, by simpa [OwnI] using hown0, a3.alloc a3.size _⟩)
  clear hO hr3 hg3 hown0 a3 a2 hg2 hr2 hb1 hr1 hr
  go_wp2_with fail
  refine (pick_any w.heap.size 6 _ (by decide) (by decide) _ S3.out.rd).mono ?_
  rintro e w4 ⟨vk, rfl, hk0, hk1, _, hr4, hg4⟩
  have S4 := Lib.hid (S3.out.pick hr4 hg4)
  obtain ⟨k0, rfl⟩ := Int.eq_ofNat_of_zero_le hk0
  have hk6 : k0 < 6 := by have := hk1 (by decide); omega
  clear hr4 hg4 hk0 hk1 S3
  generalize w3.heap.size = Z at *
  have hb1' : (1 : Int) ≤ (ts.length : Int) + 1 := by omega
  have hb2' : (ts.length : Int) + 1 ≤ 1000000 := by omega
  go_upto_block 0 with fail
  go_cut [6, 7] (fun s6 s7 wx => ∃ zs, ListSt w wx Z 200 (.slice As ts.length cs) ts s6 zs ∧ zs.length ≤ 6)
  case first =>
    go_wp2_with fail
    go_loopg [6, 7] k0 (fun g s6 s7 wx => s7 = .int .i64 (g : Int) ∧ g ≤ 6 ∧ ∃ zs, ListSt w wx Z (121 + 2 * (6 - (g : Int))) (.slice As ts.length cs) ts s6 zs ∧ zs.length + g ≤ 6)
    case atStart => exact ⟨rfl, by omega, [], ⟨S4.out.hZ, S4.out.zlt, S4.out.rd.mono (by omega), S4.out.on, S4.out.low, S4.out.list, S4.out.bel⟩, by simp; omega⟩
    case round =>
      obtain ⟨rfl, hg6, zs, hS, hlen⟩ := hrel
      have S5 := Lib.hid hS
      have HL := Lib.hid hlen
      clear hS hlen
      by_cases hgo : 0 < gk
      · have h3 : (0 : Int) < (gk : Int) := by omega
        go_wp2_with fail
        refine (pick_any w.heap.size _ _ (by omega) hb2' _ S5.out.rd).mono ?_
        rintro e w5 ⟨va, rfl, ha0, ha1, _, hr5, hg5⟩
        have S6 := Lib.hid (S5.out.pick hr5 hg5)
        clear hr5 hg5
        go_wp2_with fail
        refine (pick_any w.heap.size 12 _ (by omega) (by decide) _ S6.out.rd).mono ?_
        rintro e w6 ⟨vb, rfl, hb0', hb1'', _, hr6, hg6'⟩
        have S7 := Lib.hid (S6.out.pick hr6 hg6')
        clear hr6 hg6'
        have hva : va < (ts.length : Int) + 1 := ha1 hb1'
        have hvb : vb < 12 := hb1'' (by decide)
        have hHL := HL.out
        have hZ7 := S7.out.zlt
        go_wp2_with (
          at_builtin
          refine wpList_append_own _ rfl _ _ _ rfl Z 3 i0 (.int .i64 0) 1 8 Tryd.underlying43 HI0.out hz0 hz1 hz2 rfl (by decide) _ _ _ rfl (World.ownsRow.alloc S7.out.list _) ⟨w6.heap.size, 0, none⟩ 1 1 [.int .i64 (va - vb / 11)] rfl rfl ?c1 ?c2 ?c3 ?c4 ?c5 ?_
          case c1 => exact cell_one_new _ _ _
          case c2 => intro u hu; simp at hu; subst hu; rfl
          case c3 => simp only [maxLen]; omega
          case c4 => omega
          case c5 => simp; omega
          intro v' w7 hown' hgrow _
          have S8 := Lib.hid (S7.out.push (zs' := zs ++ [va - vb / 11]) _ (by rw [List.map_append, List.length_append]; exact hown') hgrow))
        go_roundg (gk - 1)
        case measure => omega
        case rel =>
          have := S8.out
          exact ⟨by first | rfl | go_num | (congr 1; omega), by omega, _, ⟨this.hZ, this.zlt, this.rd.mono (by omega), this.on, this.low, this.list, this.bel⟩, by rw [List.length_append]; simp; omega⟩
      · obtain rfl : gk = 0 := by omega
        go_wp2_with fail
        go_meet
        have := S5.out
        exact ⟨zs, ⟨this.hZ, this.zlt, this.rd.mono (by omega), this.on, this.low, this.list, this.bel⟩, by have := HL.out; omega⟩
  case rest =>
    obtain ⟨zs, hS, hlen⟩ := hcut
    have S9 := Lib.hid hS
    obtain ⟨Al, cl, rfl, _⟩ := hS.list.form
    clear hS S4 hb1' hb2' hk6 HI0 hlt2 hlt3
    have HLN := Lib.hid hlen
    by_cases hz : ts.length = 0
    · have hz0 : ¬ (0 : Int) < (ts.length : Int) := by omega
      clear hz
      go_wp2_with fail
      go_ret2
      have := S9.out
      exact ⟨Z, _, ts, _, zs, rfl, ⟨this.hZ, this.zlt, this.rd.mono (by omega), this.on, this.low, this.list, this.bel⟩, hts, HLN.out⟩
    have hz0 : (0 : Int) < (ts.length : Int) := by omega
    go_wp2_with fail
    refine (pick_any w.heap.size 2 _ (by decide) (by decide) _ S9.out.rd).mono ?_
    rintro e w5 ⟨v5, rfl, _, _, _, hr5, hg5⟩
    have S5 := Lib.hid (S9.out.pick hr5 hg5)
    clear hr5 hg5 S9
    by_cases hv : v5 = 0
    · subst hv
      have HLE := Lib.hid (show ∃ nl, zs.length = nl from ⟨_, rfl⟩)
      generalize hnl : zs.length = nl at *
      have HNL := Lib.hid hnl
      have hne : ((ts.length : Int) == 0) = false := by rw [beq_eq_false_iff_ne]; omega
      have hle13 : (ts.length : Int) ≤ 13 := by omega
      have hnl6 : nl ≤ 6 := hlen
      clear hnl HLE hz
      go_wp2_with fail
      go_loopw [8] (fun i wx => ∃ (k : Nat) (ys : List Int), k ≤ nl ∧ i = .int .i64 k ∧ ys.length = nl ∧ ListSt w wx Z 300 (.slice As ts.length cs) ts (.slice Al nl cl) ys) (fun i _ => nl - (intOf i).toNat)
      case atStart =>
        have := S5.out
        exact ⟨0, zs, by omega, rfl, HNL.out, ⟨this.hZ, this.zlt, this.rd.mono (by omega), this.on, this.low, this.list, this.bel⟩⟩
      case round =>
        obtain ⟨k, ys, hk, rfl, hyl, hS⟩ := hrel
        have S6 := Lib.hid hS
        by_cases hlt : k < nl
        · obtain ⟨g, cap, hv, hgZ, hgs, c0, f0, hP⟩ := OwnI.put_ hS.list (show k < ys.length by omega)
          injection hv with hv1 hv2 hv3
          subst hv1 hv3
          have HP := Lib.hid hP
          have HYL := Lib.hid hyl
          generalize ys.getD k 0 = z at *
          clear hP hS hyl hv2
          go_wp2
          go_roundw
          case rel => exact ⟨k + 1, ys.set k _, by omega, by go_num, by rw [List.length_set]; exact HYL.out, S6.out.store hgZ _ (HP.out _)⟩
          case measure => simp [intOf]; omega
        · have HYL := Lib.hid hyl
          clear hS hyl
          go_wp2_with fail
          go_ret2
          have := S6.out
          exact ⟨Z, _, ts, _, ys, rfl, ⟨this.hZ, this.zlt, this.rd.mono (by omega), this.on, this.low, this.list, this.bel⟩, hts, by rw [HYL.out]; exact hnl6⟩
    · have hv0 : (v5 == 0) = false := by simpa using hv
      clear hv hz
      go_wp2_with fail
      go_ret2
      have := S5.out
      exact ⟨Z, _, ts, _, zs, rfl, ⟨this.hZ, this.zlt, this.rd.mono (by omega), this.on, this.low, this.list, this.bel⟩, hts, HLN.out⟩
end Go.Proofs.YtcgbigbbonlgfaaDoor
