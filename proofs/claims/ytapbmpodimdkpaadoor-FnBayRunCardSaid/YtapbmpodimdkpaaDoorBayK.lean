/- Bays: the drawing of a bay and deeds, many of which may be done. -/
import Derived.Test.YtapbmpodimdkpaaDoorBayJ
import Derived.Deep.LoopGhost
namespace Go.Proofs.YtapbmpodimdkpaaDoor
open Go.ChangeShapes Go.WideShapes Go.ChangeAt Go.RowKit

/-- The next deed, one round further. -/
def nextF (z : Int) : Int := (z + 1) % 8
def deedsF : Nat → B4 → Int → Bool
  | 0, b, z => mayF b z
  | n + 1, b, z => mayF b z || deedsF n b (nextF z)
set_option maxRecDepth 100000 in
theorem deeds_all : ∀ a b c e : Bool, ∀ k : Nat, k < 10 → deedsF 8 (a, b, c, e) ((k : Int) - 1) = true := by decide +kernel
theorem deeds_start (a b c e : Bool) {z : Int} (h0 : -1 ≤ z) (h1 : z ≤ 8) : deedsF 8 (a, b, c, e) z = true := by
  have := deeds_all a b c e (z + 1).toNat (by omega)
  rwa [show (((z + 1).toNat : Nat) : Int) - 1 = z by omega] at this
theorem next_in {z : Int} (_h0 : -1 ≤ z) (_h1 : z ≤ 8) : -1 ≤ nextF z ∧ nextF z ≤ 8 := by
  have := Int.emod_nonneg (z + 1) (show (8 : Int) ≠ 0 by decide)
  have := Int.emod_lt_of_pos (z + 1) (show (0 : Int) < 8 by decide)
  rw [nextF]; omega

theorem OwnI.blkT {w : World} {base g : Nat} {v : Value} {zs : List Int} (h : OwnI 3 w base v zs) (hg : v.ownBlock = some g) : ∃ cur, IsBlk w g 3 cur := by
  rcases h.2 with ⟨rfl, h0⟩ | ⟨g', cap, cur, rfl, h2, h3, _⟩
  · simp [Value.ownBlock] at hg
  · have e : g' = g := by simpa [Value.ownBlock] using hg
    subst e
    exact ⟨cur, h3⟩
theorem blk_apart {w : World} {g q : Nat} {cs ds : Array Value} (h : IsBlk w g 3 cs) (k : IsBlk w q 24 ds) : g ≠ q := fun e => by
  subst e
  have := h.symm.trans k
  simp at this
/-- Deeds that are changed, beside a bay that was drawn and one that moves. -/
structure RunSt (w wr : World) (B X : Nat) (b x : B4) (lim : Int) (v : Value) (ds : List Int) : Prop where
  own : OwnI 3 wr (w.heap.size + 2) v ds
  rd : Rd wr (w.heap.size + 1) lim
  bel : Below w.heap.size w wr
  ret : IsBlk wr w.heap.size 24 #[.bool false, .bool false, .bool false, .bool false]
  bb : IsBlk wr B 24 #[.bool b.1, .bool b.2.1, .bool b.2.2.1, .bool b.2.2.2]
  bx : IsBlk wr X 24 #[.bool x.1, .bool x.2.1, .bool x.2.2.1, .bool x.2.2.2]
  hB : w.heap.size + 2 ≤ B
  hX : w.heap.size + 2 ≤ X
  ne : B ≠ X
section
variable {w wr w' : World} {B X : Nat} {b x : B4} {lim lim' : Int} {v : Value} {ds : List Int}
theorem RunSt.next (h : RunSt w wr B X b x lim v ds) (hb : Below wr.heap.size wr w') : RunSt w w' B X b x lim v ds :=
  ⟨OwnI.keep h.own hb, h.rd.keep hb, h.bel.trans (hb.mono h.bel.size), h.ret.keep hb, h.bb.keep hb, h.bx.keep hb, h.hB, h.hX, h.ne⟩
theorem RunSt.pick (h : RunSt w wr B X b x lim v ds) (hr : Rd w' (w.heap.size + 1) lim') (hg : wr.grownBy w' (some (w.heap.size + 1))) : RunSt w w' B X b x lim' v ds :=
  ⟨OwnI.far h.own hg (fun q hq e => by injection e with e; have := (OwnI.lt h.own q hq).1; omega), hr, h.bel.grown hg h.bel.size (fun k e => by injection e with e; omega),
    h.ret.farG hg (fun e => by injection e with e; omega), h.bb.farG hg (fun e => by injection e with e; have := h.hB; omega), h.bx.farG hg (fun e => by injection e with e; have := h.hX; omega), h.hB, h.hX, h.ne⟩
theorem RunSt.move (h : RunSt w wr B X b x lim v ds) (y : B4) : RunSt w ((((wr.setCell ⟨X, 0, none⟩ (.bool y.1)).setCell ⟨X, 1, none⟩ (.bool y.2.1)).setCell ⟨X, 2, none⟩ (.bool y.2.2.1)).setCell ⟨X, 3, none⟩ (.bool y.2.2.2)) B X b y lim v ds := by
  have hX := h.hX
  have hg : wr.grownBy ((((wr.setCell ⟨X, 0, none⟩ (.bool y.1)).setCell ⟨X, 1, none⟩ (.bool y.2.1)).setCell ⟨X, 2, none⟩ (.bool y.2.2.1)).setCell ⟨X, 3, none⟩ (.bool y.2.2.2)) (some X) :=
    grown_then (grown_then (grown_then (grown_put _ _ _ _) (grown_put _ _ _ _)) (grown_put _ _ _ _)) (grown_put _ _ _ _)
  refine ⟨OwnI.far h.own hg (fun q hq e => ?_), h.rd.far4 (by omega) _ _ _ _, below_four h.bel (by omega) _ _ _ _, h.ret.farG hg (fun e => by injection e with e; omega), h.bb.farG hg (fun e => by injection e with e; exact h.ne e.symm), h.bx.put4 _ _ _ _, h.hB, h.hX, h.ne⟩
  injection e with e
  obtain ⟨cur, hc⟩ := OwnI.blkT h.own hq
  exact blk_apart hc h.bx e.symm
theorem RunSt.put {g n cap k : Nat} {z : Int} (h : RunSt w wr B X b x lim (.slice (some ⟨g, 0, none⟩) n cap) ds) (hz : ds[k]? = some z) (u : Int) : RunSt w (wr.setCell ⟨g, k, none⟩ (.int .i64 u)) B X b x lim (.slice (some ⟨g, 0, none⟩) n cap) (ds.set k u) := by
  obtain ⟨cur, hc⟩ := OwnI.blkT h.own (g := g) (by simp [Value.ownBlock])
  have hg := (OwnI.lt h.own g (by simp [Value.ownBlock])).1
  exact ⟨(h.own.in9 hz).2.2 u, h.rd.far (by omega) (grown_put _ _ _ _), h.bel.setCell (show w.heap.size ≤ g by omega) _, h.ret.far (p := ⟨g, k, none⟩) (show w.heap.size ≠ g by omega) _,
    h.bb.far (p := ⟨g, k, none⟩) (fun e => blk_apart hc h.bb e.symm) _, h.bx.far (p := ⟨g, k, none⟩) (fun e => blk_apart hc h.bx e.symm) _, h.hB, h.hX, h.ne⟩
theorem RunSt.mono (h : RunSt w wr B X b x lim v ds) (hl : lim ≤ lim') : RunSt w wr B X b x lim' v ds := ⟨h.own, h.rd.mono hl, h.bel, h.ret, h.bb, h.bx, h.hB, h.hX, h.ne⟩
theorem RunSt.done (h : RunSt w wr B X b x lim v ds) (a b' c e : Value) : OwnI 3 ((((wr.setCell ⟨w.heap.size, 0, none⟩ a).setCell ⟨w.heap.size, 1, none⟩ b').setCell ⟨w.heap.size, 2, none⟩ c).setCell ⟨w.heap.size, 3, none⟩ e) w.heap.size v ds ∧ Below w.heap.size w ((((wr.setCell ⟨w.heap.size, 0, none⟩ a).setCell ⟨w.heap.size, 1, none⟩ b').setCell ⟨w.heap.size, 2, none⟩ c).setCell ⟨w.heap.size, 3, none⟩ e) := by
  have hg : wr.grownBy ((((wr.setCell ⟨w.heap.size, 0, none⟩ a).setCell ⟨w.heap.size, 1, none⟩ b').setCell ⟨w.heap.size, 2, none⟩ c).setCell ⟨w.heap.size, 3, none⟩ e) (some w.heap.size) :=
    grown_then (grown_then (grown_then (grown_put _ _ _ _) (grown_put _ _ _ _)) (grown_put _ _ _ _)) (grown_put _ _ _ _)
  exact ⟨OwnI.more_ (OwnI.far h.own hg (fun q hq e => by injection e with e; have := (OwnI.lt h.own q hq).1; omega)) (by omega), below_four h.bel (Nat.le_refl _) _ _ _ _⟩
end
theorem OwnI.sl9' {e : TypeId} {w : World} {base : Nat} {v : Value} {zs : List Int} (h : OwnI e w base v zs) : ∃ A c, v = .slice A zs.length c := by
  rcases h.2 with ⟨h1, h2⟩ | ⟨g, cap, cur, h1, _⟩
  · exact ⟨_, _, by rw [h1, h2]⟩
  · exact ⟨_, _, h1⟩
theorem range_set {ds : List Int} {k : Nat} {u : Int} (h : ∀ z ∈ ds, -1 ≤ z ∧ z ≤ 8) (hu : -1 ≤ u ∧ u ≤ 8) : ∀ z ∈ ds.set k u, -1 ≤ z ∧ z ≤ 8 := fun z hz => by
  rcases List.mem_or_eq_of_mem_set hz with h1 | h1
  · exact h z h1
  · subst h1; exact hu
def DrawnRun (w : World) (x : Ending) (w' : World) : Prop :=
  ∃ (b : B4) (v : Value) (ds : List Int), x = .returned (.tuple #[vB b, v]) ∧ OwnI 3 w' w.heap.size v ds ∧ ds.length ≤ 8 ∧ Below w.heap.size w w'

set_option maxRecDepth 100000 in
set_option maxHeartbeats 8000000 in
theorem drawBayRun_any (A : Option Addr) (n c : Nat) (code : List Int) (w : World) (hr : RowB w A n code) (hnc : n ≤ c) (hc : c ≤ 9223372036854775807) :
    Calls Tryd.prog 22 #[.slice A n c] w (DrawnRun w) := by
  have K0 := Lib.hid (IsBlk.new w 24 #[.bool false, .bool false, .bool false, .bool false])
  have a0 := below_bx w (.cells #[.bool false, .bool false, .bool false, .bool false] 24)
  go_enter Tryd.func22, Tryd.ntmps22
  go_wp2_with fail
  refine (open_any A n c code _ (hr.alloc9 _) hnc hc).mono ?_
  rintro x w1 ⟨rfl, hb1, hr1, hs1⟩
  have K1 := Lib.hid (K0.out.keep hb1)
  have a1 := Lib.hid (a0.trans (hb1.mono a0.size))
  simp only [World.size_alloc] at hr1 hs1
  clear hr hb1 a0 K0
  go_wp2_with fail
  refine (l20Bay_any (w.heap.size + 1) 0 (by decide) _ hr1).mono ?_
  rintro x w2 ⟨b, rfl, hr2, hg2⟩
  obtain ⟨b0, b1, b2, b3⟩ := b
  have hs2 : w.heap.size + 2 ≤ w2.heap.size := by have := hg2.size; omega
  have K2 := Lib.hid ((K1.out.farG hg2 (fun e => by injection e with e; omega)).alloc (.cells #[.bool b0, .bool b1, .bool b2, .bool b3] 24))
  have a2 := Lib.hid ((a1.out.grown hg2 a1.out.size (fun k e => by injection e with e; omega)).alloc (by omega) (.cells #[.bool b0, .bool b1, .bool b2, .bool b3] 24))
  have B2 := Lib.hid (IsBlk.new w2 24 #[.bool b0, .bool b1, .bool b2, .bool b3])
  have hr2' := hr2.alloc (.cells #[.bool b0, .bool b1, .bool b2, .bool b3] 24)
  clear hr1 hr2 hg2 K1 a1 hs1
  dsimp only [vB]
  go_wp2_with fail
  refine (l20Deeds_any (w.heap.size + 1) _ (by decide) _ hr2').mono ?_
  rintro x w3 ⟨v, ds, rfl, hl8, hin, hst⟩
  have hs3 : w2.heap.size + 1 ≤ w3.heap.size := by have := hst.gr.size; simpa using this
  have HIN := Lib.hid hin
  have K3 := Lib.hid (K2.out.farG hst.gr (fun e => by injection e with e; omega))
  have B3 := Lib.hid (B2.out.farG hst.gr (fun e => by injection e with e; omega))
  have a3 := Lib.hid (a2.out.grown hst.gr a2.out.size (fun k e => by injection e with e; omega))
  have O3 := Lib.hid (OwnI.more_ (base' := w.heap.size + 2) hst.own (by simp; omega))
  have R3 := Lib.hid (hst.rd)
  clear hst hr2' K2 B2 a2 hin
  obtain ⟨p0, p1, p2, p3, -⟩ := B3.out.four
  have S3 := Lib.hid (show RunSt w (w3.alloc (.cells #[.bool b0, .bool b1, .bool b2, .bool b3] 24)) w2.heap.size w3.heap.size (b0, b1, b2, b3) (b0, b1, b2, b3) 18 v ds from
    ⟨O3.out.alloc _, R3.out.alloc _, a3.out.alloc a3.out.size _, K3.out.alloc _, B3.out.alloc _, IsBlk.new w3 _ _, by omega, by omega, by omega⟩)
  clear O3 R3 a3 K3 B3
  obtain ⟨Av, cv, rfl⟩ := OwnI.sl9' S3.out.own
  generalize hn : ds.length = m at *
  have HM := Lib.hid hn
  clear hn
  go_upto_region 5 with fail
  generalize hB : w2.heap.size = B at *
  generalize hX : w3.heap.size = X at *
  generalize w3.alloc (.cells #[.bool b0, .bool b1, .bool b2, .bool b3] 24) = w4 at *
  go_wp2
  go_loopw [8] (fun i wr => ∃ (k : Nat) (x : B4) (ds : List Int), i = .int .i64 k ∧ k ≤ m ∧ ds.length = m ∧ (∀ z ∈ ds, -1 ≤ z ∧ z ≤ 8) ∧ RunSt w wr B X (b0, b1, b2, b3) x (18 + k) (.slice Av m cv) ds) (fun i _ => m - (intOf i).toNat)
  case atStart => exact ⟨0, _, ds, rfl, by omega, HM.out, HIN.out, S3.out.mono (by omega)⟩
  case round =>
    obtain ⟨k, x, ds', rfl, hk, hlen, hin, hst⟩ := hrel
    obtain ⟨x0, x1, x2, x3⟩ := x
    have SK := Lib.hid hst
    have HIK := Lib.hid hin
    have HLK := Lib.hid hlen
    clear hst hin S3 p0 p1 p2 p3
    by_cases hlt : k < m
    · obtain ⟨g, cap, hv, hg, hgs, hcap⟩ := SK.out.own.put9 (by omega)
      rw [hlen] at hv hcap
      injection hv with e1 e2 e3
      subst e1 e3
      have hkm : (k : Int) < (m : Int) := by omega
      clear hgs hlen
      go_wp2_with fail
      refine (pick_any (w.heap.size + 1) 4 _ (by omega) (by decide) _ SK.out.rd).mono ?_
      rintro x w5 ⟨q, rfl, hq0, hq1, _, hr5, hg5⟩
      have S5 := Lib.hid (SK.out.pick hr5 hg5)
      clear SK hr5 hg5 hq1
      by_cases hq : 0 < q
      · go_wp2
        go_loopg [44] 8 (fun gk _ wr => ∃ (z : Int) (ds : List Int), ds[k]? = some z ∧ ds.length = m ∧ (∀ z ∈ ds, -1 ≤ z ∧ z ≤ 8) ∧ deedsF gk (x0, x1, x2, x3) z = true ∧ RunSt w wr B X (b0, b1, b2, b3) (x0, x1, x2, x3) (18 + k + 1) (.slice (some ⟨g, 0, none⟩) m cv) ds)
        case atStart =>
          have hkl : k < ds'.length := by have := HLK.out; omega
          have hrz := HIK.out _ (List.getElem_mem hkl)
          exact ⟨_, ds', List.getElem?_eq_getElem hkl, HLK.out, HIK.out, deeds_start _ _ _ _ hrz.1 hrz.2, S5.out⟩
        case round =>
          obtain ⟨z, es, hz, hlen, hin, hreach, hst⟩ := hrel
          have SJ := Lib.hid hst
          have HZ := Lib.hid hz
          have HIJ := Lib.hid hin
          have HLJ := Lib.hid hlen
          have HRE := Lib.hid hreach
          have hzr := hin z (List.mem_of_getElem? hz)
          have hXr := SJ.out.bx.lt
          have hgr := (OwnI.lt SJ.out.own g (by simp [Value.ownBlock])).2
          obtain ⟨p0, p1, p2, p3, -⟩ := SJ.out.bx.four
          obtain ⟨c0, f0, -⟩ := SJ.out.own.in9 hz
          clear hst hz hin hlen hreach S5 HIK HLK
          go_upto_region 8 with fail
          go_cut [35] from 29 to 34 (fun v wx => v = .bool (!mayF (x0, x1, x2, x3) z) ∧ Below wr.heap.size wr wx)
          case first =>
            go_region_with (go_at_call 18; refine (specBayMay_any x0 x1 x2 x3 z _).mono ?_; rintro y w6 ⟨rfl, hb6⟩)
            all_goals go_wp2_with fail
            all_goals go_meet
            all_goals exact ⟨rfl, ((Below.refl _ _).drew).trans hb6⟩
          case rest =>
            rename World => w6
            obtain ⟨rfl, hb6⟩ := hcut
            have S6 := Lib.hid (SJ.out.next hb6)
            clear SJ p0 p1 p2 p3 c0 f0 hXr hgr hb6
            have hXr := S6.out.bx.lt
            have hgr := (OwnI.lt S6.out.own g (by simp [Value.ownBlock])).2
            obtain ⟨p0, p1, p2, p3, f0, f1, f2, f3⟩ := S6.out.bx.four
            obtain ⟨c0, g0, -⟩ := S6.out.own.in9 HZ.out
            by_cases hm : mayF (x0, x1, x2, x3) z = true
            · rw [hm]
              have HMF := Lib.hid hm
              clear hm
              go_upto_region 10 with fail
              go_cut [9, 10] from 45 to 53 (fun v u wx => ∃ (gy : Nat) (y : B4), v = .pointer (some ⟨gy, 0, none⟩) ∧ u = .bool (mayF (x0, x1, x2, x3) z) ∧ IsBlk wx gy 24 #[.bool y.1, .bool y.2.1, .bool y.2.2.1, .bool y.2.2.2] ∧ Below w6.heap.size w6 wx)
              case first =>
                go_region_with (go_at_call 21; refine (specBayDo_any x0 x1 x2 x3 z _).mono ?_; rintro y w7 ⟨rfl, hb7⟩; (first | (have hkk := newBay hb7; obtain ⟨t0, t1, t2, t3, v0, v1, v2, v3⟩ := hkk.four) | skip); generalize doF (x0, x1, x2, x3) z = y; obtain ⟨y0, y1, y2, y3⟩ := y; dsimp only [vB])
                all_goals go_wp2_with fail
                all_goals go_meet
                all_goals first
                  | exact ⟨w6.heap.size, (y0, y1, y2, y3), rfl, rfl, hkk.put4 _ _ _ _, below_four (newBay_b hb7) (Nat.le_refl _) _ _ _ _⟩
                  | exact ⟨w7.heap.size, (y0, y1, y2, y3), rfl, rfl, IsBlk.new w7 _ _, (((Below.refl w6.heap.size w6).drew).trans hb7).alloc hb7.size _⟩
              case rest =>
                obtain ⟨gy, y, rfl, rfl, hY, hb7⟩ := hcut
                obtain ⟨y0, y1, y2, y3⟩ := y
                have S7 := Lib.hid (S6.out.next hb7)
                clear S6 p0 p1 p2 p3 f0 f1 f2 f3 c0 g0 hXr hgr hb7
                obtain ⟨q0, q1, q2, q3, -⟩ := hY.four
                obtain ⟨p0, p1, p2, p3, f0, f1, f2, f3⟩ := S7.out.bx.four
                clear hY
                dsimp only at q0 q1 q2 q3
                go_wp2
                go_roundw
                case rel => exact ⟨k + 1, (y0, y1, y2, y3), es, by go_num, by omega, HLJ.out, HIJ.out, (S7.out.move (y0, y1, y2, y3)).mono (by omega)⟩
                case measure => simp [intOf]; omega
            · rw [Bool.not_eq_true] at hm
              rw [hm]
              cases gk with
              | zero => exact absurd HRE.out (by rw [deedsF, hm]; simp)
              | succ j =>
                have HRJ := Lib.hid (show deedsF j (x0, x1, x2, x3) (nextF z) = true by have h := HRE.out; rw [deedsF, hm] at h; simpa using h)
                clear hm
                go_wp2
                go_roundg j
                case measure => omega
                case rel => exact ⟨nextF z, es.set k (nextF z), by rw [List.getElem?_set_self (by have := HLJ.out; omega)], by simpa using HLJ.out, range_set HIJ.out (next_in hzr.1 hzr.2), HRJ.out, S6.out.put HZ.out (nextF z)⟩
      · obtain ⟨q0, q1, q2, q3, -⟩ := S5.out.bb.four
        obtain ⟨r0, r1, r2, r3, s0, s1, s2, s3⟩ := S5.out.ret.four
        dsimp only at q0 q1 q2 q3
        go_wp2
        refine bodyPost_ret (v := .tuple #[vB (b0, b1, b2, b3), .slice (some ⟨g, 0, none⟩) m cv]) (by simp [results, Tryd.results22, go_sem, vB, r0, r1, r2, r3]) rfl ⟨(b0, b1, b2, b3), _, ds', rfl, (S5.out.done _ _ _ _).1, by have := HLK.out; omega, (S5.out.done _ _ _ _).2⟩
    · have HL2 := HLK.out
      obtain ⟨q0, q1, q2, q3, -⟩ := SK.out.bb.four
      obtain ⟨r0, r1, r2, r3, s0, s1, s2, s3⟩ := SK.out.ret.four
      dsimp only at q0 q1 q2 q3
      go_wp2
      refine bodyPost_ret (v := .tuple #[vB (b0, b1, b2, b3), .slice Av m cv]) (by simp [results, Tryd.results22, go_sem, vB, r0, r1, r2, r3]) rfl ⟨(b0, b1, b2, b3), _, ds', rfl, (SK.out.done _ _ _ _).1, by omega, (SK.out.done _ _ _ _).2⟩
end Go.Proofs.YtapbmpodimdkpaaDoor
