/- FnPathLines: the walk. -/
import Derived.Test.YtbhlkcnkijihcaaDoorY9
import Derived.Test.YtbhlkcnkijihcaaDoorZ3
import Derived.Test.YtbhlkcnkijihcaaDoorBZA
import Derived.Test.YtbhlkcnkijihcaaDoorBHA
import Derived.Deep.RegionHeld3
namespace Go.Proofs.YtbhlkcnkijihcaaDoor
open Go.ChangeShapes Go.WideShapes Go.ChangeAt Go.RowKit

theorem RowI.pre {w : World} {g n c k : Nat} {xs : List Int} (h : RowI w (.slice (some ⟨g, 0, none⟩) n c) xs) (hk : k ≤ xs.length) (d : Nat) : RowI w (.slice (some ⟨g, 0, none⟩) k d) (xs.take k) := by
  obtain ⟨A, c', e, hc⟩ := h
  injection e with e1 e2 e3
  have hl : (xs.take k).length = k := by rw [List.length_take]; omega
  refine ⟨some ⟨g, 0, none⟩, d, by rw [hl], fun hp => ?_⟩
  obtain ⟨g', e4, hg, hcell⟩ := hc (by omega)
  rw [← e1] at e4
  injection e4 with e4; injection e4 with e4
  subst e4
  refine ⟨g, rfl, hg, fun i x hx => hcell i x ?_⟩
  rw [List.getElem?_take] at hx
  split at hx
  · exact hx
  · cases hx
theorem OwnI.cap {e : TypeId} {w : World} {base n c : Nat} {A : Option Addr} {zs : List Int} (h : OwnI e w base (.slice A n c) zs) : n ≤ c := by
  rcases h.2 with ⟨h1, _⟩ | ⟨g', cap', cur, h1, _, _, hn, _⟩
  · injection h1 with e1 e2 e3
    omega
  · injection h1 with e1 e2 e3
    omega
theorem OwnI.blk {e : TypeId} {w : World} {base n c : Nat} {A : Option Addr} {zs : List Int} (h : OwnI e w base (.slice A n c) zs) (hn : 0 < n) : ∃ g, A = some ⟨g, 0, none⟩ ∧ g < w.heap.size ∧ ∀ k x, zs[k]? = some x → w.cell? ⟨g, k, none⟩ = some (.int .i64 x) := by
  obtain ⟨A', c', e, hc⟩ := h.row
  injection e with e1 e2 e3
  subst e1
  obtain ⟨g, rfl, hg, hcell⟩ := hc (by omega)
  exact ⟨g, rfl, hg, fun k x hk => by have := hcell k x hk; rwa [Nat.zero_add] at this⟩

set_option maxRecDepth 100000 in
set_option maxHeartbeats 4000000 in
theorem pathL_walk (w : World) (A : Option Addr) (n c : Nat) (code : List Int) (hr : RowB w A n code) (hnc : n ≤ c) (hc : c ≤ 9223372036854775807) :
    Calls Tryd.prog 5 #[.slice A n c] w fun e w' => e = .returned (.bool true) ∧ Below w.heap.size w w' := by
  by_cases hlen : n ≤ 1048576
  · go_enter Tryd.func5, Tryd.ntmps5
    go_wp2_with fail
    refine (drawPathLines_any A n c code _ hr hnc hc).mono ?_
    rintro e w1 ⟨bs, A1, c1, ls, A2, c2, ts, A3, c3, us, bus, rfl, hrow, hls, hb0, hb9, hrt, hts, hru, hus, a1⟩
    have hbx := below_bx w1 (.cells #[.int .i64 bs, .slice A1 ls.length c1] 25)
    have HR1 := Lib.hid (hrow.below hbx)
    have k1 := Lib.hid (IsBlk.new w1 25 #[.int .i64 bs, .slice A1 ls.length c1])
    have b1 : Below w.heap.size w (w1.alloc (.cells #[.int .i64 bs, .slice A1 ls.length c1] 25)) := a1.alloc a1.size _
    have T1 := Lib.hid (hrt.below hbx)
    have U1 := Lib.hid (hru.below hbx)
    clear hrow hr hrt hru
    have h1 : ls.length ≤ 1048576 := by omega
    have h2 : ts.length ≤ 1048576 := by omega
    have h3 : us.length ≤ 1048576 := by omega
    have hlp : (patF bs ls ts us bus).length ≤ 1048576 := Nat.le_trans (patF_len _ _ _ _ _) (by decide)
    go_wp2_with fail
    refine (pathLines_any bs A1 ls.length c1 ls A2 ts.length c2 ts A3 us.length c3 us bus _ h1 HR1.out h2 T1.out h3 U1.out).mono ?_
    rintro e w2 ⟨v2, rfl, hO2, hb2⟩
    have b2 := b1.trans (hb2.mono b1.size)
    have HR2 := Lib.hid (HR1.out.below hb2)
    have k2 := Lib.hid (k1.out.keep hb2)
    have T2 := Lib.hid (T1.out.below hb2)
    have U2 := Lib.hid (U1.out.below hb2)
    have L2 := Lib.hid hO2
    obtain ⟨A4, c4, rfl, _⟩ := hO2.sl
    clear HR1 k1 T1 U1 hO2
    obtain ⟨p0, p1, _, _⟩ := k2.out.two
    go_wp2_with fail
    refine (specPathLines_any bs A1 ls.length c1 ls A2 ts.length c2 ts A3 us.length c3 us bus _ h1 HR2.out h2 T2.out h3 U2.out).mono ?_
    rintro e w3 ⟨v3, rfl, hO3, hb3⟩
    have b3 := b2.trans (hb3.mono b2.size)
    have HR3 := Lib.hid (HR2.out.below hb3)
    have k3 := Lib.hid (k2.out.keep hb3)
    have T3 := Lib.hid (T2.out.below hb3)
    have U3 := Lib.hid (U2.out.below hb3)
    have L3 := Lib.hid (OwnI.keep L2.out hb3)
    have M3 := Lib.hid hO3
    clear HR2 k2 T2 U2 L2 hO3 p0 p1
    go_wp2_with fail
    refine (sameInts_own hlp L3.out M3.out).mono ?_
    rintro e w4 ⟨rfl, hb4⟩
    have b4 := b3.trans (hb4.mono b3.size)
    have HR4 := Lib.hid (HR3.out.below hb4)
    have k4 := Lib.hid (k3.out.keep hb4)
    have T4 := Lib.hid (T3.out.below hb4)
    have U4 := Lib.hid (U3.out.below hb4)
    have L4 := Lib.hid (OwnI.keep L3.out hb4)
    clear HR3 k3 T3 U3 L3 M3
    obtain ⟨p0, p1, _, _⟩ := k4.out.two
    by_cases hz : (patF bs ls ts us bus).length = 0
    · have hor := pat_none hz
      rw [hz]
      go_wp2_with fail
      refine (fedBy_any bs A1 ls.length c1 ls A2 ts.length c2 ts A3 us.length c3 us bus _ h1 HR4.out h2 T4.out h3 U4.out).mono ?_
      rintro e w5 ⟨rfl, hb5⟩
      have b5 := b4.trans (hb5.mono b4.size)
      clear p0 p1
      by_cases hm1 : fbyF bs ls ts us bus = -1
      · rw [hm1]
        go_wp2_with fail
        refine (alive_any _).mono ?_
        rintro e w6 ⟨rfl, hb6⟩
        go_wp2
        go_ret
        exact ⟨rfl, b5.trans (hb6.mono b5.size)⟩
      · have he : fbyF bs ls ts us bus = bus := by rcases hor with h | h; exact absurd h hm1; exact h
        rw [he] at hm1 ⊢
        clear hor he
        go_wp2_with fail
        refine (alive_any _).mono ?_
        rintro e w6 ⟨rfl, hb6⟩
        go_wp2
        go_ret
        exact ⟨rfl, b5.trans (hb6.mono b5.size)⟩
    · obtain ⟨f, c0, xs, rfl, hp, hs, he, hch, hnd, hon⟩ := pat_some hz
      rw [hp] at L4 hlp hz ⊢
      have hxl : (ofN xs).length = xs.length := ofN_len xs
      rw [hxl] at hlp hz ⊢
      have hx0 : ((xs.length : Int) == 0) = false := by rw [beq_eq_false_iff_ne]; omega
      have hcap : xs.length ≤ c4 := by have h := L4.out; rw [hxl] at h; exact OwnI.cap h
      obtain ⟨g, rfl, _⟩ := (show OwnI 3 w4 _ (.slice A4 xs.length c4) (ofN xs) by have h := L4.out; rwa [hxl] at h).blk (by omega)
      have L4' := Lib.hid (show OwnI 3 w4 _ (.slice (some ⟨g, 0, none⟩) xs.length c4) (ofN xs) by have h := L4.out; rwa [hxl] at h)
      have HS := Lib.hid hs
      have HND := Lib.hid hnd
      have HON := Lib.hid hon
      have HCH := Lib.hid hch
      clear L4 hp hs hnd hon hch
      go_wp2_with fail
      refine (fedBy_any bs A1 ls.length c1 ls A2 ts.length c2 ts A3 us.length c3 us c0 _ h1 HR4.out h2 T4.out h3 U4.out).mono ?_
      rintro e w5 ⟨rfl, hb5⟩
      rw [he]
      have b5 := b4.trans (hb5.mono b4.size)
      have HR5 := Lib.hid (HR4.out.below hb5)
      have k5 := Lib.hid (k4.out.keep hb5)
      have T5 := Lib.hid (T4.out.below hb5)
      have L5 := Lib.hid (OwnI.keep L4'.out hb5)
      clear HR4 k4 T4 U4 L4' p0 p1 he
      go_wp2_with fail
      go_loopw [9, 10] (fun s i wr => ∃ k a : Nat, k ≤ xs.length ∧ i = .int .i64 k ∧ s = .int .i64 a ∧ Chain ls ts a (xs.drop k) c0 ∧ Below w5.heap.size w5 wr) (fun _ i _ => xs.length - (intOf i).toNat)
      case atStart => exact ⟨0, f, by omega, rfl, rfl, by simpa using HCH.out, Below.refl _ _⟩
      case round =>
        obtain ⟨k, a, hk, rfl, rfl, hcha, hbel⟩ := hrel
        have k7 := Lib.hid (k5.out.keep hbel)
        have HR7 := Lib.hid (HR5.out.below hbel)
        have T7 := Lib.hid (T5.out.below hbel)
        have L7 := Lib.hid (OwnI.keep L5.out hbel)
        obtain ⟨p0, p1, _, _⟩ := k7.out.two
        by_cases hlt : k < xs.length
        · have hxk : xs[k]? = some (xs[k]'hlt) := List.getElem?_eq_getElem _
          generalize (xs[k]'hlt) = x at hxk
          obtain ⟨a', hln, hch2⟩ := chain_at hcha hxk
          obtain ⟨hxl2, hxon⟩ := HON.out x (List.mem_of_getElem? hxk)
          obtain ⟨g', eg, hgl, hcell⟩ := L7.out.blk (by omega)
          injection eg with eg; injection eg with eg
          subst eg
          have g0 := hcell k x (ofN_get hxk)
          obtain ⟨bt, ot, t, hAt, hbt, hkt, e0⟩ := T7.out.at_ hxl2
          rw [hxon] at hkt; injection hkt with hkt; subst hkt hAt
          have hX := k7.out.lt
          have HN := Lib.hid (nodup_take HND.out hxk)
          have HPre := Lib.hid (L7.out.row.pre (k := k) (by rw [ofN_len]; omega) c4)
          have HOt := Lib.hid (other_ln HS.out hln.symm)
          have HC2 := Lib.hid hch2
          have htk : ((ofN xs).take k).length ≤ 1048576 := by rw [List.length_take]; omega
          have i0 : (0 : Int) ≤ (k : Int) := by omega
          have i1 : (k : Int) < (xs.length : Int) := by omega
          have i2 : (0 : Int) ≤ (x : Int) := by omega
          have i3 : (x : Int) < (ts.length : Int) := by omega
          have i4 : k ≤ c4 := by omega
          have i5 : (k : Int) ≤ (c4 : Int) := by omega
          clear hcha hxk hln hch2 hxon hcell hx0 hz
          go_upto_region 14 with fail
          go_region_held3 (fun w' => Below wr.heap.size wr w' ∧ w'.cell? ⟨w1.heap.size, 0, none⟩ = some (.int .i64 bs) ∧ w'.cell? ⟨w1.heap.size, 1, none⟩ = some (.slice A1 ls.length c1) ∧ w'.cell? ⟨g, k, none⟩ = some (.int .i64 (x : Int)) ∧ w'.cell? ⟨bt, ot + x, none⟩ = some (.bool true))
            (first | exact holdH p0 p1 hX g0 hgl e0 hbt hB8 | exact holdH p0 p1 hX g0 hgl e0 hbt (Below.drew (Below.refl _ _)) | exact holdH p0 p1 hX g0 hgl e0 hbt (Below.refl _ _))
            ((go_at_call 15; (with_reducible refine (hasInt_v _ ((ofN xs).take k) x HN.out _ htk (RowI.keepI HPre.out (And.left (by assumption)))).mono ?_); rintro e w8 ⟨rfl, hb8⟩; have hB8 := runV (by assumption) hb8))
          rename_i hF
          have b8 := hbel.trans (hF.1.mono hbel.size)
          have hF1 := hF.1
          have hw8 := hF.1.size
          obtain ⟨_, p0', p1', g0', e0'⟩ := hF
          have HR8 := Lib.hid (HR7.out.below hF1)
          have hX8 := Nat.lt_of_lt_of_le hX hw8
          have hgl8 := Nat.lt_of_lt_of_le hgl hw8
          have hbt8 := Nat.lt_of_lt_of_le hbt hw8
          clear p0 p1 g0 e0
          go_upto_region 16 with fail
          go_region_held3 (fun w' => Below w8.heap.size w8 w' ∧ w'.cell? ⟨w1.heap.size, 0, none⟩ = some (.int .i64 bs) ∧ w'.cell? ⟨w1.heap.size, 1, none⟩ = some (.slice A1 ls.length c1) ∧ w'.cell? ⟨g, k, none⟩ = some (.int .i64 (x : Int)) ∧ w'.cell? ⟨bt, ot + x, none⟩ = some (.bool true))
            (first | exact holdH p0' p1' hX8 g0' hgl8 e0' hbt8 hB9 | exact holdH p0' p1' hX8 g0' hgl8 e0' hbt8 (Below.drew (Below.refl _ _)) | exact holdH p0' p1' hX8 g0' hgl8 e0' hbt8 (Below.refl _ _))
            ((go_at_call 23; (with_reducible refine (otherEnd_any bs A1 ls.length c1 ls x a _ h1 (HR8.out.below (And.left (by assumption)))).mono ?_); rintro e w9 ⟨rfl, hb9⟩; rw [HOt.out]; have hB9 := runV (by assumption) hb9))
          rename_i hF2
          have b9 := b8.trans (hF2.1.mono b8.size)
          clear hF2 p0' p1' g0' e0'
          go_wp2_with fail
          go_roundw
          case rel => exact ⟨k + 1, a', by omega, by go_num, rfl, HC2.out, b9⟩
          case measure => simp [intOf]; omega
        · have b7 := b5.trans (hbel.mono b5.size)
          obtain rfl : k = xs.length := by omega
          obtain rfl := chain_end hcha
          go_wp2_with fail
          go_ret
          exact ⟨rfl, b7⟩
  · have hl2 : (1048576 : Int) < (n : Int) := by omega
    go_enter Tryd.func5, Tryd.ntmps5
    go_wp2
    go_ret
    exact ⟨rfl, Below.refl _ _⟩
end Go.Proofs.YtbhlkcnkijihcaaDoor
