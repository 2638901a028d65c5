/- FnAliveBuses: the walk. -/
import Derived.Test.YtobbmnbkjeoheaaDoorD3
import Derived.Test.YtobbmnbkjeoheaaDoorG3
import Derived.Test.YtobbmnbkjeoheaaDoorK4
import Derived.Test.YtobbmnbkjeoheaaDoorK5
import Derived.Test.YtobbmnbkjeoheaaDoorY4
import Derived.Deep.RegionHeld3
namespace Go.Proofs.YtobbmnbkjeoheaaDoor
open Go.ChangeShapes Go.WideShapes Go.ChangeAt Go.RowKit

section
variable {bs : Int} {ls : List L3} {ts : List Bool} {us : List U2}
theorem aliF_of (h : okU bs ls ts.length us = true) : aliF bs ls ts us = ofN (aliTo (edgesOn ls ts) bs.toNat us bs.toNat) := by rw [aliF, if_pos h]
theorem aliF_asc : ∀ (k : Nat) (x y : Int), (aliF bs ls ts us)[k]? = some x → (aliF bs ls ts us)[k + 1]? = some y → x < y := by
  intro k x y hx hy
  rw [aliF] at hx hy
  split at hx
  · rename_i hc
    rw [if_pos hc] at hy
    simp only [ofN, List.getElem?_map, Option.map_eq_some_iff] at hx hy
    obtain ⟨a, ha, rfl⟩ := hx
    obtain ⟨b, hb, rfl⟩ := hy
    have h := List.pairwise_iff_getElem.1 (range_filter_ascend (aliB (edgesOn ls ts) bs.toNat us) bs.toNat) k (k + 1) (List.getElem?_eq_some_iff.1 ha).1 (List.getElem?_eq_some_iff.1 hb).1 (Nat.lt_succ_self k)
    have e1 := (List.getElem?_eq_some_iff.1 ha).2
    have e2 := (List.getElem?_eq_some_iff.1 hb).2
    have h' : a < b := by rw [← e1, ← e2]; exact h
    exact Int.ofNat_lt.2 h'
  · simp at hx
theorem mem_aliF (h : okU bs ls ts.length us = true) {z : Int} : z ∈ aliF bs ls ts us ↔ ∃ b : Nat, z = (b : Int) ∧ b < bs.toNat ∧ 0 < isum (edgesOn ls ts) bs.toNat (fd us) b := by
  rw [aliF_of h, ofN_mem]
  constructor
  · rintro ⟨b, hb, rfl⟩
    rw [aliTo, List.mem_filter, List.mem_range] at hb
    exact ⟨b, rfl, hb.1, by simpa [aliB] using hb.2⟩
  · rintro ⟨b, rfl, h1, h2⟩
    exact ⟨b, by rw [aliTo, List.mem_filter, List.mem_range]; exact ⟨h1, by simpa [aliB] using h2⟩, rfl⟩
/-- P3: with a line on, all buses are alive that are with it off. -/
theorem aliF_sub {k : Nat} {l : L3} (h : okU bs ls ts.length us = true) (hk : ls[k]? = some l) (hkt : k < ts.length) : ∀ z ∈ aliF bs ls (ts.set k false) us, z ∈ aliF bs ls (ts.set k true) us := by
  intro z hz
  have h0 : okU bs ls (ts.set k false).length us = true := by rw [List.length_set]; exact h
  have h1 : okU bs ls (ts.set k true).length us = true := by rw [List.length_set]; exact h
  obtain ⟨b, rfl, hb, hp⟩ := (mem_aliF h0).1 hz
  refine (mem_aliF h1).2 ⟨b, rfl, hb, Int.lt_of_lt_of_le hp ?_⟩
  exact gsum_le (fun c _ => (fd_bd (okU_bu h) c).1) (fun c _ hc => connB_iff.2 ((connB_iff.1 hc).mono fun x y hxy => (adj_set hk hkt x y).2 (.inl hxy)))
/-- Both ends of a line that is on are alive together. -/
theorem aliF_line {k : Nat} {l : L3} (h : okU bs ls ts.length us = true) (hk : ls[k]? = some l) (hkt : ts[k]? = some true) : decide (l.1 ∈ aliF bs ls ts us) = decide (l.2.1 ∈ aliF bs ls ts us) := by
  obtain ⟨a0, a1, b0, b1⟩ := line_in (okU_st h) hk
  have hc : Conn (edgesOn ls ts) l.1.toNat l.2.1.toNat := Conn.one (.inl (mem_edgesOn.2 ⟨k, l, hk, hkt, rfl⟩))
  have he := isum_congr (nb := bs.toNat) (f := fd us) hc
  rw [decide_eq_decide, mem_aliF h, mem_aliF h]
  constructor
  · rintro ⟨b, hb, _, hp⟩
    exact ⟨l.2.1.toNat, by omega, by omega, by rw [← he, show l.1.toNat = b by omega]; exact hp⟩
  · rintro ⟨b, hb, _, hp⟩
    exact ⟨l.1.toNat, by omega, by omega, by rw [he, show l.2.1.toNat = b by omega]; exact hp⟩
end
theorem swV_at {bs : Int} {ls : List L3} {ts : List Bool} {k : Nat} (hk : k < ts.length) (hs : stOk bs ls ts.length = true) (sw : Bool) : swF bs ls ts (k : Int) sw = ts.set k sw := by
  rw [swF, if_pos hs, if_pos (by omega)]; rfl
theorem holdA {w w' : World} {X b o o1 b' o' : Nat} {u v x y z : Value} (p0 : w.cell? ⟨X, 0, none⟩ = some u) (p1 : w.cell? ⟨X, 1, none⟩ = some v) (hX : X < w.heap.size) (g0 : w.cell? ⟨b, o, none⟩ = some x) (g1 : w.cell? ⟨b, o1, none⟩ = some y) (hbb : b < w.heap.size) (e0 : w.cell? ⟨b', o', none⟩ = some z) (hbe : b' < w.heap.size) (hb : Below w.heap.size w w') :
    Below w.heap.size w w' ∧ w'.cell? ⟨X, 0, none⟩ = some u ∧ w'.cell? ⟨X, 1, none⟩ = some v ∧ w'.cell? ⟨b, o, none⟩ = some x ∧ w'.cell? ⟨b, o1, none⟩ = some y ∧ w'.cell? ⟨b', o', none⟩ = some z :=
  ⟨hb, (hb.cell (p := ⟨X, 0, none⟩) hX).trans p0, (hb.cell (p := ⟨X, 1, none⟩) hX).trans p1, (hb.cell (p := ⟨b, o, none⟩) hbb).trans g0, (hb.cell (p := ⟨b, o1, none⟩) hbb).trans g1, (hb.cell (p := ⟨b', o', none⟩) hbe).trans e0⟩
theorem hasInt_v (v : Value) (xs : List Int) (x : Int) {t : Bool} (ht : decide (x ∈ xs) = t) (w : World) (hl : xs.length ≤ 1048576) (hr : RowI w v xs) :
    Calls Tryd.prog 29 #[v, .int .i64 x] w fun e w' => e = .returned (.bool t) ∧ Below w.heap.size w w' := by
  subst ht
  refine (hasInt_any v xs x w hl hr).mono ?_
  rintro e w' ⟨rfl, rfl⟩
  exact ⟨rfl, Below.refl _ _⟩
theorem withinL_any (v v' : Value) (xs ys : List Int) (hs : ∀ x ∈ xs, x ∈ ys) (w : World) (hx : xs.length ≤ 1048576) (hy : ys.length ≤ 1048576) (hr : RowI w v xs) (hr' : RowI w v' ys) :
    Calls Tryd.prog 28 #[v, v'] w fun e w' => e = .returned (.bool true) ∧ Below w.heap.size w w' := by
  have HR' := Lib.hid hr'
  have hv' : ∃ A c, v' = .slice A ys.length c := by obtain ⟨A, c, e, _⟩ := hr'; exact ⟨A, c, e⟩
  obtain ⟨A', c', rfl⟩ := hv'
  obtain ⟨A, c, rfl, HA⟩ := hr
  have HC := Lib.hid HA
  have HS := Lib.hid hs
  clear HA hs hr'
  go_enter Tryd.func28, Tryd.ntmps28
  go_wp2
  go_loopw [5] (fun i wr => ∃ k : Nat, k ≤ xs.length ∧ i = .int .i64 k ∧ wr = w) (fun i _ => xs.length - (intOf i).toNat)
  case atStart => exact ⟨0, by omega, rfl, rfl⟩
  case round =>
    obtain ⟨k, hk, rfl, rfl⟩ := hrel
    by_cases hlt : k < xs.length
    · obtain ⟨g, rfl, hb, HD⟩ := HC.out (by omega)
      have hkl : xs[k]? = some (xs[k]'hlt) := List.getElem?_eq_getElem _
      generalize (xs[k]'hlt) = x at hkl
      have g0 : wr.cell? ⟨g, k, none⟩ = some (.int .i64 x) := by have := HD k x hkl; rwa [Nat.zero_add] at this
      have HM := Lib.hid (show decide (x ∈ ys) = true by rw [decide_eq_true_eq]; exact HS.out x (List.mem_of_getElem? hkl))
      have i0 : (0 : Int) ≤ (k : Int) := by omega
      have i1 : (k : Int) < (xs.length : Int) := by omega
      clear hkl HD
      go_wp2_with fail
      refine (hasInt_any _ ys x _ hy HR'.out).mono ?_
      rintro e w' ⟨rfl, rfl⟩
      rw [HM.out]
      go_wp2
      go_roundw
      case rel => exact ⟨k + 1, by omega, by go_num, by first | rfl | trivial⟩
      case measure => simp [intOf]; omega
    · go_wp2
      go_ret
      exact ⟨rfl, Below.refl _ _⟩

set_option maxRecDepth 100000 in
set_option maxHeartbeats 4000000 in
theorem aliveBuses_walk (w : World) (A : Option Addr) (n c : Nat) (code : List Int) (hr : RowB w A n code) (hnc : n ≤ c) (hc : c ≤ 9223372036854775807) :
    Calls Tryd.prog 6 #[.slice A n c] w fun e w' => e = .returned (.bool true) ∧ Below w.heap.size w w' := by
  by_cases hlen : n ≤ 1048576
  · go_enter Tryd.func6, Tryd.ntmps6
    go_wp2_with fail
    refine (drawAliveBuses_any A n c code _ hr hnc hc).mono ?_
    rintro e w1 ⟨bs, A1, c1, ls, v, ts, vu, us, rfl, hrow, hls, hb0, hb9, hO, hts, hU, hus, a1⟩
    have hbx := below_bx w1 (.cells #[.int .i64 bs, .slice A1 ls.length c1] 25)
    have HR1 := Lib.hid (hrow.below hbx)
    have k1 := Lib.hid (IsBlk.new w1 25 #[.int .i64 bs, .slice A1 ls.length c1])
    have b1 : Below w.heap.size w (w1.alloc (.cells #[.int .i64 bs, .slice A1 ls.length c1] 25)) := a1.alloc a1.size _
    obtain ⟨A2, c2, rfl, _, hrt⟩ := hO.row
    obtain ⟨A3, c3, rfl, hru⟩ := hU.row
    have T1 := Lib.hid (hrt.below hbx)
    have U1 := Lib.hid (hru.below hbx)
    clear hrow hr hO hrt hU hru
    have h1 : ls.length ≤ 1048576 := by omega
    have h2 : ts.length ≤ 1048576 := by omega
    have h3 : us.length ≤ 1048576 := by omega
    have hlr : (aliF bs ls ts us).length ≤ 1048576 := Nat.le_trans (aliF_len _ _ _ _) (by decide)
    go_wp2_with fail
    refine (alive5_any bs A1 ls.length c1 ls A2 ts.length c2 ts A3 us.length c3 us _ h1 HR1.out h2 T1.out h3 U1.out).mono ?_
    rintro e w2 ⟨v2, rfl, hO2, hb2⟩
    have b2 := b1.trans (hb2.mono b1.size)
    have HR2 := Lib.hid (HR1.out.below hb2)
    have k2 := Lib.hid (k1.out.keep hb2)
    have T2 := Lib.hid (T1.out.below hb2)
    have P2 := Lib.hid (U1.out.below hb2)
    have L2 := Lib.hid hO2
    obtain ⟨A4, c4, rfl, _⟩ := hO2.sl
    clear HR1 k1 T1 U1 hO2
    obtain ⟨p0, p1, _, _⟩ := k2.out.two
    go_wp2_with fail
    refine (specAlive_any bs A1 ls.length c1 ls A2 ts.length c2 ts A3 us.length c3 us _ h1 HR2.out h2 T2.out h3 P2.out).mono ?_
    rintro e w3 ⟨v3, rfl, hO3, hb3⟩
    have b3 := b2.trans (hb3.mono b2.size)
    have HR3 := Lib.hid (HR2.out.below hb3)
    have k3 := Lib.hid (k2.out.keep hb3)
    have T3 := Lib.hid (T2.out.below hb3)
    have U3 := Lib.hid (P2.out.below hb3)
    have L3 := Lib.hid (OwnI.keep L2.out hb3)
    have M3 := Lib.hid hO3
    clear HR2 k2 T2 P2 L2 hO3 p0 p1
    go_wp2_with fail
    refine (sameInts_own hlr L3.out M3.out).mono ?_
    rintro e w4 ⟨rfl, hb4⟩
    have b4 := b3.trans (hb4.mono b3.size)
    have HR4 := Lib.hid (HR3.out.below hb4)
    have k4 := Lib.hid (k3.out.keep hb4)
    have T4 := Lib.hid (T3.out.below hb4)
    have U4 := Lib.hid (U3.out.below hb4)
    have L4 := Lib.hid (OwnI.keep L3.out hb4)
    clear HR3 k3 T3 U3 L3 M3
    obtain ⟨p0, p1, _, _⟩ := k4.out.two
    go_wp2_with fail
    refine (specStateValid_any bs A1 ls.length c1 ls A2 ts.length c2 _ h1 HR4.out (by omega)).mono ?_
    rintro e w5 ⟨rfl, hb5⟩
    have b5 := b4.trans (hb5.mono b4.size)
    have HR5 := Lib.hid (HR4.out.below hb5)
    have k5 := Lib.hid (k4.out.keep hb5)
    have T5 := Lib.hid (T4.out.below hb5)
    have U5 := Lib.hid (U4.out.below hb5)
    have L5 := Lib.hid (OwnI.keep L4.out hb5)
    clear HR4 k4 T4 U4 L4 p0 p1 hb4
    obtain ⟨p0, p1, _, _⟩ := k5.out.two
    cases hs : stOk bs ls ts.length
    · have hz : (aliF bs ls ts us).length = 0 := by rw [aliF_no (by simp [okU, hs])]; rfl
      rw [hz]
      go_wp2_with fail
      refine (alive_any _).mono ?_
      rintro e w6 ⟨rfl, hb6⟩
      go_wp2
      go_ret
      exact ⟨rfl, b5.trans (hb6.mono b5.size)⟩
    · go_wp2_with fail
      refine (specBusesValid_any bs A1 ls.length c1 ls A3 us.length c3 us _ h1 HR5.out h3 U5.out).mono ?_
      rintro e w4 ⟨rfl, hb6⟩
      have b4 := b5.trans (hb6.mono b5.size)
      cases hbu : busesOk bs ls us
      · have hz : (aliF bs ls ts us).length = 0 := by rw [aliF_no (by simp [okU, hbu])]; rfl
        rw [hz]
        go_wp2_with fail
        refine (alive_any _).mono ?_
        rintro e w6 ⟨rfl, hb6⟩
        go_wp2
        go_ret
        exact ⟨rfl, b4.trans (hb6.mono b4.size)⟩
      · have ho : okU bs ls ts.length us = true := by simp [okU, hs, hbu]
        have hbs := okU_bs ho
        obtain ⟨nb, rfl⟩ := Int.eq_ofNat_of_zero_le (show 0 ≤ bs by omega)
        have hul : us.length = nb := by have := busesOk_len hbu; omega
        have HO := Lib.hid ho
        have HS := Lib.hid hs
        have HTL := Lib.hid (show ts.length = ls.length by simp only [stOk, Bool.and_eq_true, decide_eq_true_eq] at hs; exact hs.2)
        have HAsc := Lib.hid (aliF_asc (bs := nb) (ls := ls) (ts := ts) (us := us))
        have k6 := Lib.hid (k5.out.keep hb6)
        have HR6 := Lib.hid (HR5.out.below hb6)
        have T6 := Lib.hid (T5.out.below hb6)
        have U6 := Lib.hid (show RowU w4 A3 nb us by have := U5.out.below hb6; rwa [hul] at this)
        have L6 := Lib.hid (OwnI.keep L5.out hb6)
        rw [hul] at h3 ⊢
        clear ho hs hbu hul k5 HR5 T5 U5 L5 p0 p1 hb6
        have hlz := hlr
        have HZS := Lib.hid (fun (k : Nat) (l : L3) (h1 : ls[k]? = some l) (h2 : ts[k]? = some true) => aliF_line HO.out h1 h2)
        generalize hzz : aliF nb ls ts us = zs at *
        clear hzz
        go_wp2_with fail
        go_loopw [7] (fun i wr => ∃ k : Nat, k ≤ ts.length ∧ i = .int .i64 k ∧ Below w4.heap.size w4 wr) (fun i _ => ts.length - (intOf i).toNat)
        case atStart => exact ⟨0, by omega, rfl, Below.refl _ _⟩
        case round =>
          obtain ⟨k, hk, rfl, hbel⟩ := hrel
          have k7 := Lib.hid (k6.out.keep hbel)
          have L7 := Lib.hid (OwnI.keep L6.out hbel)
          by_cases hlt : k < ts.length
          · obtain ⟨p0, p1, _, _⟩ := k7.out.two
            go_wp2_with fail
            refine (offOn_any nb A1 ls.length c1 ls A2 ts.length c2 ts k _ h1 (HR6.out.below hbel) h2 (T6.out.below hbel)).mono ?_
            rintro e w6 ⟨va, vb, rfl, hOa, hOb, hb6⟩
            rw [swV_at hlt HS.out] at hOa hOb
            have b6 := hbel.trans (hb6.mono hbel.size)
            have k8 := k7.out.keep hb6
            have L8 := Lib.hid (OwnI.keep L7.out hb6)
            obtain ⟨Aa, ca, rfl, _, hTa⟩ := hOa.row
            obtain ⟨Ab, cb, rfl, _, hTb⟩ := hOb.row
            have hR6 := HR6.out.below b6
            have hT6 := T6.out.below b6
            have hU6 := U6.out.below b6
            have hk6 : k < ls.length := by rw [← HTL.out]; exact hlt
            obtain ⟨bl, ol, l, hAl, hbl, hkl, g0, g1, _⟩ := hR6.at_ hk6
            obtain ⟨bt, ot, t, hAt, hbt, hkt, e0⟩ := hT6.at_ hlt
            have HSub := Lib.hid (aliF_sub HO.out hkl hlt)
            rw [List.length_set] at hTa hTb ⊢
            rw [List.length_set]
            have hla : (aliF nb ls (ts.set k false) us).length ≤ 1048576 := Nat.le_trans (aliF_len _ _ _ _) (by decide)
            have hlb : (aliF nb ls (ts.set k true) us).length ≤ 1048576 := Nat.le_trans (aliF_len _ _ _ _) (by decide)
            have CA := fun (W : World) (hW : Below w6.heap.size w6 W) => alive5_any nb A1 ls.length c1 ls Aa ts.length ca (ts.set k false) A3 nb c3 us W h1 (hR6.below hW) h2 (hTa.below hW) h3 (hU6.below hW)
            have CB := fun (W : World) (hW : Below w6.heap.size w6 W) => alive5_any nb A1 ls.length c1 ls Ab ts.length cb (ts.set k true) A3 nb c3 us W h1 (hR6.below hW) h2 (hTb.below hW) h3 (hU6.below hW)
            have HLn := Lib.hid (fun (h : t = true) => HZS.out k l hkl (by rw [hkt, h]))
            obtain ⟨la, lb, lm⟩ := l
            simp only at g0 g1 HLn
            have HA := Lib.hid CA
            have HB := Lib.hid CB
            have hX : w1.heap.size < w6.heap.size := k8.lt
            clear p0 p1
            obtain ⟨p0, p1, _, _⟩ := k8.two
            have q0 : (0 : Int) ≤ (k : Int) := by omega
            have q1 : (k : Int) < (ls.length : Int) := by omega
            have q2 : (k : Int) < (ts.length : Int) := by omega
            subst hAl hAt
            clear CA CB hOa hOb hTa hTb hR6 hT6 hU6 k8 hkl hkt k7
            generalize aliF nb ls (ts.set k false) us = xs at *
            generalize aliF nb ls (ts.set k true) us = ys at *
            go_upto_region 13 with fail
            cases t
            · clear HLn
              refine wp_region_held_drew (S := fun w' => Below w6.heap.size w6 w' ∧ w'.cell? ⟨w1.heap.size, 0, none⟩ = some (.int .i64 (nb : Int)) ∧ w'.cell? ⟨w1.heap.size, 1, none⟩ = some (.slice (some ⟨bl, ol, none⟩) ls.length c1) ∧ w'.cell? ⟨bl, ol + k * 3, none⟩ = some (.int .i64 la) ∧ w'.cell? ⟨bl, ol + k * 3 + 1, none⟩ = some (.int .i64 lb) ∧ w'.cell? ⟨bt, ot + k, none⟩ = some (.bool false)) (by kernel_rfl) (holdA p0 p1 hX g0 g1 hbl e0 hbt (Below.drew (Below.refl _ _))) (fun hHeld => ?_)
              refine wpAnyH_take (i := 0) (v := .agg #[.int .i64 (nb : Int), .slice (some ⟨bl, ol, none⟩) ls.length c1]) rfl (by kernel_rfl) (by kernel_rfl) (by kernel_rfl) (fun _ _ _ h => h) (Or.inl ⟨by kernel_rfl, fun w hSw => by (try dsimp only at hSw); go_simp⟩) hHeld ?_
              try simp only [Act.put, List.getElem_toArray, List.getElem_cons_zero, List.setIfInBounds_toArray, List.set_cons_zero, List.set_cons_succ]
              refine wpAnyH_take (i := 1) (v := .slice Aa ts.length ca) rfl (by kernel_rfl) (by kernel_rfl) (by kernel_rfl) (fun _ _ _ h => h) (Or.inl ⟨by kernel_rfl, fun w hSw => by (try dsimp only at hSw); go_simp⟩) hHeld ?_
              try simp only [Act.put, List.getElem_toArray, List.getElem_cons_zero, List.getElem_cons_succ, List.setIfInBounds_toArray, List.set_cons_zero, List.set_cons_succ]
              refine wpAnyH_take (i := 2) (v := .slice A3 nb c3) rfl (by kernel_rfl) (by kernel_rfl) (by kernel_rfl) (fun _ _ _ h => h) (Or.inl ⟨by kernel_rfl, fun w hSw => by (try dsimp only at hSw); go_simp⟩) hHeld ?_
              try simp only [Act.put, List.getElem_toArray, List.getElem_cons_zero, List.getElem_cons_succ, List.setIfInBounds_toArray, List.set_cons_zero, List.set_cons_succ]
              refine wpAnyH_take (i := 4) (v := .agg #[.int .i64 (nb : Int), .slice (some ⟨bl, ol, none⟩) ls.length c1]) rfl (by kernel_rfl) (by kernel_rfl) (by kernel_rfl) (fun _ _ _ h => h) (Or.inl ⟨by kernel_rfl, fun w hSw => by (try dsimp only at hSw); go_simp⟩) hHeld ?_
              try simp only [Act.put, List.getElem_toArray, List.getElem_cons_zero, List.getElem_cons_succ, List.setIfInBounds_toArray, List.set_cons_zero, List.set_cons_succ]
              refine wpAnyH_take (i := 5) (v := .slice Ab ts.length cb) rfl (by kernel_rfl) (by kernel_rfl) (by kernel_rfl) (fun _ _ _ h => h) (Or.inl ⟨by kernel_rfl, fun w hSw => by (try dsimp only at hSw); go_simp⟩) hHeld ?_
              try simp only [Act.put, List.getElem_toArray, List.getElem_cons_zero, List.getElem_cons_succ, List.setIfInBounds_toArray, List.set_cons_zero, List.set_cons_succ]
              refine wpAnyH_take (i := 6) (v := .slice A3 nb c3) rfl (by kernel_rfl) (by kernel_rfl) (by kernel_rfl) (fun _ _ _ h => h) (Or.inl ⟨by kernel_rfl, fun w hSw => by (try dsimp only at hSw); go_simp⟩) hHeld ?_
              try simp only [Act.put, List.getElem_toArray, List.getElem_cons_zero, List.getElem_cons_succ, List.setIfInBounds_toArray, List.set_cons_zero, List.set_cons_succ]
              refine wpAnyH_ready (rs := [3]) (by kernel_rfl) (by simp) ?_
              refine AllReadyH.cons rfl (fun K hK => ?_) AllReadyH.nil
              go_simp
              refine (HA.out _ hHeld.1).mono ?_
              rintro e w7 ⟨va', rfl, hO7, hb7⟩
              have O7 := Lib.hid hO7
              obtain ⟨A7, c7, rfl, _⟩ := hO7.sl
              clear hO7
              go_simp
              refine hK.out _ _ (holdA p0 p1 hX g0 g1 hbl e0 hbt (runV hHeld hb7)) (fun hHeld => ?_)
              clear hK K
              refine wpAnyH_ready (rs := [7]) (by kernel_rfl) (by simp) ?_
              refine AllReadyH.cons rfl (fun K hK => ?_) AllReadyH.nil
              go_simp
              refine (HB.out _ hHeld.1).mono ?_
              rintro e w8 ⟨vb', rfl, hO8, hb8⟩
              have O8 := Lib.hid hO8
              obtain ⟨A8, c8, rfl, _⟩ := hO8.sl
              clear hO8
              go_simp
              refine hK.out _ _ (holdA p0 p1 hX g0 g1 hbl e0 hbt (runV hHeld hb8)) (fun hHeld => ?_)
              clear hK K
              refine wpAnyH_ready (rs := [8]) (by kernel_rfl) (by simp) ?_
              refine AllReadyH.cons rfl (fun K hK => ?_) AllReadyH.nil
              go_simp
              refine (withinL_any _ _ _ _ HSub.out _ hla hlb (O7.out.row.keepI hb8) O8.out.row).mono ?_
              rintro e w9 ⟨rfl, hb9⟩
              go_simp
              refine hK.out _ _ (holdA p0 p1 hX g0 g1 hbl e0 hbt (runV hHeld hb9)) (fun hHeld => ?_)
              clear hK K
              refine wpAnyH_take (i := 9) (v := .bool false) rfl (by kernel_rfl) (by kernel_rfl) (by kernel_rfl) (fun _ _ _ h => h) (Or.inl ⟨by kernel_rfl, fun w hSw => by (try dsimp only at hSw); go_simp⟩) hHeld ?_
              try simp only [Act.put, List.getElem_toArray, List.getElem_cons_zero, List.getElem_cons_succ, List.setIfInBounds_toArray, List.set_cons_zero, List.set_cons_succ]
              refine wpAnyH_take (i := 10) (v := .bool false) rfl (by kernel_rfl) (by kernel_rfl) (by kernel_rfl) (fun _ _ _ h => h) (Or.inl ⟨by kernel_rfl, fun w hSw => by (try dsimp only at hSw); go_simp⟩) hHeld ?_
              try simp only [Act.put, List.getElem_toArray, List.getElem_cons_zero, List.getElem_cons_succ, List.setIfInBounds_toArray, List.set_cons_zero, List.set_cons_succ]
              refine wpAnyH_take (i := 11) (v := .slice (some ⟨bt, ot, none⟩) ts.length c2) rfl (by kernel_rfl) (by kernel_rfl) (by kernel_rfl) (fun _ _ _ h => h) (Or.inl ⟨by kernel_rfl, fun w hSw => by (try dsimp only at hSw); go_simp⟩) hHeld ?_
              try simp only [Act.put, List.getElem_toArray, List.getElem_cons_zero, List.getElem_cons_succ, List.setIfInBounds_toArray, List.set_cons_zero, List.set_cons_succ]
              refine wpAnyH_take (i := 12) (v := .int .i64 (k : Int)) rfl (by kernel_rfl) (by kernel_rfl) (by kernel_rfl) (fun _ _ _ h => h) (Or.inl ⟨by kernel_rfl, fun w hSw => by (try dsimp only at hSw); go_simp⟩) hHeld ?_
              try simp only [Act.put, List.getElem_toArray, List.getElem_cons_zero, List.getElem_cons_succ, List.setIfInBounds_toArray, List.set_cons_zero, List.set_cons_succ]
              refine wpAnyH_take (i := 13) (v := .pointer (some ⟨bt, ot + k, none⟩)) rfl (by kernel_rfl) (by kernel_rfl) (by kernel_rfl) (fun _ _ _ h => h) (Or.inl ⟨by kernel_rfl, fun w hSw => by (try dsimp only at hSw); go_simp⟩) hHeld ?_
              try simp only [Act.put, List.getElem_toArray, List.getElem_cons_zero, List.getElem_cons_succ, List.setIfInBounds_toArray, List.set_cons_zero, List.set_cons_succ]
              refine wpAnyH_take (i := 14) (v := .bool false) rfl (by kernel_rfl) (by kernel_rfl) (by kernel_rfl) (fun _ _ _ h => h) (Or.inl ⟨by kernel_rfl, fun w hSw => by (try dsimp only at hSw); go_simp⟩) hHeld ?_
              try simp only [Act.put, List.getElem_toArray, List.getElem_cons_zero, List.getElem_cons_succ, List.setIfInBounds_toArray, List.set_cons_zero, List.set_cons_succ]
              refine wpAnyH_take (i := 15) (v := .bool false) rfl (by kernel_rfl) (by kernel_rfl) (by kernel_rfl) (fun _ _ _ h => h) (Or.inl ⟨by kernel_rfl, fun w hSw => by (try dsimp only at hSw); go_simp⟩) hHeld ?_
              try simp only [Act.put, List.getElem_toArray, List.getElem_cons_zero, List.getElem_cons_succ, List.setIfInBounds_toArray, List.set_cons_zero, List.set_cons_succ]
              refine wpAnyH_take (i := 16) (v := undef) rfl (by kernel_rfl) (by kernel_rfl) (by kernel_rfl) (fun _ _ _ h => h) (Or.inr ⟨by kernel_rfl, rfl⟩) hHeld ?_
              try simp only [Act.put, List.getElem_toArray, List.getElem_cons_zero, List.getElem_cons_succ, List.setIfInBounds_toArray, List.set_cons_zero, List.set_cons_succ]
              refine wpAnyH_take (i := 17) (v := undef) rfl (by kernel_rfl) (by kernel_rfl) (by kernel_rfl) (fun _ _ _ h => h) (Or.inr ⟨by kernel_rfl, rfl⟩) hHeld ?_
              try simp only [Act.put, List.getElem_toArray, List.getElem_cons_zero, List.getElem_cons_succ, List.setIfInBounds_toArray, List.set_cons_zero, List.set_cons_succ]
              refine wpAnyH_take (i := 18) (v := undef) rfl (by kernel_rfl) (by kernel_rfl) (by kernel_rfl) (fun _ _ _ h => h) (Or.inr ⟨by kernel_rfl, rfl⟩) hHeld ?_
              try simp only [Act.put, List.getElem_toArray, List.getElem_cons_zero, List.getElem_cons_succ, List.setIfInBounds_toArray, List.set_cons_zero, List.set_cons_succ]
              refine wpAnyH_take (i := 19) (v := undef) rfl (by kernel_rfl) (by kernel_rfl) (by kernel_rfl) (fun _ _ _ h => h) (Or.inr ⟨by kernel_rfl, rfl⟩) hHeld ?_
              try simp only [Act.put, List.getElem_toArray, List.getElem_cons_zero, List.getElem_cons_succ, List.setIfInBounds_toArray, List.set_cons_zero, List.set_cons_succ]
              refine wpAnyH_take (i := 20) (v := undef) rfl (by kernel_rfl) (by kernel_rfl) (by kernel_rfl) (fun _ _ _ h => h) (Or.inr ⟨by kernel_rfl, rfl⟩) hHeld ?_
              try simp only [Act.put, List.getElem_toArray, List.getElem_cons_zero, List.getElem_cons_succ, List.setIfInBounds_toArray, List.set_cons_zero, List.set_cons_succ]
              refine wpAnyH_take (i := 21) (v := undef) rfl (by kernel_rfl) (by kernel_rfl) (by kernel_rfl) (fun _ _ _ h => h) (Or.inr ⟨by kernel_rfl, rfl⟩) hHeld ?_
              try simp only [Act.put, List.getElem_toArray, List.getElem_cons_zero, List.getElem_cons_succ, List.setIfInBounds_toArray, List.set_cons_zero, List.set_cons_succ]
              refine wpAnyH_take (i := 22) (v := undef) rfl (by kernel_rfl) (by kernel_rfl) (by kernel_rfl) (fun _ _ _ h => h) (Or.inr ⟨by kernel_rfl, rfl⟩) hHeld ?_
              try simp only [Act.put, List.getElem_toArray, List.getElem_cons_zero, List.getElem_cons_succ, List.setIfInBounds_toArray, List.set_cons_zero, List.set_cons_succ]
              refine wpAnyH_take (i := 23) (v := undef) rfl (by kernel_rfl) (by kernel_rfl) (by kernel_rfl) (fun _ _ _ h => h) (Or.inr ⟨by kernel_rfl, rfl⟩) hHeld ?_
              try simp only [Act.put, List.getElem_toArray, List.getElem_cons_zero, List.getElem_cons_succ, List.setIfInBounds_toArray, List.set_cons_zero, List.set_cons_succ]
              refine wpAnyH_take (i := 24) (v := undef) rfl (by kernel_rfl) (by kernel_rfl) (by kernel_rfl) (fun _ _ _ h => h) (Or.inr ⟨by kernel_rfl, rfl⟩) hHeld ?_
              try simp only [Act.put, List.getElem_toArray, List.getElem_cons_zero, List.getElem_cons_succ, List.setIfInBounds_toArray, List.set_cons_zero, List.set_cons_succ]
              refine wpAnyH_take (i := 25) (v := undef) rfl (by kernel_rfl) (by kernel_rfl) (by kernel_rfl) (fun _ _ _ h => h) (Or.inr ⟨by kernel_rfl, rfl⟩) hHeld ?_
              try simp only [Act.put, List.getElem_toArray, List.getElem_cons_zero, List.getElem_cons_succ, List.setIfInBounds_toArray, List.set_cons_zero, List.set_cons_succ]
              refine wpAnyH_take (i := 26) (v := undef) rfl (by kernel_rfl) (by kernel_rfl) (by kernel_rfl) (fun _ _ _ h => h) (Or.inr ⟨by kernel_rfl, rfl⟩) hHeld ?_
              try simp only [Act.put, List.getElem_toArray, List.getElem_cons_zero, List.getElem_cons_succ, List.setIfInBounds_toArray, List.set_cons_zero, List.set_cons_succ]
              refine wpAnyH_take (i := 27) (v := undef) rfl (by kernel_rfl) (by kernel_rfl) (by kernel_rfl) (fun _ _ _ h => h) (Or.inr ⟨by kernel_rfl, rfl⟩) hHeld ?_
              try simp only [Act.put, List.getElem_toArray, List.getElem_cons_zero, List.getElem_cons_succ, List.setIfInBounds_toArray, List.set_cons_zero, List.set_cons_succ]
              refine wpAnyH_take (i := 28) (v := undef) rfl (by kernel_rfl) (by kernel_rfl) (by kernel_rfl) (fun _ _ _ h => h) (Or.inr ⟨by kernel_rfl, rfl⟩) hHeld ?_
              try simp only [Act.put, List.getElem_toArray, List.getElem_cons_zero, List.getElem_cons_succ, List.setIfInBounds_toArray, List.set_cons_zero, List.set_cons_succ]
              refine wpAnyH_take (i := 29) (v := undef) rfl (by kernel_rfl) (by kernel_rfl) (by kernel_rfl) (fun _ _ _ h => h) (Or.inr ⟨by kernel_rfl, rfl⟩) hHeld ?_
              try simp only [Act.put, List.getElem_toArray, List.getElem_cons_zero, List.getElem_cons_succ, List.setIfInBounds_toArray, List.set_cons_zero, List.set_cons_succ]
              refine wpAnyH_take (i := 30) (v := undef) rfl (by kernel_rfl) (by kernel_rfl) (by kernel_rfl) (fun _ _ _ h => h) (Or.inr ⟨by kernel_rfl, rfl⟩) hHeld ?_
              try simp only [Act.put, List.getElem_toArray, List.getElem_cons_zero, List.getElem_cons_succ, List.setIfInBounds_toArray, List.set_cons_zero, List.set_cons_succ]
              refine wpAnyH_take (i := 31) (v := undef) rfl (by kernel_rfl) (by kernel_rfl) (by kernel_rfl) (fun _ _ _ h => h) (Or.inr ⟨by kernel_rfl, rfl⟩) hHeld ?_
              try simp only [Act.put, List.getElem_toArray, List.getElem_cons_zero, List.getElem_cons_succ, List.setIfInBounds_toArray, List.set_cons_zero, List.set_cons_succ]
              refine wpAnyH_take (i := 32) (v := undef) rfl (by kernel_rfl) (by kernel_rfl) (by kernel_rfl) (fun _ _ _ h => h) (Or.inr ⟨by kernel_rfl, rfl⟩) hHeld ?_
              try simp only [Act.put, List.getElem_toArray, List.getElem_cons_zero, List.getElem_cons_succ, List.setIfInBounds_toArray, List.set_cons_zero, List.set_cons_succ]
              refine wpAnyH_take (i := 33) (v := .bool false) rfl (by kernel_rfl) (by kernel_rfl) (by kernel_rfl) (fun _ _ _ h => h) (Or.inl ⟨by kernel_rfl, fun w hSw => by (try dsimp only at hSw); go_simp⟩) hHeld ?_
              try simp only [Act.put, List.getElem_toArray, List.getElem_cons_zero, List.getElem_cons_succ, List.setIfInBounds_toArray, List.set_cons_zero, List.set_cons_succ]
              refine wpAnyH_take (i := 34) (v := .bool false) rfl (by kernel_rfl) (by kernel_rfl) (by kernel_rfl) (fun _ _ _ h => h) (Or.inl ⟨by kernel_rfl, fun w hSw => by (try dsimp only at hSw); go_simp⟩) hHeld ?_
              try simp only [Act.put, List.getElem_toArray, List.getElem_cons_zero, List.getElem_cons_succ, List.setIfInBounds_toArray, List.set_cons_zero, List.set_cons_succ]
              refine wpAnyH_done (by kernel_rfl) ?_ _
              have b9 : Below w4.heap.size w4 w9 := b6.trans (hHeld.1.mono b6.size)
              clear hHeld p0 p1 g0 g1 e0
              go_wp2_with fail
              go_roundw
              case rel => exact ⟨k + 1, by omega, by go_num, b9⟩
              case measure => simp [intOf]; omega
            · obtain ⟨th, hth⟩ : ∃ th, decide (la ∈ zs) = th := ⟨_, rfl⟩
              have HMA := Lib.hid hth
              have HMB := Lib.hid ((HLn.out rfl).symm.trans hth)
              have L6 := L8
              clear hth HLn
              go_region_held3 (fun w' => Below w6.heap.size w6 w' ∧ w'.cell? ⟨w1.heap.size, 0, none⟩ = some (.int .i64 (nb : Int)) ∧ w'.cell? ⟨w1.heap.size, 1, none⟩ = some (.slice (some ⟨bl, ol, none⟩) ls.length c1) ∧ w'.cell? ⟨bl, ol + k * 3, none⟩ = some (.int .i64 la) ∧ w'.cell? ⟨bl, ol + k * 3 + 1, none⟩ = some (.int .i64 lb) ∧ w'.cell? ⟨bt, ot + k, none⟩ = some (.bool true))
                (first | exact holdA p0 p1 hX g0 g1 hbl e0 hbt hB7 | exact holdA p0 p1 hX g0 g1 hbl e0 hbt hB8 | exact holdA p0 p1 hX g0 g1 hbl e0 hbt hB9 | exact holdA p0 p1 hX g0 g1 hbl e0 hbt hB10 | exact holdA p0 p1 hX g0 g1 hbl e0 hbt hB11 | exact holdA p0 p1 hX g0 g1 hbl e0 hbt (Below.drew (Below.refl _ _)) | exact holdA p0 p1 hX g0 g1 hbl e0 hbt (Below.refl _ _))
                (first
                  | (go_at_call 29; (with_reducible refine (hasInt_v _ zs la HMA.out _ hlz (RowI.keepI L6.out.row (And.left (by assumption)))).mono ?_); rintro e w10 ⟨rfl, hb10⟩; have hB10 := runV (by assumption) hb10)
                  | (go_at_call 29; (with_reducible refine (hasInt_v _ zs lb HMB.out _ hlz (RowI.keepI L6.out.row (And.left (by assumption)))).mono ?_); rintro e w11 ⟨rfl, hb11⟩; have hB11 := runV (by assumption) hb11)
                  | (go_at_call 28; (first | refine (withinL_any _ _ _ _ HSub.out _ hla hlb O7.out.row P8.out.row).mono ?_ | refine (withinL_any _ _ _ _ HSub.out _ hla hlb P7.out.row O8.out.row).mono ?_); rintro e w9 ⟨rfl, hb9⟩; have hB9 := runV (by assumption) hb9)
                  | (go_at_call 23; (with_reducible refine (HA.out _ (And.left (by assumption))).mono ?_); rintro e w7 ⟨va', rfl, hO7, hb7⟩; have hB7 := runV (by assumption) hb7; have O7 := Lib.hid hO7; obtain ⟨A7, c7, rfl, _⟩ := hO7.sl; clear hO7; first | (have P8 := Lib.hid (OwnI.keep O8.out hb7)) | skip)
                  | (go_at_call 23; (with_reducible refine (HB.out _ (And.left (by assumption))).mono ?_); rintro e w8 ⟨vb', rfl, hO8, hb8⟩; have hB8 := runV (by assumption) hb8; have O8 := Lib.hid hO8; obtain ⟨A8, c8, rfl, _⟩ := hO8.sl; clear hO8; first | (have P7 := Lib.hid (OwnI.keep O7.out hb8)) | skip))
              all_goals
                rename_i hF
                have b9 : Below w4.heap.size w4 _ := b6.trans (hF.1.mono b6.size)
                clear hF
                go_wp2_with fail
                go_roundw
                case rel => exact ⟨k + 1, by omega, by go_num, b9⟩
                case measure => simp [intOf]; omega
          · have b7 := b4.trans (hbel.mono b4.size)
            go_wp2_with fail
            refine (ascend_any A4 zs.length c4 zs _ hlr L7.out.rowZ HAsc.out).mono ?_
            rintro e w8 ⟨rfl, hb8⟩
            go_wp2
            go_ret
            exact ⟨rfl, b7.trans (hb8.mono b7.size)⟩
  · have hl2 : (1048576 : Int) < (n : Int) := by omega
    go_enter Tryd.func6, Tryd.ntmps6
    go_wp2
    go_ret
    exact ⟨rfl, Below.refl _ _⟩
end Go.Proofs.YtobbmnbkjeoheaaDoor
