/- FnIslandNumbers: the walk. -/
import Derived.Test.YtlofhkhfomhdaaaDoorD3
import Derived.Test.YtlofhkhfomhdaaaDoorG3
import Derived.Test.YtlofhkhfomhdaaaDoorI6
import Derived.Test.YtlofhkhfomhdaaaDoorI9
import Derived.Test.YtlofhkhfomhdaaaDoorK0
import Derived.Test.YtlofhkhfomhdaaaDoorK2
import Derived.Test.YtlofhkhfomhdaaaDoorK4
import Derived.Deep.RegionHeld3
namespace Go.Proofs.YtlofhkhfomhdaaaDoor
open Go.ChangeShapes Go.WideShapes Go.ChangeAt Go.RowKit

theorem sw_at {bs : Int} {ls : List L3} {ts : List Bool} {k : Nat} (hk : k < ts.length) (hs : stOk bs ls ts.length = true) (sw : Bool) : swF bs ls ts (k : Int) sw = ts.set k sw := by
  rw [swF, if_pos hs, if_pos (by omega)]; rfl
theorem RowL.at2 {w : World} {A : Option Addr} {n k : Nat} {ls : List L3} (h : RowL w A n ls) (hk : k < n) : ∃ b off l, A = some ⟨b, off, none⟩ ∧ b < w.heap.size ∧ ls[k]? = some l ∧ w.cell? ⟨b, off + k * 3, none⟩ = some (.int .i64 l.1) ∧ w.cell? ⟨b, off + k * 3 + 1, none⟩ = some (.int .i64 l.2.1) := by
  obtain ⟨b, off, e, hb, hc⟩ := h.2 (by omega)
  have hl : ls[k]? = some (ls[k]'(by have := h.1; omega)) := List.getElem?_eq_getElem _
  exact ⟨b, off, _, e, hb, hl, (hc k _ hl).1, (hc k _ hl).2.1⟩
theorem holdS {w w' : World} {X : Nat} {u v : Value} (p0 : w.cell? ⟨X, 0, none⟩ = some u) (p1 : w.cell? ⟨X, 1, none⟩ = some v) (hX : X < w.heap.size) (hb : Below w.heap.size w w') : Below w.heap.size w w' ∧ w'.cell? ⟨X, 0, none⟩ = some u ∧ w'.cell? ⟨X, 1, none⟩ = some v :=
  ⟨hb, (hb.cell (p := ⟨X, 0, none⟩) hX).trans p0, (hb.cell (p := ⟨X, 1, none⟩) hX).trans p1⟩
theorem hold4 {w w' : World} {X b o o' : Nat} {u v x y : Value} (p0 : w.cell? ⟨X, 0, none⟩ = some u) (p1 : w.cell? ⟨X, 1, none⟩ = some v) (hX : X < w.heap.size) (g0 : w.cell? ⟨b, o, none⟩ = some x) (g1 : w.cell? ⟨b, o', none⟩ = some y) (hbb : b < w.heap.size) (hb : Below w.heap.size w w') :
    Below w.heap.size w w' ∧ w'.cell? ⟨X, 0, none⟩ = some u ∧ w'.cell? ⟨X, 1, none⟩ = some v ∧ w'.cell? ⟨b, o, none⟩ = some x ∧ w'.cell? ⟨b, o', none⟩ = some y :=
  ⟨hb, (hb.cell (p := ⟨X, 0, none⟩) hX).trans p0, (hb.cell (p := ⟨X, 1, none⟩) hX).trans p1, (hb.cell (p := ⟨b, o, none⟩) hbb).trans g0, (hb.cell (p := ⟨b, o', none⟩) hbb).trans g1⟩
theorem runS {w0 w w' : World} {p : Prop} (h : Below w0.heap.size w0 w ∧ p) (hb : Below w.heap.size w w') : Below w0.heap.size w0 w' := h.1.trans (hb.mono h.1.size)

set_option maxRecDepth 100000 in
set_option maxHeartbeats 4000000 in
theorem islandNumbers_walk (w : World) (A : Option Addr) (n c : Nat) (code : List Int) (hr : RowB w A n code) (hnc : n ≤ c) (hc : c ≤ 9223372036854775807) :
    Calls Tryd.prog 4 #[.slice A n c] w fun e w' => e = .returned (.bool true) ∧ Below w.heap.size w w' := by
  by_cases hlen : n ≤ 1048576
  · go_enter Tryd.func4, Tryd.ntmps4
    go_wp2_with fail
    refine (drawIslandNumbers_any A n c code _ hr hnc hc).mono ?_
    rintro e w1 ⟨bs, A1, c1, ls, v, ts, rfl, hrow, hls, hb0, hb9, hO, hts, a1⟩
    have hbx := below_bx w1 (.cells #[.int .i64 bs, .slice A1 ls.length c1] 25)
    have HR1 := Lib.hid (hrow.below hbx)
    have k1 := Lib.hid (IsBlk.new w1 25 #[.int .i64 bs, .slice A1 ls.length c1])
    have b1 : Below w.heap.size w (w1.alloc (.cells #[.int .i64 bs, .slice A1 ls.length c1] 25)) := a1.alloc a1.size _
    obtain ⟨A2, c2, rfl, _, hrt⟩ := hO.row
    have T1 := Lib.hid (hrt.below hbx)
    clear hrow hr hO hrt
    have h1 : ls.length ≤ 1048576 := by omega
    have h2 : ts.length ≤ 1048576 := by omega
    have hlr : (islF bs ls ts).length ≤ 1048576 := Nat.le_trans (islF_len _ _ _) (by decide)
    go_wp2_with fail
    refine (isl_any bs A1 ls.length c1 ls A2 ts.length c2 ts _ h1 HR1.out h2 T1.out).mono ?_
    rintro e w2 ⟨v2, rfl, hO2, hb2⟩
    have b2 := b1.trans (hb2.mono b1.size)
    have HR2 := Lib.hid (HR1.out.below hb2)
    have k2 := Lib.hid (k1.out.keep hb2)
    have T2 := Lib.hid (T1.out.below hb2)
    have L2 := Lib.hid hO2
    obtain ⟨A3, c3, rfl, _⟩ := hO2.sl
    clear hO2 HR1 k1 T1
    obtain ⟨p0, p1, _, _⟩ := k2.out.two
    go_wp2_with fail
    refine (specIsl_any bs A1 ls.length c1 ls A2 ts.length c2 ts _ h1 HR2.out h2 T2.out).mono ?_
    rintro e w3 ⟨v3, rfl, hO3, hb3⟩
    have b3 := b2.trans (hb3.mono b2.size)
    have HR3 := Lib.hid (HR2.out.below hb3)
    have k3 := Lib.hid (k2.out.keep hb3)
    have T3 := Lib.hid (T2.out.below hb3)
    have L3 := Lib.hid (OwnI.keep L2.out hb3)
    have M3 := Lib.hid hO3
    clear hO3 HR2 k2 T2 L2 p0 p1
    go_wp2_with fail
    refine (sameInts_own hlr L3.out M3.out).mono ?_
    rintro e w4 ⟨rfl, hb4⟩
    have b4 := b3.trans (hb4.mono b3.size)
    have HR4 := Lib.hid (HR3.out.below hb4)
    have k4 := Lib.hid (k3.out.keep hb4)
    have T4 := Lib.hid (T3.out.below hb4)
    clear HR3 k3 T3 L3 M3
    by_cases hz : (islF bs ls ts).length = 0
    · rw [hz]
      go_wp2_with fail
      go_loopw [6] (fun i wr => i = .int .i64 0 ∧ wr = w4) (fun _ _ => 0)
      case atStart => exact ⟨rfl, rfl⟩
      case round =>
        obtain ⟨rfl, rfl⟩ := hrel
        rcases Nat.eq_zero_or_pos ts.length with h0 | h0
        · rw [h0]
          go_wp2_with fail
          refine (alive_any _).mono ?_
          rintro e w5 ⟨rfl, hb5⟩
          go_wp2
          go_ret
          exact ⟨rfl, b4.trans (hb5.mono b4.size)⟩
        · have h0' : (0 : Int) < (ts.length : Int) := by omega
          go_wp2_with fail
          refine (alive_any _).mono ?_
          rintro e w5 ⟨rfl, hb5⟩
          go_wp2
          go_ret
          exact ⟨rfl, b4.trans (hb5.mono b4.size)⟩
    · have hs := islF_some (show 0 < (islF bs ls ts).length by omega)
      have HS := Lib.hid hs
      have HTL := Lib.hid (show ts.length = ls.length by simp only [stOk, Bool.and_eq_true, decide_eq_true_eq] at hs; exact hs.2)
      have hz0 : (0 : Int) < ((islF bs ls ts).length : Int) := by omega
      clear hs hz hlr
      generalize (islF bs ls ts).length = nz at *
      go_wp2_with fail
      go_loopw [6] (fun i wr => ∃ k : Nat, k ≤ ts.length ∧ i = .int .i64 k ∧ Below w4.heap.size w4 wr) (fun i _ => ts.length - (intOf i).toNat)
      case atStart => exact ⟨0, by omega, rfl, Below.refl _ _⟩
      case round =>
        obtain ⟨k, hk, rfl, hbel⟩ := hrel
        have b5 := b4.trans (hbel.mono b4.size)
        have k5 := Lib.hid (k4.out.keep hbel)
        have HR5 := Lib.hid (HR4.out.below hbel)
        have T5 := Lib.hid (T4.out.below hbel)
        by_cases hlt : k < ts.length
        · obtain ⟨p0, p1, _, _⟩ := k5.out.two
          go_wp2_with fail
          refine (offOn_any bs A1 ls.length c1 ls A2 ts.length c2 ts k _ h1 HR5.out h2 T5.out).mono ?_
          rintro e w6 ⟨va, vb, rfl, hOa, hOb, hb6⟩
          rw [sw_at hlt HS.out] at hOa hOb
          have b6 := hbel.trans (hb6.mono hbel.size)
          have k6 := k5.out.keep hb6
          obtain ⟨Aa, ca, rfl, _, hTa⟩ := hOa.row
          obtain ⟨Ab, cb, rfl, _, hTb⟩ := hOb.row
          have hR6 := HR5.out.below hb6
          have hk6 : k < ls.length := by rw [← HTL.out]; exact hlt
          obtain ⟨bl, ol, l, hAl, hbl, hkl, g0, g1⟩ := hR6.at2 hk6
          have hsw := isl_switch HS.out hkl hlt
          rw [List.length_set] at hTa hTb ⊢
          rw [List.length_set]
          have hla : (iofF bs ls (ts.set k false)).length ≤ 8 := iofF_few _ _ _
          have hlb : (iofF bs ls (ts.set k true)).length ≤ 8 := iofF_few _ _ _
          have CA := fun (W : World) (hW : Below w6.heap.size w6 W) => islands_any bs A1 ls.length c1 ls Aa ts.length ca (ts.set k false) W h1 (hR6.below hW) h2 (hTa.below hW)
          have CB := fun (W : World) (hW : Below w6.heap.size w6 W) => islands_any bs A1 ls.length c1 ls Ab ts.length cb (ts.set k true) W h1 (hR6.below hW) h2 (hTb.below hW)
          have CS := fun (W : World) (hW : Below w6.heap.size w6 W) => sam_any bs A1 ls.length c1 ls Aa ts.length ca (ts.set k false) l.1 l.2.1 W h1 (hR6.below hW) h2 (hTa.below hW)
          generalize (iofF bs ls (ts.set k false)).length = na at *
          generalize (iofF bs ls (ts.set k true)).length = nb at *
          generalize samF bs ls (ts.set k false) l.1 l.2.1 = t at *
          obtain ⟨la, lb, lm⟩ := l
          simp only at g0 g1 CS
          have HA := Lib.hid CA
          have HB := Lib.hid CB
          have HC := Lib.hid CS
          have hX : w1.heap.size < w6.heap.size := k6.lt
          clear p0 p1
          obtain ⟨p0, p1, _, _⟩ := k6.two
          have q0 : (0 : Int) ≤ (k : Int) := by omega
          have q1 : (k : Int) < (ls.length : Int) := by omega
          have hd : IntKind.i64.wrap ((na : Int) - (nb : Int)) = if t = true then 0 else 1 := by rw [IntWalk.i64_in _ (by omega)]; exact hsw
          subst hAl
          clear CA CB CS hOa hOb hTa hTb hR6 k6 hkl hsw hla hlb k5 HR5 T5
          go_upto_region 11 with fail
          go_region_held3 (fun w' => Below w6.heap.size w6 w' ∧ w'.cell? ⟨w1.heap.size, 0, none⟩ = some (.int .i64 bs) ∧ w'.cell? ⟨w1.heap.size, 1, none⟩ = some (.slice (some ⟨bl, ol, none⟩) ls.length c1))
            (first | exact holdS p0 p1 hX hB8 | exact holdS p0 p1 hX hB7 | exact holdS p0 p1 hX (Below.drew (Below.refl _ _)) | exact holdS p0 p1 hX (Below.refl _ _))
            (first
              | (go_at_call 22; (with_reducible refine (HA.out _ (And.left (by assumption))).mono ?_); rintro e w7 ⟨rfl, hb7⟩; have hB7 := runS (by assumption) hb7)
              | (go_at_call 22; (with_reducible refine (HB.out _ (And.left (by assumption))).mono ?_); rintro e w8 ⟨rfl, hb8⟩; have hB8 := runS (by assumption) hb8))
          rename_i hF
          have gg0 := (hF.1.cell (p := ⟨bl, ol + k * 3, none⟩) hbl).trans g0
          have gg1 := (hF.1.cell (p := ⟨bl, ol + k * 3 + 1, none⟩) hbl).trans g1
          have pp0 := hF.2.1
          have pp1 := hF.2.2
          have hX8 := Nat.lt_of_lt_of_le hX hF.1.size
          have hb8l := Nat.lt_of_lt_of_le hbl hF.1.size
          have HC8 := Lib.hid (fun (W : World) (hW : Below w8.heap.size w8 W) => HC.out W (hF.1.trans (hW.mono hF.1.size)))
          have b8 : Below w4.heap.size w4 w8 := b6.trans (hF.1.mono b6.size)
          clear hF HA HB HC hB7 hB8 hb7 hb8 g0 g1 p0 p1 hX hbl
          cases t
          · simp only [if_neg Bool.false_ne_true] at hd
            go_upto_region 12 with fail
            refine wp_region_held_drew (S := fun w' => Below w8.heap.size w8 w' ∧ w'.cell? ⟨w1.heap.size, 0, none⟩ = some (.int .i64 bs) ∧ w'.cell? ⟨w1.heap.size, 1, none⟩ = some (.slice (some ⟨bl, ol, none⟩) ls.length c1) ∧ w'.cell? ⟨bl, ol + k * 3, none⟩ = some (.int .i64 la) ∧ w'.cell? ⟨bl, ol + k * 3 + 1, none⟩ = some (.int .i64 lb)) (by kernel_rfl) (hold4 pp0 pp1 hX8 gg0 gg1 hb8l (Below.drew (Below.refl _ _))) (fun hHeld => ?_)
            refine wpAnyH_take (i := 0) (v := .agg #[.int .i64 bs, .slice (some ⟨bl, ol, none⟩) ls.length c1]) rfl (by kernel_rfl) (by kernel_rfl) (by kernel_rfl) (fun _ _ _ h => h) (Or.inl ⟨by kernel_rfl, fun w hSw => by (try dsimp only at hSw); go_simp⟩) hHeld ?_
            refine wpAnyH_take (i := 1) (v := .slice Aa ts.length ca) rfl (by kernel_rfl) (by kernel_rfl) (by kernel_rfl) (fun _ _ _ h => h) (Or.inl ⟨by kernel_rfl, fun w hSw => by (try dsimp only at hSw); go_simp⟩) hHeld ?_
            refine wpAnyH_take (i := 2) (v := .pointer (some ⟨w1.heap.size, 1, none⟩)) rfl (by kernel_rfl) (by kernel_rfl) (by kernel_rfl) (fun _ _ _ h => h) (Or.inl ⟨by kernel_rfl, fun w hSw => by (try dsimp only at hSw); go_simp⟩) hHeld ?_
            refine wpAnyH_take (i := 3) (v := .slice (some ⟨bl, ol, none⟩) ls.length c1) rfl (by kernel_rfl) (by kernel_rfl) (by kernel_rfl) (fun _ _ _ h => h) (Or.inl ⟨by kernel_rfl, fun w hSw => by (try dsimp only at hSw); go_simp⟩) hHeld ?_
            refine wpAnyH_take (i := 4) (v := .int .i64 (k : Int)) rfl (by kernel_rfl) (by kernel_rfl) (by kernel_rfl) (fun _ _ _ h => h) (Or.inl ⟨by kernel_rfl, fun w hSw => by (try dsimp only at hSw); go_simp⟩) hHeld ?_
            refine wpAnyH_take (i := 5) (v := .pointer (some ⟨bl, ol + k * 3, none⟩)) rfl (by kernel_rfl) (by kernel_rfl) (by kernel_rfl) (fun _ _ _ h => h) (Or.inl ⟨by kernel_rfl, fun w hSw => by (try dsimp only at hSw); go_simp⟩) hHeld ?_
            refine wpAnyH_take (i := 6) (v := .pointer (some ⟨bl, ol + k * 3, none⟩)) rfl (by kernel_rfl) (by kernel_rfl) (by kernel_rfl) (fun _ _ _ h => h) (Or.inl ⟨by kernel_rfl, fun w hSw => by (try dsimp only at hSw); go_simp⟩) hHeld ?_
            refine wpAnyH_take (i := 7) (v := .int .i64 la) rfl (by kernel_rfl) (by kernel_rfl) (by kernel_rfl) (fun _ _ _ h => h) (Or.inl ⟨by kernel_rfl, fun w hSw => by (try dsimp only at hSw); go_simp⟩) hHeld ?_
            refine wpAnyH_take (i := 8) (v := .pointer (some ⟨w1.heap.size, 1, none⟩)) rfl (by kernel_rfl) (by kernel_rfl) (by kernel_rfl) (fun _ _ _ h => h) (Or.inl ⟨by kernel_rfl, fun w hSw => by (try dsimp only at hSw); go_simp⟩) hHeld ?_
            refine wpAnyH_take (i := 9) (v := .slice (some ⟨bl, ol, none⟩) ls.length c1) rfl (by kernel_rfl) (by kernel_rfl) (by kernel_rfl) (fun _ _ _ h => h) (Or.inl ⟨by kernel_rfl, fun w hSw => by (try dsimp only at hSw); go_simp⟩) hHeld ?_
            refine wpAnyH_take (i := 10) (v := .int .i64 (k : Int)) rfl (by kernel_rfl) (by kernel_rfl) (by kernel_rfl) (fun _ _ _ h => h) (Or.inl ⟨by kernel_rfl, fun w hSw => by (try dsimp only at hSw); go_simp⟩) hHeld ?_
            refine wpAnyH_take (i := 11) (v := .pointer (some ⟨bl, ol + k * 3, none⟩)) rfl (by kernel_rfl) (by kernel_rfl) (by kernel_rfl) (fun _ _ _ h => h) (Or.inl ⟨by kernel_rfl, fun w hSw => by (try dsimp only at hSw); go_simp⟩) hHeld ?_
            refine wpAnyH_take (i := 12) (v := .pointer (some ⟨bl, ol + k * 3 + 1, none⟩)) rfl (by kernel_rfl) (by kernel_rfl) (by kernel_rfl) (fun _ _ _ h => h) (Or.inl ⟨by kernel_rfl, fun w hSw => by (try dsimp only at hSw); go_simp⟩) hHeld ?_
            refine wpAnyH_take (i := 13) (v := .int .i64 lb) rfl (by kernel_rfl) (by kernel_rfl) (by kernel_rfl) (fun _ _ _ h => h) (Or.inl ⟨by kernel_rfl, fun w hSw => by (try dsimp only at hSw); go_simp⟩) hHeld ?_
            refine wpAnyH_ready (rs := [14]) (by kernel_rfl) (by simp) ?_
            refine AllReadyH.cons rfl (fun K hK => ?_) AllReadyH.nil
            go_simp
            refine (HC8.out _ hHeld.1).mono ?_
            rintro e w9 ⟨rfl, hb9⟩
            go_simp
            refine hK.out _ _ (hold4 pp0 pp1 hX8 gg0 gg1 hb8l (runS hHeld hb9)) (fun hHeld => ?_)
            clear hK K
            refine wpAnyH_take (i := 15) (v := .bool false) rfl (by kernel_rfl) (by kernel_rfl) (by kernel_rfl) (fun _ _ _ h => h) (Or.inl ⟨by kernel_rfl, fun w hSw => by (try dsimp only at hSw); go_simp⟩) hHeld ?_
            refine wpAnyH_take (i := 16) (v := undef) rfl (by kernel_rfl) (by kernel_rfl) (by kernel_rfl) (fun _ _ _ h => h) (Or.inr ⟨by kernel_rfl, rfl⟩) hHeld ?_
            refine wpAnyH_take (i := 17) (v := undef) rfl (by kernel_rfl) (by kernel_rfl) (by kernel_rfl) (fun _ _ _ h => h) (Or.inr ⟨by kernel_rfl, rfl⟩) hHeld ?_
            refine wpAnyH_take (i := 18) (v := .bool false) rfl (by kernel_rfl) (by kernel_rfl) (by kernel_rfl) (fun _ _ _ h => h) (Or.inl ⟨by kernel_rfl, fun w hSw => by (try dsimp only at hSw); go_simp⟩) hHeld ?_
            refine wpAnyH_take (i := 19) (v := .bool false) rfl (by kernel_rfl) (by kernel_rfl) (by kernel_rfl) (fun _ _ _ h => h) (Or.inl ⟨by kernel_rfl, fun w hSw => by (try dsimp only at hSw); go_simp⟩) hHeld ?_
            refine wpAnyH_take (i := 20) (v := .agg #[.int .i64 bs, .slice (some ⟨bl, ol, none⟩) ls.length c1]) rfl (by kernel_rfl) (by kernel_rfl) (by kernel_rfl) (fun _ _ _ h => h) (Or.inl ⟨by kernel_rfl, fun w hSw => by (try dsimp only at hSw); go_simp⟩) hHeld ?_
            refine wpAnyH_take (i := 21) (v := .slice Aa ts.length ca) rfl (by kernel_rfl) (by kernel_rfl) (by kernel_rfl) (fun _ _ _ h => h) (Or.inl ⟨by kernel_rfl, fun w hSw => by (try dsimp only at hSw); go_simp⟩) hHeld ?_
            refine wpAnyH_take (i := 22) (v := .pointer (some ⟨w1.heap.size, 1, none⟩)) rfl (by kernel_rfl) (by kernel_rfl) (by kernel_rfl) (fun _ _ _ h => h) (Or.inl ⟨by kernel_rfl, fun w hSw => by (try dsimp only at hSw); go_simp⟩) hHeld ?_
            refine wpAnyH_take (i := 23) (v := .slice (some ⟨bl, ol, none⟩) ls.length c1) rfl (by kernel_rfl) (by kernel_rfl) (by kernel_rfl) (fun _ _ _ h => h) (Or.inl ⟨by kernel_rfl, fun w hSw => by (try dsimp only at hSw); go_simp⟩) hHeld ?_
            refine wpAnyH_take (i := 24) (v := .int .i64 (k : Int)) rfl (by kernel_rfl) (by kernel_rfl) (by kernel_rfl) (fun _ _ _ h => h) (Or.inl ⟨by kernel_rfl, fun w hSw => by (try dsimp only at hSw); go_simp⟩) hHeld ?_
            refine wpAnyH_take (i := 25) (v := .pointer (some ⟨bl, ol + k * 3, none⟩)) rfl (by kernel_rfl) (by kernel_rfl) (by kernel_rfl) (fun _ _ _ h => h) (Or.inl ⟨by kernel_rfl, fun w hSw => by (try dsimp only at hSw); go_simp⟩) hHeld ?_
            refine wpAnyH_take (i := 26) (v := .pointer (some ⟨bl, ol + k * 3, none⟩)) rfl (by kernel_rfl) (by kernel_rfl) (by kernel_rfl) (fun _ _ _ h => h) (Or.inl ⟨by kernel_rfl, fun w hSw => by (try dsimp only at hSw); go_simp⟩) hHeld ?_
            refine wpAnyH_take (i := 27) (v := .int .i64 la) rfl (by kernel_rfl) (by kernel_rfl) (by kernel_rfl) (fun _ _ _ h => h) (Or.inl ⟨by kernel_rfl, fun w hSw => by (try dsimp only at hSw); go_simp⟩) hHeld ?_
            refine wpAnyH_take (i := 28) (v := .pointer (some ⟨w1.heap.size, 1, none⟩)) rfl (by kernel_rfl) (by kernel_rfl) (by kernel_rfl) (fun _ _ _ h => h) (Or.inl ⟨by kernel_rfl, fun w hSw => by (try dsimp only at hSw); go_simp⟩) hHeld ?_
            refine wpAnyH_take (i := 29) (v := .slice (some ⟨bl, ol, none⟩) ls.length c1) rfl (by kernel_rfl) (by kernel_rfl) (by kernel_rfl) (fun _ _ _ h => h) (Or.inl ⟨by kernel_rfl, fun w hSw => by (try dsimp only at hSw); go_simp⟩) hHeld ?_
            refine wpAnyH_take (i := 30) (v := .int .i64 (k : Int)) rfl (by kernel_rfl) (by kernel_rfl) (by kernel_rfl) (fun _ _ _ h => h) (Or.inl ⟨by kernel_rfl, fun w hSw => by (try dsimp only at hSw); go_simp⟩) hHeld ?_
            refine wpAnyH_take (i := 31) (v := .pointer (some ⟨bl, ol + k * 3, none⟩)) rfl (by kernel_rfl) (by kernel_rfl) (by kernel_rfl) (fun _ _ _ h => h) (Or.inl ⟨by kernel_rfl, fun w hSw => by (try dsimp only at hSw); go_simp⟩) hHeld ?_
            refine wpAnyH_take (i := 32) (v := .pointer (some ⟨bl, ol + k * 3 + 1, none⟩)) rfl (by kernel_rfl) (by kernel_rfl) (by kernel_rfl) (fun _ _ _ h => h) (Or.inl ⟨by kernel_rfl, fun w hSw => by (try dsimp only at hSw); go_simp⟩) hHeld ?_
            refine wpAnyH_take (i := 33) (v := .int .i64 lb) rfl (by kernel_rfl) (by kernel_rfl) (by kernel_rfl) (fun _ _ _ h => h) (Or.inl ⟨by kernel_rfl, fun w hSw => by (try dsimp only at hSw); go_simp⟩) hHeld ?_
            refine wpAnyH_ready (rs := [34]) (by kernel_rfl) (by simp) ?_
            refine AllReadyH.cons rfl (fun K hK => ?_) AllReadyH.nil
            go_simp
            refine (HC8.out _ hHeld.1).mono ?_
            rintro e w10 ⟨rfl, hb10⟩
            go_simp
            refine hK.out _ _ (hold4 pp0 pp1 hX8 gg0 gg1 hb8l (runS hHeld hb10)) (fun hHeld => ?_)
            clear hK K
            refine wpAnyH_take (i := 35) (v := .bool true) rfl (by kernel_rfl) (by kernel_rfl) (by kernel_rfl) (fun _ _ _ h => h) (Or.inl ⟨by kernel_rfl, fun w hSw => by (try dsimp only at hSw); go_simp⟩) hHeld ?_
            refine wpAnyH_take (i := 36) (v := .bool true) rfl (by kernel_rfl) (by kernel_rfl) (by kernel_rfl) (fun _ _ _ h => h) (Or.inl ⟨by kernel_rfl, fun w hSw => by (try dsimp only at hSw); go_simp⟩) hHeld ?_
            refine wpAnyH_take (i := 37) (v := .int .i64 1) rfl (by kernel_rfl) (by kernel_rfl) (by kernel_rfl) (fun _ _ _ h => h) (Or.inl ⟨by kernel_rfl, fun w hSw => by (try dsimp only at hSw); go_simp⟩) hHeld ?_
            refine wpAnyH_take (i := 38) (v := .bool false) rfl (by kernel_rfl) (by kernel_rfl) (by kernel_rfl) (fun _ _ _ h => h) (Or.inl ⟨by kernel_rfl, fun w hSw => by (try dsimp only at hSw); go_simp⟩) hHeld ?_
            refine wpAnyH_take (i := 39) (v := .bool false) rfl (by kernel_rfl) (by kernel_rfl) (by kernel_rfl) (fun _ _ _ h => h) (Or.inl ⟨by kernel_rfl, fun w hSw => by (try dsimp only at hSw); go_simp⟩) hHeld ?_
            refine wpAnyH_take (i := 40) (v := .bool false) rfl (by kernel_rfl) (by kernel_rfl) (by kernel_rfl) (fun _ _ _ h => h) (Or.inl ⟨by kernel_rfl, fun w hSw => by (try dsimp only at hSw); go_simp⟩) hHeld ?_
            refine wpAnyH_done (by kernel_rfl) ?_ _
            have b10 : Below w4.heap.size w4 w10 := b8.trans (hHeld.1.mono b8.size)
            clear hHeld
            go_wp2_with fail
            go_roundw
            case rel => exact ⟨k + 1, by omega, by go_num, b10⟩
            case measure => simp [intOf]; omega
          · simp only [if_true] at hd
            go_upto_region 12 with fail
            refine wp_region_held_drew (S := fun w' => Below w8.heap.size w8 w' ∧ w'.cell? ⟨w1.heap.size, 0, none⟩ = some (.int .i64 bs) ∧ w'.cell? ⟨w1.heap.size, 1, none⟩ = some (.slice (some ⟨bl, ol, none⟩) ls.length c1) ∧ w'.cell? ⟨bl, ol + k * 3, none⟩ = some (.int .i64 la) ∧ w'.cell? ⟨bl, ol + k * 3 + 1, none⟩ = some (.int .i64 lb)) (by kernel_rfl) (hold4 pp0 pp1 hX8 gg0 gg1 hb8l (Below.drew (Below.refl _ _))) (fun hHeld => ?_)
            refine wpAnyH_take (i := 0) (v := .agg #[.int .i64 bs, .slice (some ⟨bl, ol, none⟩) ls.length c1]) rfl (by kernel_rfl) (by kernel_rfl) (by kernel_rfl) (fun _ _ _ h => h) (Or.inl ⟨by kernel_rfl, fun w hSw => by (try dsimp only at hSw); go_simp⟩) hHeld ?_
            refine wpAnyH_take (i := 1) (v := .slice Aa ts.length ca) rfl (by kernel_rfl) (by kernel_rfl) (by kernel_rfl) (fun _ _ _ h => h) (Or.inl ⟨by kernel_rfl, fun w hSw => by (try dsimp only at hSw); go_simp⟩) hHeld ?_
            refine wpAnyH_take (i := 2) (v := .pointer (some ⟨w1.heap.size, 1, none⟩)) rfl (by kernel_rfl) (by kernel_rfl) (by kernel_rfl) (fun _ _ _ h => h) (Or.inl ⟨by kernel_rfl, fun w hSw => by (try dsimp only at hSw); go_simp⟩) hHeld ?_
            refine wpAnyH_take (i := 3) (v := .slice (some ⟨bl, ol, none⟩) ls.length c1) rfl (by kernel_rfl) (by kernel_rfl) (by kernel_rfl) (fun _ _ _ h => h) (Or.inl ⟨by kernel_rfl, fun w hSw => by (try dsimp only at hSw); go_simp⟩) hHeld ?_
            refine wpAnyH_take (i := 4) (v := .int .i64 (k : Int)) rfl (by kernel_rfl) (by kernel_rfl) (by kernel_rfl) (fun _ _ _ h => h) (Or.inl ⟨by kernel_rfl, fun w hSw => by (try dsimp only at hSw); go_simp⟩) hHeld ?_
            refine wpAnyH_take (i := 5) (v := .pointer (some ⟨bl, ol + k * 3, none⟩)) rfl (by kernel_rfl) (by kernel_rfl) (by kernel_rfl) (fun _ _ _ h => h) (Or.inl ⟨by kernel_rfl, fun w hSw => by (try dsimp only at hSw); go_simp⟩) hHeld ?_
            refine wpAnyH_take (i := 6) (v := .pointer (some ⟨bl, ol + k * 3, none⟩)) rfl (by kernel_rfl) (by kernel_rfl) (by kernel_rfl) (fun _ _ _ h => h) (Or.inl ⟨by kernel_rfl, fun w hSw => by (try dsimp only at hSw); go_simp⟩) hHeld ?_
            refine wpAnyH_take (i := 7) (v := .int .i64 la) rfl (by kernel_rfl) (by kernel_rfl) (by kernel_rfl) (fun _ _ _ h => h) (Or.inl ⟨by kernel_rfl, fun w hSw => by (try dsimp only at hSw); go_simp⟩) hHeld ?_
            refine wpAnyH_take (i := 8) (v := .pointer (some ⟨w1.heap.size, 1, none⟩)) rfl (by kernel_rfl) (by kernel_rfl) (by kernel_rfl) (fun _ _ _ h => h) (Or.inl ⟨by kernel_rfl, fun w hSw => by (try dsimp only at hSw); go_simp⟩) hHeld ?_
            refine wpAnyH_take (i := 9) (v := .slice (some ⟨bl, ol, none⟩) ls.length c1) rfl (by kernel_rfl) (by kernel_rfl) (by kernel_rfl) (fun _ _ _ h => h) (Or.inl ⟨by kernel_rfl, fun w hSw => by (try dsimp only at hSw); go_simp⟩) hHeld ?_
            refine wpAnyH_take (i := 10) (v := .int .i64 (k : Int)) rfl (by kernel_rfl) (by kernel_rfl) (by kernel_rfl) (fun _ _ _ h => h) (Or.inl ⟨by kernel_rfl, fun w hSw => by (try dsimp only at hSw); go_simp⟩) hHeld ?_
            refine wpAnyH_take (i := 11) (v := .pointer (some ⟨bl, ol + k * 3, none⟩)) rfl (by kernel_rfl) (by kernel_rfl) (by kernel_rfl) (fun _ _ _ h => h) (Or.inl ⟨by kernel_rfl, fun w hSw => by (try dsimp only at hSw); go_simp⟩) hHeld ?_
            refine wpAnyH_take (i := 12) (v := .pointer (some ⟨bl, ol + k * 3 + 1, none⟩)) rfl (by kernel_rfl) (by kernel_rfl) (by kernel_rfl) (fun _ _ _ h => h) (Or.inl ⟨by kernel_rfl, fun w hSw => by (try dsimp only at hSw); go_simp⟩) hHeld ?_
            refine wpAnyH_take (i := 13) (v := .int .i64 lb) rfl (by kernel_rfl) (by kernel_rfl) (by kernel_rfl) (fun _ _ _ h => h) (Or.inl ⟨by kernel_rfl, fun w hSw => by (try dsimp only at hSw); go_simp⟩) hHeld ?_
            refine wpAnyH_ready (rs := [14]) (by kernel_rfl) (by simp) ?_
            refine AllReadyH.cons rfl (fun K hK => ?_) AllReadyH.nil
            go_simp
            refine (HC8.out _ hHeld.1).mono ?_
            rintro e w9 ⟨rfl, hb9⟩
            go_simp
            refine hK.out _ _ (hold4 pp0 pp1 hX8 gg0 gg1 hb8l (runS hHeld hb9)) (fun hHeld => ?_)
            clear hK K
            refine wpAnyH_take (i := 15) (v := .bool true) rfl (by kernel_rfl) (by kernel_rfl) (by kernel_rfl) (fun _ _ _ h => h) (Or.inl ⟨by kernel_rfl, fun w hSw => by (try dsimp only at hSw); go_simp⟩) hHeld ?_
            refine wpAnyH_take (i := 16) (v := .int .i64 0) rfl (by kernel_rfl) (by kernel_rfl) (by kernel_rfl) (fun _ _ _ h => h) (Or.inl ⟨by kernel_rfl, fun w hSw => by (try dsimp only at hSw); go_simp⟩) hHeld ?_
            refine wpAnyH_take (i := 17) (v := .bool false) rfl (by kernel_rfl) (by kernel_rfl) (by kernel_rfl) (fun _ _ _ h => h) (Or.inl ⟨by kernel_rfl, fun w hSw => by (try dsimp only at hSw); go_simp⟩) hHeld ?_
            refine wpAnyH_take (i := 18) (v := .bool false) rfl (by kernel_rfl) (by kernel_rfl) (by kernel_rfl) (fun _ _ _ h => h) (Or.inl ⟨by kernel_rfl, fun w hSw => by (try dsimp only at hSw); go_simp⟩) hHeld ?_
            refine wpAnyH_take (i := 19) (v := .bool false) rfl (by kernel_rfl) (by kernel_rfl) (by kernel_rfl) (fun _ _ _ h => h) (Or.inl ⟨by kernel_rfl, fun w hSw => by (try dsimp only at hSw); go_simp⟩) hHeld ?_
            refine wpAnyH_take (i := 20) (v := .agg #[.int .i64 bs, .slice (some ⟨bl, ol, none⟩) ls.length c1]) rfl (by kernel_rfl) (by kernel_rfl) (by kernel_rfl) (fun _ _ _ h => h) (Or.inl ⟨by kernel_rfl, fun w hSw => by (try dsimp only at hSw); go_simp⟩) hHeld ?_
            refine wpAnyH_take (i := 21) (v := .slice Aa ts.length ca) rfl (by kernel_rfl) (by kernel_rfl) (by kernel_rfl) (fun _ _ _ h => h) (Or.inl ⟨by kernel_rfl, fun w hSw => by (try dsimp only at hSw); go_simp⟩) hHeld ?_
            refine wpAnyH_take (i := 22) (v := .pointer (some ⟨w1.heap.size, 1, none⟩)) rfl (by kernel_rfl) (by kernel_rfl) (by kernel_rfl) (fun _ _ _ h => h) (Or.inl ⟨by kernel_rfl, fun w hSw => by (try dsimp only at hSw); go_simp⟩) hHeld ?_
            refine wpAnyH_take (i := 23) (v := .slice (some ⟨bl, ol, none⟩) ls.length c1) rfl (by kernel_rfl) (by kernel_rfl) (by kernel_rfl) (fun _ _ _ h => h) (Or.inl ⟨by kernel_rfl, fun w hSw => by (try dsimp only at hSw); go_simp⟩) hHeld ?_
            refine wpAnyH_take (i := 24) (v := .int .i64 (k : Int)) rfl (by kernel_rfl) (by kernel_rfl) (by kernel_rfl) (fun _ _ _ h => h) (Or.inl ⟨by kernel_rfl, fun w hSw => by (try dsimp only at hSw); go_simp⟩) hHeld ?_
            refine wpAnyH_take (i := 25) (v := .pointer (some ⟨bl, ol + k * 3, none⟩)) rfl (by kernel_rfl) (by kernel_rfl) (by kernel_rfl) (fun _ _ _ h => h) (Or.inl ⟨by kernel_rfl, fun w hSw => by (try dsimp only at hSw); go_simp⟩) hHeld ?_
            refine wpAnyH_take (i := 26) (v := .pointer (some ⟨bl, ol + k * 3, none⟩)) rfl (by kernel_rfl) (by kernel_rfl) (by kernel_rfl) (fun _ _ _ h => h) (Or.inl ⟨by kernel_rfl, fun w hSw => by (try dsimp only at hSw); go_simp⟩) hHeld ?_
            refine wpAnyH_take (i := 27) (v := .int .i64 la) rfl (by kernel_rfl) (by kernel_rfl) (by kernel_rfl) (fun _ _ _ h => h) (Or.inl ⟨by kernel_rfl, fun w hSw => by (try dsimp only at hSw); go_simp⟩) hHeld ?_
            refine wpAnyH_take (i := 28) (v := .pointer (some ⟨w1.heap.size, 1, none⟩)) rfl (by kernel_rfl) (by kernel_rfl) (by kernel_rfl) (fun _ _ _ h => h) (Or.inl ⟨by kernel_rfl, fun w hSw => by (try dsimp only at hSw); go_simp⟩) hHeld ?_
            refine wpAnyH_take (i := 29) (v := .slice (some ⟨bl, ol, none⟩) ls.length c1) rfl (by kernel_rfl) (by kernel_rfl) (by kernel_rfl) (fun _ _ _ h => h) (Or.inl ⟨by kernel_rfl, fun w hSw => by (try dsimp only at hSw); go_simp⟩) hHeld ?_
            refine wpAnyH_take (i := 30) (v := .int .i64 (k : Int)) rfl (by kernel_rfl) (by kernel_rfl) (by kernel_rfl) (fun _ _ _ h => h) (Or.inl ⟨by kernel_rfl, fun w hSw => by (try dsimp only at hSw); go_simp⟩) hHeld ?_
            refine wpAnyH_take (i := 31) (v := .pointer (some ⟨bl, ol + k * 3, none⟩)) rfl (by kernel_rfl) (by kernel_rfl) (by kernel_rfl) (fun _ _ _ h => h) (Or.inl ⟨by kernel_rfl, fun w hSw => by (try dsimp only at hSw); go_simp⟩) hHeld ?_
            refine wpAnyH_take (i := 32) (v := .pointer (some ⟨bl, ol + k * 3 + 1, none⟩)) rfl (by kernel_rfl) (by kernel_rfl) (by kernel_rfl) (fun _ _ _ h => h) (Or.inl ⟨by kernel_rfl, fun w hSw => by (try dsimp only at hSw); go_simp⟩) hHeld ?_
            refine wpAnyH_take (i := 33) (v := .int .i64 lb) rfl (by kernel_rfl) (by kernel_rfl) (by kernel_rfl) (fun _ _ _ h => h) (Or.inl ⟨by kernel_rfl, fun w hSw => by (try dsimp only at hSw); go_simp⟩) hHeld ?_
            refine wpAnyH_ready (rs := [34]) (by kernel_rfl) (by simp) ?_
            refine AllReadyH.cons rfl (fun K hK => ?_) AllReadyH.nil
            go_simp
            refine (HC8.out _ hHeld.1).mono ?_
            rintro e w10 ⟨rfl, hb10⟩
            go_simp
            refine hK.out _ _ (hold4 pp0 pp1 hX8 gg0 gg1 hb8l (runS hHeld hb10)) (fun hHeld => ?_)
            clear hK K
            refine wpAnyH_take (i := 35) (v := .bool false) rfl (by kernel_rfl) (by kernel_rfl) (by kernel_rfl) (fun _ _ _ h => h) (Or.inl ⟨by kernel_rfl, fun w hSw => by (try dsimp only at hSw); go_simp⟩) hHeld ?_
            refine wpAnyH_take (i := 36) (v := .bool false) rfl (by kernel_rfl) (by kernel_rfl) (by kernel_rfl) (fun _ _ _ h => h) (Or.inl ⟨by kernel_rfl, fun w hSw => by (try dsimp only at hSw); go_simp⟩) hHeld ?_
            refine wpAnyH_take (i := 37) (v := undef) rfl (by kernel_rfl) (by kernel_rfl) (by kernel_rfl) (fun _ _ _ h => h) (Or.inr ⟨by kernel_rfl, rfl⟩) hHeld ?_
            refine wpAnyH_take (i := 38) (v := undef) rfl (by kernel_rfl) (by kernel_rfl) (by kernel_rfl) (fun _ _ _ h => h) (Or.inr ⟨by kernel_rfl, rfl⟩) hHeld ?_
            refine wpAnyH_take (i := 39) (v := .bool false) rfl (by kernel_rfl) (by kernel_rfl) (by kernel_rfl) (fun _ _ _ h => h) (Or.inl ⟨by kernel_rfl, fun w hSw => by (try dsimp only at hSw); go_simp⟩) hHeld ?_
            refine wpAnyH_take (i := 40) (v := .bool false) rfl (by kernel_rfl) (by kernel_rfl) (by kernel_rfl) (fun _ _ _ h => h) (Or.inl ⟨by kernel_rfl, fun w hSw => by (try dsimp only at hSw); go_simp⟩) hHeld ?_
            refine wpAnyH_done (by kernel_rfl) ?_ _
            have b10 : Below w4.heap.size w4 w10 := b8.trans (hHeld.1.mono b8.size)
            clear hHeld
            go_wp2_with fail
            go_roundw
            case rel => exact ⟨k + 1, by omega, by go_num, b10⟩
            case measure => simp [intOf]; omega
        · go_wp2_with fail
          refine (alive_any _).mono ?_
          rintro e w5 ⟨rfl, hb5⟩
          go_wp2
          go_ret
          exact ⟨rfl, b5.trans (hb5.mono b5.size)⟩
  · have hl2 : (1048576 : Int) < (n : Int) := by omega
    go_enter Tryd.func4, Tryd.ntmps4
    go_wp2
    go_ret
    exact ⟨rfl, Below.refl _ _⟩
end Go.Proofs.YtlofhkhfomhdaaaDoor
