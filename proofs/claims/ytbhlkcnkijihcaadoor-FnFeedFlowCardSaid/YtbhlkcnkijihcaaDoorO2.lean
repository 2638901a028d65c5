/- FnLineFlow: the walk. -/
import Derived.Test.YtbhlkcnkijihcaaDoorY9
import Derived.Test.YtbhlkcnkijihcaaDoorO1
import Derived.Test.YtbhlkcnkijihcaaDoorO0
import Derived.Test.YtbhlkcnkijihcaaDoorC7
import Derived.Deep.RegionHeld3
namespace Go.Proofs.YtbhlkcnkijihcaaDoor
open Go.ChangeShapes Go.WideShapes Go.ChangeAt Go.RowKit

/-- What a law's body holds on to: what was drawn, as it was drawn. -/
structure LawSt (w W : World) (X : Nat) (bs : Int) (A1 : Option Addr) (c1 : Nat) (ls : List L3) (A2 : Option Addr) (ts : List Bool) (A3 : Option Addr) (us : List U2) : Prop where
  bel : Below w.heap.size w W
  net : IsBlk W X 25 #[.int .i64 bs, .slice A1 ls.length c1]
  row : RowL W A1 ls.length ls
  tr : RowT W A2 ts.length ts
  bu : RowU W A3 us.length us
section
variable {w W W' : World} {X : Nat} {bs : Int} {A1 : Option Addr} {c1 : Nat} {ls : List L3} {A2 : Option Addr} {ts : List Bool} {A3 : Option Addr} {us : List U2}
theorem LawSt.next (h : LawSt w W X bs A1 c1 ls A2 ts A3 us) (hb : Below W.heap.size W W') : LawSt w W' X bs A1 c1 ls A2 ts A3 us :=
  ⟨h.bel.trans (hb.mono h.bel.size), h.net.keep hb, h.row.below hb, h.tr.below hb, h.bu.below hb⟩
end
theorem lat_same (ls : List L3) (b : Nat) : latN ls b = latB ls b := rfl
theorem holdL {w0 w w' : World} {X b o : Nat} {u v z : Value} (p0 : w.cell? ⟨X, 0, none⟩ = some u) (p1 : w.cell? ⟨X, 1, none⟩ = some v) (hX : X < w.heap.size) (e0 : w.cell? ⟨b, o, none⟩ = some z) (hbe : b < w.heap.size) (h0 : Below w0.heap.size w0 w) (hb : Below w.heap.size w w') :
    Below w0.heap.size w0 w' ∧ w'.cell? ⟨X, 0, none⟩ = some u ∧ w'.cell? ⟨X, 1, none⟩ = some v ∧ w'.cell? ⟨b, o, none⟩ = some z :=
  ⟨h0.trans (hb.mono h0.size), (hb.cell (p := ⟨X, 0, none⟩) hX).trans p0, (hb.cell (p := ⟨X, 1, none⟩) hX).trans p1, (hb.cell (p := ⟨b, o, none⟩) hbe).trans e0⟩
theorem runL {w0 w w' : World} {p : Prop} (h : Below w0.heap.size w0 w ∧ p) (hb : Below w.heap.size w w') : Below w0.heap.size w0 w' := h.1.trans (hb.mono h.1.size)

set_option maxRecDepth 100000 in
set_option maxHeartbeats 8000000 in
theorem lineFlowL_walk (w : World) (A : Option Addr) (n c : Nat) (code : List Int) (hr : RowB w A n code) (hnc : n ≤ c) (hc : c ≤ 9223372036854775807) :
    Calls Tryd.prog 7 #[.slice A n c] w fun e w' => e = .returned (.bool true) ∧ Below w.heap.size w w' := by
  by_cases hlen : n ≤ 1048576
  · go_enter Tryd.func7, Tryd.ntmps7
    go_wp2_with fail
    refine (drawLineFlow_any A n c code _ hr hnc hc).mono ?_
    rintro e w1 ⟨bs, A1, c1, ls, A2, c2, ts, A3, c3, us, line, rfl, hrow, hls, hb0, hb9, hrt, hts, hru, hus, a1⟩
    have hbx := below_bx w1 (.cells #[.int .i64 bs, .slice A1 ls.length c1] 25)
    have S1 := Lib.hid (show LawSt w (w1.alloc (.cells #[.int .i64 bs, .slice A1 ls.length c1] 25)) w1.heap.size bs A1 c1 ls A2 ts A3 us from ⟨a1.alloc a1.size _, IsBlk.new w1 25 #[.int .i64 bs, .slice A1 ls.length c1], hrow.below hbx, hrt.below hbx, hru.below hbx⟩)
    clear hrow hr hrt hru a1 hbx
    have h1 : ls.length ≤ 1048576 := by omega
    have h2 : ts.length ≤ 1048576 := by omega
    have h3 : us.length ≤ 1048576 := by omega
    go_wp2_with fail
    refine (lineFlow_any bs A1 ls.length c1 ls A2 ts.length c2 ts A3 us.length c3 us line _ h1 S1.out.row h2 S1.out.tr h3 S1.out.bu).mono ?_
    rintro e w2 ⟨rfl, hb2⟩
    have S2 := Lib.hid (S1.out.next hb2)
    obtain ⟨p0, p1, _, _⟩ := S2.out.net.two
    clear S1 hb2
    generalize w1.heap.size = X at *
    go_wp2_with fail
    refine (specLineFlow_any bs A1 ls.length c1 ls A2 ts.length c2 ts A3 us.length c3 us line _ h1 S2.out.row h2 S2.out.tr h3 S2.out.bu).mono ?_
    rintro e w3 ⟨rfl, hb3⟩
    have S3 := Lib.hid (S2.out.next hb3)
    clear S2 hb3 p0 p1
    obtain ⟨p0, p1, _, _⟩ := S3.out.net.two
    go_wp2_with fail
    refine (specRadial_any bs A1 ls.length c1 ls A2 ts.length c2 ts A3 us.length c3 us _ h1 S3.out.row h2 S3.out.tr h3 S3.out.bu).mono ?_
    rintro e w5 ⟨rfl, hb5⟩
    have S5 := Lib.hid (S3.out.next hb5)
    clear S3 hb5 p0 p1
    obtain ⟨p0, p1, _, _⟩ := S5.out.net.two
    cases hx : radF bs ls ts us
    · rw [lfl_bad hx]
      go_wp2_with fail
      refine (alive_any _).mono ?_
      rintro e w6 ⟨rfl, hb6⟩
      go_wp2
      go_ret
      exact ⟨rfl, S5.out.bel.trans (hb6.mono S5.out.bel.size)⟩
    · have ho := (radF_iff.1 hx).1
      have hbs := okU_bs ho
      obtain ⟨nb, rfl⟩ := Int.eq_ofNat_of_zero_le (show 0 ≤ bs by omega)
      have hnb : nb ≤ 8 := by omega
      have hul : us.length = nb := by have := busesOk_len (okU_bu ho); omega
      have htl : ts.length = ls.length ∧ ts.length ≤ 10 := by have := stOk_len (okU_st ho); omega
      have HV := Lib.hid (stOk_net (okU_st ho))
      have HBU := Lib.hid (okU_bu ho)
      have HX := Lib.hid hx
      have HLN := Lib.hid (fun (k : Nat) (hk : k < ts.length) => lfl_at hx hk)
      have HFL := Lib.hid (fun (b : Nat) (hb : b < nb) => flow_law hx hb)
      have HNN := Lib.hid (fun (h0 : 0 ≤ line) (h1 : line < ts.length) => lfl_nn hx h0 h1)
      have HUL := Lib.hid hul
      have HTL := Lib.hid htl.1
      have htl10 := htl.2
      clear ho hx hul htl
      generalize hZ : lflF (nb : Int) ls ts us line = Z at *
      clear hZ
      go_wp2
      go_loopw [8] (fun i wr => ∃ k : Nat, k ≤ nb ∧ i = .int .i64 k ∧ Below w5.heap.size w5 wr) (fun i _ => nb - (intOf i).toNat)
      case atStart => exact ⟨0, by omega, rfl, Below.refl _ _⟩
      case round =>
        obtain ⟨b, hk, rfl, hbel⟩ := hrel
        have S7 := Lib.hid (S5.out.next hbel)
        clear p0 p1
        obtain ⟨p0, p1, _, _⟩ := S7.out.net.two
        by_cases hlt : b < nb
        · have hltu : b < us.length := by have := HUL.out; omega
          have ii0 : (0 : Int) ≤ (b : Int) := by omega
          have ii1 : (b : Int) < (us.length : Int) := by omega
          go_wp2_with fail
          refine (parentLine_any nb A1 ls.length c1 ls A2 ts.length c2 ts A3 us.length c3 us b _ h1 S7.out.row h2 S7.out.tr h3 S7.out.bu).mono ?_
          rintro e w8 ⟨rfl, hb8⟩
          have S8 := Lib.hid (S7.out.next hb8)
          have hbel8 := hbel.trans (hb8.mono hbel.size)
          clear S7 hb8 p0 p1
          obtain ⟨p0, p1, _, _⟩ := S8.out.net.two
          obtain ⟨b', off', u, hA3, hb', hku, _, g1⟩ := S8.out.bu.at_ hltu
          have HLD := Lib.hid (ld_at hku)
          subst hA3
          clear hku
          go_wp2_with fail
          refine (linesAt_any nb A1 ls.length c1 ls b _ h1 S8.out.row).mono ?_
          rintro e w9 ⟨v9, rfl, hO9, hb9'⟩
          rw [latN_eq HV.out] at hO9
          have S9 := Lib.hid (S8.out.next hb9')
          have hbel9 := hbel8.trans (hb9'.mono hbel8.size)
          obtain ⟨A9, c9, rfl, hZ9⟩ := hO9.sl
          have HZ9 := Lib.hid hZ9
          rw [ofN_len] at HZ9 ⊢
          have HPL := Lib.hid (show ∃ P, plnF nb ls ts us b = P ∧ P = hd1 (wayF ls ts us b) from ⟨_, rfl, by rw [plnF, if_pos ⟨HX.out, by simp [inB]; omega⟩, Int.toNat_natCast]⟩)
          have HSUM := Lib.hid (HFL.out b hlt)
          have hLL : (latN ls b).length ≤ 10 := Nat.le_trans (latN_len ls b) (by have := HTL.out; omega)
          have HMEM := Lib.hid (fun (k : Nat) (h : k ∈ latN ls b) => show k < ts.length by
            obtain ⟨l, hl, _⟩ := latN_mem h
            have := (List.getElem?_eq_some_iff.1 hl).1
            have := HTL.out
            omega)
          have HWANT := Lib.hid (show wantF ls ts us nb b = u.2 + lsum (flQ ls ts us nb b) (latN ls b) (latN ls b).length by rw [wantF, HLD.out]; rfl)
          have hu2 : 0 ≤ u.2 ∧ u.2 ≤ 999 := by have := ld_bd HBU.out b; rw [HLD.out] at this; exact this
          clear S8 hb9' hO9 hZ9 p0 p1 g1 hbel8
          obtain ⟨P, hP1, hP2⟩ := HPL.out
          have HP2 := Lib.hid hP2
          have HP1 := Lib.hid hP1
          rw [hP1]
          clear hP1 hP2
          generalize latN ls b = lat at *
          go_wp2
          go_loopw [10, 12] (fun s i wx => ∃ j : Nat, j ≤ lat.length ∧ i = .int .i64 j ∧ s = .int .i64 (u.2 + lsum (flQ ls ts us nb b) lat j) ∧ Below w9.heap.size w9 wx) (fun _ i _ => lat.length - (intOf i).toNat)
          case atStart => exact ⟨0, by omega, rfl, by simp [lsum], Below.refl _ _⟩
          case round =>
            obtain ⟨j, hj, rfl, rfl, hbelx⟩ := hrel
            have SX := Lib.hid (S9.out.next hbelx)
            have HZX := Lib.hid (HZ9.out.below hbelx)
            obtain ⟨p0, p1, _, _⟩ := SX.out.net.two
            have hlb := lsum_bd (f := flQ ls ts us nb b) (hs := lat) (M := 7992) (fun h _ => flQ_bd HBU.out hnb h) j hj
            by_cases hjl : j < lat.length
            · obtain ⟨bl, offl, z, hA9, hbl, hkz, e0⟩ := HZX.out.at_ hjl
              have hjk : lat[j]? = some (lat[j]'hjl) := List.getElem?_eq_getElem hjl
              generalize lat[j]'hjl = k at hjk
              rw [ofN_get hjk] at hkz
              injection hkz with hkz
              subst hkz hA9
              have hkt := HMEM.out k (List.mem_of_getElem? hjk)
              obtain ⟨bt, offt, t, hA2, hbt, htk, g2⟩ := SX.out.tr.at_ hkt
              subst hA2
              have HNX := Lib.hid (lsum_succ (f := flQ ls ts us nb b) hjk)
              have HLNK := Lib.hid (HLN.out k hkt)
              have hfb := flo_bd (ls := ls) (ts := ts) HBU.out hnb k
              have HTK := Lib.hid htk
              have jj0 : (0 : Int) ≤ (j : Int) := by omega
              have jj1 : (j : Int) < (lat.length : Int) := by omega
              have jj2 : (0 : Int) ≤ (k : Int) := by omega
              have jj3 : (k : Int) < (ts.length : Int) := by omega
              have hXl := SX.out.net.lt
              clear hjk htk
              generalize hL : lsum (flQ ls ts us nb b) lat j = L at *
              clear hL
              cases t
              · have HQ := Lib.hid (show flQ ls ts us nb b k = 0 by rw [flQ, if_neg (by rw [HTK.out]; simp)])
                go_wp2
                go_roundw
                case rel => exact ⟨j + 1, by omega, by go_num, by rw [HNX.out, HQ.out, Int.add_zero], hbelx⟩
                case measure => simp [intOf]; omega
              · by_cases hp : (k : Int) = P
                · have HQ := Lib.hid (show flQ ls ts us nb b k = 0 by rw [flQ, if_neg (by rw [← HP2.out]; exact fun h => h.2 hp)])
                  have hpb : ((k : Int) == P) = true := by simpa using hp
                  clear hp
                  go_wp2
                  go_roundw
                  case rel => exact ⟨j + 1, by omega, by go_num, by rw [HNX.out, HQ.out, Int.add_zero], hbelx⟩
                  case measure => simp [intOf]; omega
                · have HQ := Lib.hid (show flQ ls ts us nb b k = flo ls ts us nb k by rw [flQ, if_pos ⟨HTK.out, by rw [← HP2.out]; exact hp⟩])
                  have hpb : ((k : Int) == P) = false := by simpa using hp
                  have CL := Lib.hid (fun (W : World) (hW : Below w9.heap.size w9 W) => show Calls Tryd.prog 34 #[.agg #[.int .i64 (nb : Int), .slice A1 ls.length c1], .slice (some ⟨bt, offt, none⟩) ts.length c2, .slice (some ⟨b', off', none⟩) us.length c3, .int .i64 (k : Int)] W (fun e w' => e = .returned (.int .i64 (flo ls ts us nb k)) ∧ Below W.heap.size W w') by
                    rw [← HLNK.out]
                    exact lineFlow_any nb A1 ls.length c1 ls _ ts.length c2 ts _ us.length c3 us k W h1 (S9.out.next hW).row h2 (S9.out.next hW).tr h3 (S9.out.next hW).bu)
                  have hw1 : IntKind.i64.wrap (u.2 + L + flo ls ts us nb k) = u.2 + L + flo ls ts us nb k := IntWalk.i64_in _ (by omega)
                  clear hp
                  generalize flo ls ts us nb k = FK at *
                  go_wp2
                  go_region_held3 (fun w' => Below w9.heap.size w9 w' ∧ w'.cell? ⟨X, 0, none⟩ = some (.int .i64 (nb : Int)) ∧ w'.cell? ⟨X, 1, none⟩ = some (.slice A1 ls.length c1) ∧ w'.cell? ⟨bl, offl + j, none⟩ = some (.int .i64 (k : Int)))
                    (first | exact holdL p0 p1 hXl e0 hbl hbelx hB5 | exact holdL p0 p1 hXl e0 hbl hbelx (Below.refl _ _) | exact holdL p0 p1 hXl e0 hbl hbelx (Below.drew (Below.refl _ _)))
                    (first
                      | (go_at_call 34; (with_reducible refine (CL.out _ (And.left (by assumption))).mono ?_); rintro e wy ⟨rfl, hby⟩; have hB5 : Below wr.heap.size wr wy := (Below.drew (Below.refl _ _)).trans hby))
                  go_wp2
                  go_roundw
                  case rel => exact ⟨j + 1, by omega, by go_num, by rw [HNX.out, HQ.out]; first | rfl | (congr 1; omega), hbelx.trans (hB5.mono hbelx.size)⟩
                  case measure => simp [intOf]; omega
            · obtain rfl : j = lat.length := by omega
              rw [← HWANT.out]
              have hbw := hbel9.trans (hbelx.mono hbel9.size)
              rcases HSUM.out with hs1 | ⟨hs1, hs2⟩ | ⟨hs1, hs2, hs3⟩
              · go_wp2_with fail
                refine (fedBy_any nb A1 ls.length c1 ls A2 ts.length c2 ts _ us.length c3 us b _ h1 SX.out.row h2 SX.out.tr h3 SX.out.bu).mono ?_
                rintro e wy ⟨rfl, hby⟩
                rw [hs1]
                go_wp2
                go_roundw
                case rel => exact ⟨b + 1, by omega, by go_num, hbw.trans (hby.mono hbw.size)⟩
                case measure => simp [intOf]; omega
              · have HS1 := Lib.hid hs1
                have HS2 := Lib.hid hs2
                have hbm : ((b : Int) == -1) = false := by rw [beq_eq_false_iff_ne]; omega
                clear hs1 hs2
                go_wp2_with fail
                refine (fedBy_any nb A1 ls.length c1 ls A2 ts.length c2 ts _ us.length c3 us b _ h1 SX.out.row h2 SX.out.tr h3 SX.out.bu).mono ?_
                rintro e wy ⟨rfl, hby⟩
                rw [HS1.out]
                have SY := Lib.hid (SX.out.next hby)
                have hbwy := hbw.trans (hby.mono hbw.size)
                clear p0 p1
                obtain ⟨p0, p1, _, _⟩ := SY.out.net.two
                go_wp2_with fail
                refine (feedFlow_any nb A1 ls.length c1 ls A2 ts.length c2 ts _ us.length c3 us b _ h1 SY.out.row h2 SY.out.tr h3 SY.out.bu).mono ?_
                rintro e wz ⟨rfl, hbz⟩
                rw [HS2.out]
                clear p0 p1
                go_wp2
                go_roundw
                case rel => exact ⟨b + 1, by omega, by go_num, hbwy.trans (hbz.mono hbwy.size)⟩
                case measure => simp [intOf]; omega
              · have HS3 := Lib.hid hs3
                obtain ⟨FB, hFB⟩ : ∃ z, fbyF nb ls ts us b = z := ⟨_, rfl⟩
                rw [hFB] at hs1 hs2
                have HFB := Lib.hid hFB
                have hbm : (FB == -1) = false := beq_eq_false_iff_ne.2 hs1
                have hbn : (FB == (b : Int)) = false := beq_eq_false_iff_ne.2 hs2
                clear hs1 hs2 hs3 hFB
                go_wp2_with fail
                refine (fedBy_any nb A1 ls.length c1 ls A2 ts.length c2 ts _ us.length c3 us b _ h1 SX.out.row h2 SX.out.tr h3 SX.out.bu).mono ?_
                rintro e wy ⟨rfl, hby⟩
                rw [HFB.out]
                have SY := Lib.hid (SX.out.next hby)
                have hbwy := hbw.trans (hby.mono hbw.size)
                clear p0 p1
                obtain ⟨p0, p1, _, _⟩ := SY.out.net.two
                go_wp2_with fail
                refine (lineFlow_any nb A1 ls.length c1 ls A2 ts.length c2 ts _ us.length c3 us P _ h1 SY.out.row h2 SY.out.tr h3 SY.out.bu).mono ?_
                rintro e wz ⟨rfl, hbz⟩
                rw [← HP1.out, HS3.out]
                clear p0 p1
                go_wp2
                go_roundw
                case rel => exact ⟨b + 1, by omega, by go_num, hbwy.trans (hbz.mono hbwy.size)⟩
                case measure => simp [intOf]; omega
        · have b9 := S7.out.bel
          by_cases hneg : line < 0
          · by_cases hZn : 0 ≤ Z
            all_goals
              go_wp2
              go_ret
              exact ⟨rfl, b9⟩
          · by_cases hge : (ts.length : Int) ≤ line
            · by_cases hZn : 0 ≤ Z
              all_goals
                go_wp2
                go_ret
                exact ⟨rfl, b9⟩
            · have hZn := HNN.out (by omega) (by omega)
              go_wp2
              go_ret
              exact ⟨rfl, b9⟩
  · have hl2 : (1048576 : Int) < (n : Int) := by omega
    go_enter Tryd.func7, Tryd.ntmps7
    go_wp2
    go_ret
    exact ⟨rfl, Below.refl _ _⟩
end Go.Proofs.YtbhlkcnkijihcaaDoor
