/- Switching orders: FnOrderRun: the walk. -/
import Derived.Test.YtfedffekbemcoaaDoorOrQ
import Derived.Test.YtfedffekbemcoaaDoorOr6
import Derived.Test.YtfedffekbemcoaaDoorOr7
import Derived.Test.YtfedffekbemcoaaDoorOrA
import Derived.Test.YtfedffekbemcoaaDoorD3
import Derived.Test.YtfedffekbemcoaaDoorBDB
import Derived.Deep.DeepCutAuto
import Derived.Deep.RegionWith
namespace Go.Proofs.YtfedffekbemcoaaDoor
open Go.ChangeShapes Go.WideShapes Go.ChangeAt Go.RowKit

theorem RowP.take {w : World} {A : Option Addr} {n : Nat} {us : List TP} (h : RowP w A n us) {m : Nat} (hm : m ≤ n) : RowP w A m (us.take m) := by
  refine ⟨by rw [List.length_take, h.1]; omega, fun hp => ?_⟩
  obtain ⟨b, off, e, hlt, hc⟩ := h.2 (by omega)
  refine ⟨b, off, e, hlt, fun k u hk => hc k u ?_⟩
  have hkm : k < m := by have := (List.getElem?_eq_some_iff.1 hk).1; rw [List.length_take] at this; omega
  rw [List.getElem?_take_of_lt hkm] at hk; exact hk
/-- OrderRun and OrderBack, their answers as rows. -/
theorem orderRun_row (bs : Int) (A : Option Addr) (n c : Nat) (ls : List L3) (B : Option Addr) (m d : Nat) (ts : List Bool) (C : Option Addr) (q r : Nat) (ss : List TP) (xs : List Bool) (k : Nat) (he : runO bs ls ts ss = (xs, k)) (w : World) (hn : n ≤ 1048576) (hr : RowL w A n ls) (hm : m ≤ 1048576) (hrt : RowT w B m ts) (hq : q ≤ 1048576) (hrs : RowP w C q ss) :
    Calls Tryd.prog 25 #[.agg #[.int .i64 bs, .slice A n c], .slice B m d, .slice C q r] w fun e w' => ∃ Az cz, e = .returned (.tuple #[.slice Az xs.length cz, .int .i64 (k : Int)]) ∧ RowT w' Az xs.length xs ∧ Below w.heap.size w w' := by
  have h := orderRun_any bs A n c ls B m d ts C q r ss w hn hr hm hrt hq hrs
  rw [he] at h
  refine h.mono ?_
  rintro e w' ⟨v, rfl, ho, hb⟩
  obtain ⟨Az, cz, rfl, _, hz⟩ := ho.row
  exact ⟨Az, cz, rfl, hz, hb⟩
theorem orderBack_row (C : Option Addr) (q r : Nat) (ss ys : List TP) (he : backF ss = ys) (w : World) (hq : q ≤ 1048576) (hrs : RowP w C q ss) (k : Nat) (hk : ys.length = k) :
    Calls Tryd.prog 31 #[.slice C q r] w fun e w' => ∃ Cy cy, e = .returned (.slice Cy k cy) ∧ RowP w' Cy k ys ∧ Below w.heap.size w w' := by
  subst he hk
  refine (orderBack_any C q r ss w hq hrs).mono ?_
  rintro e w' ⟨v, rfl, ho, hb⟩
  obtain ⟨Cy, cy, rfl, hy⟩ := ho.row
  exact ⟨Cy, cy, rfl, hy, hb⟩
theorem OwnP.cap {w : World} {base n c : Nat} {A : Option Addr} {us : List TP} (h : OwnP w base (.slice A n c) us) : n ≤ c := by
  rcases h.2 with ⟨h1, _⟩ | ⟨g, cap, cur, h1, _, _, h2, _⟩
  · injection h1 with _ h3 h4; omega
  · injection h1 with _ h3 h4; omega
set_option maxRecDepth 100000 in
set_option maxHeartbeats 4000000 in
theorem orderRun_walk (w : World) (A : Option Addr) (n c : Nat) (code : List Int) (hr : RowB w A n code) (hnc : n ≤ c) (hc : c ≤ 9223372036854775807) :
    Calls Tryd.prog 7 #[.slice A n c] w fun e w' => e = .returned (.bool true) ∧ Below w.heap.size w w' := by
  by_cases hlen : n ≤ 1048576
  · have hlen' : ¬ (1048576 : Int) < (n : Int) := by omega
    go_enter Tryd.func7, Tryd.ntmps7
    go_wp2_with fail
    refine (drawOrderRun_any A n c code _ hr hnc hc).mono ?_
    rintro e w1 ⟨bs, An, cn, ls, B, d, ts, C, r, us, rfl, hRL, hll, hRT, htl, hO, hul, b1⟩
    have hcap := hO.cap
    obtain ⟨C', r', eC, hRP⟩ := hO.row
    injection eC with e1 e2 e3
    clear e2
    subst e1 e3
    have hbx := below_bx w1 (.cells #[.int .i64 bs, .slice An ls.length cn] 41)
    have B1 := Lib.hid (b1.alloc b1.size (.cells #[.int .i64 bs, .slice An ls.length cn] 41))
    have K1 := Lib.hid (IsBlk.new w1 41 #[.int .i64 bs, .slice An ls.length cn])
    have RL := Lib.hid (hRL.below hbx)
    have RT := Lib.hid (hRT.below hbx)
    have RP := Lib.hid (hRP.below hbx)
    have hsz := World.size_alloc w1 (.cells #[.int .i64 bs, .slice An ls.length cn] 41)
    have HSZ := Lib.hid hsz
    clear hr hRL hRT hRP hO b1 hbx hsz
    obtain ⟨p0, p1, p2, p3⟩ := K1.out.two
    go_wp2_with fail
    generalize w1.alloc (.cells #[.int .i64 bs, .slice An ls.length cn] 41) = w2 at *
    generalize w1.heap.size = X at *
    refine (orderRun_any bs An ls.length cn ls B ts.length d ts C us.length r us w2 (by omega) RL.out (by omega) RT.out (by omega) RP.out).mono ?_
    have hxl := runO_len bs ls ts us
    have HRun := Lib.hid (show runO bs ls ts us = runO bs ls ts us from rfl)
    generalize hrun : runO bs ls ts us = rr at *
    obtain ⟨xs, m⟩ := rr
    have HR := Lib.hid hrun
    clear hrun HRun
    simp only at hxl
    rintro e w3 ⟨v3, rfl, hV3, hb3⟩
    obtain ⟨Ax, cx, rfl, _, hRx⟩ := hV3.row
    have B3 := Lib.hid (B1.out.trans (hb3.mono B1.out.size))
    have K3 := Lib.hid (K1.out.keep hb3)
    have RL3 := Lib.hid (RL.out.below hb3)
    have RT3 := Lib.hid (RT.out.below hb3)
    have RP3 := Lib.hid (RP.out.below hb3)
    have RX3 := Lib.hid hRx
    clear hV3 hb3 hRx p0 p1 p2 p3 B1 K1 RL RT RP
    obtain ⟨p0, p1, p2, p3⟩ := K3.out.two
    go_wp2_with fail
    have hc := specOrderRun_any bs An ls.length cn ls B ts.length d ts C us.length r us w3 (by omega) RL3.out (by omega) RT3.out (by omega) RP3.out
    rw [HR.out] at hc
    refine hc.mono ?_
    rintro e w4 ⟨v4, rfl, hV4, hb4⟩
    obtain ⟨Ay, cy, rfl, _, hRy⟩ := hV4.row
    have B4 := Lib.hid (B3.out.trans (hb4.mono B3.out.size))
    have K4 := Lib.hid (K3.out.keep hb4)
    have RL4 := Lib.hid (RL3.out.below hb4)
    have RT4 := Lib.hid (RT3.out.below hb4)
    have RP4 := Lib.hid (RP3.out.below hb4)
    have RX4 := Lib.hid (RX3.out.below hb4)
    have RY4 := Lib.hid hRy
    clear hc hV4 hb4 hRy p0 p1 p2 p3 B3 K3 RL3 RT3 RP3 RX3
    have hmm : ((m : Int) != (m : Int)) = false := by simp
    go_wp2_with fail
    refine (sameBools_same Ax Ay xs.length cx cy xs _ (by omega) RX4.out RY4.out).mono ?_
    rintro e w5 ⟨rfl, hb5⟩
    have B5 := Lib.hid (B4.out.trans (hb5.mono B4.out.size))
    have K5 := Lib.hid (K4.out.keep hb5)
    have RL5 := Lib.hid (RL4.out.below hb5)
    have RT5 := Lib.hid (RT4.out.below hb5)
    have RP5 := Lib.hid (RP4.out.below hb5)
    have RX5 := Lib.hid (RX4.out.below hb5)
    clear hb5 B4 K4 RL4 RT4 RP4 RX4 RY4 hmm
    obtain ⟨p0, p1, p2, p3⟩ := K5.out.two
    go_wp2_with fail
    refine (specStateValid_any bs An ls.length cn ls B ts.length d _ (by omega) RL5.out (by omega)).mono ?_
    rintro e w6 ⟨rfl, hb6⟩
    have B6 := Lib.hid (B5.out.trans (hb6.mono B5.out.size))
    have K6 := Lib.hid (K5.out.keep hb6)
    have RL6 := Lib.hid (RL5.out.below hb6)
    have RT6 := Lib.hid (RT5.out.below hb6)
    have RP6 := Lib.hid (RP5.out.below hb6)
    have RX6 := Lib.hid (RX5.out.below hb6)
    clear hb6 B5 K5 RL5 RT5 RP5 RX5 p0 p1 p2 p3
    cases hs : stOk bs ls ts.length
    · have HE := HR.out
      rw [runO_no (by rw [hs]; rfl)] at HE
      injection HE with h1 h2
      subst h1 h2
      go_wp2_with fail
      refine (alive_any _).mono ?_
      rintro e w7 ⟨rfl, hb7⟩
      go_wp2
      go_ret
      exact ⟨rfl, B6.out.trans (hb7.mono B6.out.size)⟩
    cases ho : ordOk us
    · have HE := HR.out
      rw [runO_no (by rw [ho, Bool.and_false])] at HE
      injection HE with h1 h2
      subst h1 h2
      go_wp2_with fail
      refine (specOrderValid_any C us.length r us _ (by omega) RP6.out).mono ?_
      rintro e w6' ⟨rfl, rfl⟩
      rw [ho]
      go_wp2_with fail
      refine (alive_any _).mono ?_
      rintro e w7 ⟨rfl, hb7⟩
      go_wp2
      go_ret
      exact ⟨rfl, B6.out.trans (hb7.mono B6.out.size)⟩
    have hgo : goO ts us = (xs, m) := by rw [← HR.out, runO_yes hs ho]
    have hmn : m ≤ us.length := by have := goO_many us ts; rw [hgo] at this; exact this
    have HXE := Lib.hid (show xs.length = ts.length by have := goO_len us ts; rw [hgo] at this; exact this)
    have H1 := Lib.hid (show runO bs ls ts (us.take m) = (xs, m) by
      rw [runO_yes hs (ordOk_take ho m)]
      have := goO_take us ts; rw [hgo] at this; exact this)
    have H2 := Lib.hid (show backF (us.take m) = backO (us.take m) by rw [backF, ordOk_take ho m, if_pos rfl])
    have H3 := Lib.hid (show runO bs ls xs (backO (us.take m)) = (ts, m) by
      rw [runO_yes (by rw [HXE.out]; exact hs) (ordOk_back (ordOk_take ho m))]
      have := goO_back us ts; rw [hgo] at this; exact this)
    have HTL := Lib.hid (show (us.take m).length = m by rw [List.length_take]; omega)
    have HBL := Lib.hid (show (backO (us.take m)).length = m by rw [backO_len, List.length_take]; omega)
    go_wp2_with fail
    refine (specOrderValid_any C us.length r us _ (by omega) RP6.out).mono ?_
    rintro e w6' ⟨rfl, rfl⟩
    rw [ho]
    clear hs ho hgo HR HXE
    have hm0 : ¬ (m : Int) < 0 := by omega
    have hm1 : ¬ (us.length : Int) < (m : Int) := by omega
    have hm2 : (0 : Int) ≤ (m : Int) := by omega
    have hmr : (m : Int) ≤ (r : Int) := by omega
    go_upto_region 12 with fail
    obtain ⟨p0, p1, p2, p3⟩ := K6.out.two
    have hd6 := (Below.refl w6.heap.size w6).drew
    have HC := Lib.hid (orderRun_row bs An ls.length cn ls B ts.length d ts C m r (us.take m) xs m H1.out w6.drew (by omega) (RL6.out.below hd6) (by omega) (RT6.out.below hd6) (by omega) ((RP6.out.take hmn).below hd6))
    clear hd6
    go_cut [10, 11] (fun a b wx => (∃ Az cz, a = .slice Az xs.length cz ∧ RowT wx Az xs.length xs) ∧ b = .int .i64 (m : Int) ∧ Below w6.heap.size w6 wx)
    case first =>
      go_region_with (go_at_call 25; refine HC.out.mono ?_; rintro e wy ⟨Az, cz, rfl, hRz, hby⟩)
      all_goals (go_wp2_with fail; go_meet; exact ⟨⟨Az, cz, rfl, hRz⟩, rfl, ((Below.refl w6.heap.size w6).drew).trans hby⟩)
    case rest =>
      obtain ⟨⟨Az, cz, rfl, hRz⟩, rfl, hb7⟩ := hcut
      have B7 := Lib.hid (B6.out.trans (hb7.mono B6.out.size))
      have K7 := Lib.hid (K6.out.keep hb7)
      have RL7 := Lib.hid (RL6.out.below hb7)
      have RT7 := Lib.hid (RT6.out.below hb7)
      have RP7 := Lib.hid (RP6.out.below hb7)
      have RX7 := Lib.hid (RX6.out.below hb7)
      have RZ7 := Lib.hid hRz
      clear hb7 hRz p0 p1 p2 p3 B6 K6 RL6 RT6 RP6 RX6 HC
      go_upto_region 13 with fail
      obtain ⟨p0, p1, p2, p3⟩ := K7.out.two
      have HOB := Lib.hid (orderBack_row C m r (us.take m) (backO (us.take m)) H2.out wc.drew (by omega) ((RP7.out.take hmn).below ((Below.refl wc.heap.size wc).drew)) m HBL.out)
      have HOR := Lib.hid (fun (wy : World) (hby : Below wc.heap.size wc wy) (Cy : Option Addr) (cy : Nat) (hRy : RowP wy Cy m (backO (us.take m))) => orderRun_row bs An ls.length cn ls Ax xs.length cx xs Cy m cy (backO (us.take m)) ts m H3.out wy (by omega) (RL7.out.below hby) (by omega) (RX7.out.below hby) (by omega) hRy)
      have hdw := Lib.hid ((Below.refl wc.heap.size wc).drew)
      go_cut [12, 13] (fun a b wx => (∃ Ab cb, a = .slice Ab ts.length cb ∧ RowT wx Ab ts.length ts) ∧ b = .int .i64 (m : Int) ∧ Below wc.heap.size wc wx)
      case first =>
        go_region_with (first
          | (go_at_call 25; refine (HOR.out wy HBY.out Cy cy HRY.out).mono ?_; rintro e wz ⟨Ab, cb, rfl, hRb, hbz⟩)
          | (go_at_call 31; refine HOB.out.mono ?_; rintro e wy ⟨Cy, cy, rfl, hRy, hby⟩; have HRY := Lib.hid hRy; have HBY := Lib.hid (hdw.out.trans hby); obtain ⟨q0, q1, q2, q3⟩ := (K7.out.keep HBY.out).two; clear hRy hby))
        all_goals (go_wp2_with fail; go_meet; exact ⟨⟨Ab, cb, rfl, hRb⟩, rfl, HBY.out.trans (hbz.mono HBY.out.size)⟩)
      case rest =>
        obtain ⟨⟨Ab, cb, rfl, hRb⟩, rfl, hb8⟩ := hcut
        rename_i wd
        have B8 := Lib.hid (B7.out.trans (hb8.mono B7.out.size))
        have RT8 := Lib.hid (RT7.out.below hb8)
        have RX8 := Lib.hid (RX7.out.below hb8)
        have RZ8 := Lib.hid (RZ7.out.below hb8)
        have RB8 := Lib.hid hRb
        clear hb8 hRb p0 p1 p2 p3 B7 K7 RL7 RT7 RP7 RX7 RZ7 HOB HOR
        have hmq : ((m : Int) == (m : Int)) = true := by simp
        go_wp2_with fail
        refine (sameBools_same Az Ax xs.length cz cx xs _ (by omega) RZ8.out RX8.out).mono ?_
        rintro e w9 ⟨rfl, hb9⟩
        have B9 := Lib.hid (B8.out.trans (hb9.mono B8.out.size))
        have RT9 := Lib.hid (RT8.out.below hb9)
        have RB9 := Lib.hid (RB8.out.below hb9)
        clear hb9
        go_wp2_with fail
        refine (sameBools_same Ab B ts.length cb d ts _ (by omega) RB9.out RT9.out).mono ?_
        rintro e wa ⟨rfl, hba⟩
        go_wp2
        go_ret
        exact ⟨rfl, B9.out.trans (hba.mono B9.out.size)⟩
  · have hl2 : (1048576 : Int) < (n : Int) := by omega
    go_enter Tryd.func7, Tryd.ntmps7
    go_wp2
    go_ret
    exact ⟨rfl, Below.refl _ _⟩
end Go.Proofs.YtfedffekbemcoaaDoor
