/- FnRadial: the walk. -/
import Derived.Test.YtcfnkjblhhmbeaaDoorZ3
import Derived.Test.YtcfnkjblhhmbeaaDoorZ4
import Derived.Test.YtcfnkjblhhmbeaaDoorHA
import Derived.Test.YtcfnkjblhhmbeaaDoorQ3
namespace Go.Proofs.YtcfnkjblhhmbeaaDoor
open Go.ChangeShapes Go.WideShapes Go.ChangeAt Go.RowKit

set_option maxRecDepth 100000 in
set_option maxHeartbeats 4000000 in
theorem radialL_walk (w : World) (A : Option Addr) (n c : Nat) (code : List Int) (hr : RowB w A n code) (hnc : n ≤ c) (hc : c ≤ 9223372036854775807) :
    Calls Tryd.prog 3 #[.slice A n c] w fun e w' => e = .returned (.bool true) ∧ Below w.heap.size w w' := by
  by_cases hlen : n ≤ 1048576
  · go_enter Tryd.func3, Tryd.ntmps3
    go_wp2_with fail
    refine (drawRadial_any A n c code _ hr hnc hc).mono ?_
    rintro e w1 ⟨bs, A1, c1, ls, A2, c2, ts, A3, c3, us, rfl, hrow, hls, hb0, hb9, hrt, hts, hru, hus, a1⟩
    have hbx := below_bx w1 (.cells #[.int .i64 bs, .slice A1 ls.length c1] 25)
    have HR1 := Lib.hid (hrow.below hbx)
    have k1 := Lib.hid (IsBlk.new w1 25 #[.int .i64 bs, .slice A1 ls.length c1])
    have b1 : Below w.heap.size w (w1.alloc (.cells #[.int .i64 bs, .slice A1 ls.length c1] 25)) := a1.alloc a1.size _
    have T1 := Lib.hid (hrt.below hbx)
    have U1 := Lib.hid (hru.below hbx)
    clear hrow hr hrt hru
    have h1 : ls.length ≤ 1048576 := by omega
    have h2 : ts.length ≤ 1048576 := by omega
    have h3 : us.length ≤ 1048576 := by omega
    go_wp2_with fail
    refine (radial_any bs A1 ls.length c1 ls A2 ts.length c2 ts A3 us.length c3 us _ h1 HR1.out h2 T1.out h3 U1.out).mono ?_
    rintro e w2 ⟨rfl, hb2⟩
    have b2 := b1.trans (hb2.mono b1.size)
    have HR2 := Lib.hid (HR1.out.below hb2)
    have k2 := Lib.hid (k1.out.keep hb2)
    have T2 := Lib.hid (T1.out.below hb2)
    have U2 := Lib.hid (U1.out.below hb2)
    clear HR1 k1 T1 U1
    obtain ⟨p0, p1, _, _⟩ := k2.out.two
    go_wp2_with fail
    refine (specRadial_any bs A1 ls.length c1 ls A2 ts.length c2 ts A3 us.length c3 us _ h1 HR2.out h2 T2.out h3 U2.out).mono ?_
    rintro e w3 ⟨rfl, hb3⟩
    have b3 := b2.trans (hb3.mono b2.size)
    have HR3 := Lib.hid (HR2.out.below hb3)
    have k3 := Lib.hid (k2.out.keep hb3)
    have T3 := Lib.hid (T2.out.below hb3)
    have U3 := Lib.hid (U2.out.below hb3)
    clear HR2 k2 T2 U2 p0 p1
    cases hx : radF bs ls ts us
    · go_wp2_with fail
      refine (alive_any _).mono ?_
      rintro e w5 ⟨rfl, hb5⟩
      go_wp2
      go_ret
      exact ⟨rfl, b3.trans (hb5.mono b3.size)⟩
    · have HX := Lib.hid hx
      have HS := Lib.hid (okU_st (radF_iff.1 hx).1)
      clear hx
      go_wp2_with fail
      go_loopw [7] (fun i wr => ∃ k : Nat, k ≤ ts.length ∧ i = .int .i64 k ∧ Below w3.heap.size w3 wr) (fun i _ => ts.length - (intOf i).toNat)
      case atStart => exact ⟨0, by omega, rfl, Below.refl _ _⟩
      case round =>
        obtain ⟨k, hk, rfl, hbel⟩ := hrel
        have k7 := Lib.hid (k3.out.keep hbel)
        obtain ⟨p0, p1, _, _⟩ := k7.out.two
        by_cases hlt : k < ts.length
        · go_wp2_with fail
          refine (offOn_any bs A1 ls.length c1 ls A2 ts.length c2 ts k _ h1 (HR3.out.below hbel) h2 (T3.out.below hbel)).mono ?_
          rintro e w6 ⟨va, vb, rfl, hOa, hOb, hb6⟩
          rw [swV_at hlt HS.out] at hOa hOb
          have b6 := hbel.trans (hb6.mono hbel.size)
          have k8 := Lib.hid (k7.out.keep hb6)
          obtain ⟨Aa, ca, rfl, _, hTa⟩ := hOa.row
          obtain ⟨Ab, cb, rfl, _, hTb⟩ := hOb.row
          rw [List.length_set] at hTa hTb ⊢
          rw [List.length_set]
          have HTa := Lib.hid hTa
          have HXk := Lib.hid (radF_off HX.out k)
          clear hTa hTb hOa hOb p0 p1
          obtain ⟨p0, p1, _, _⟩ := k8.out.two
          go_wp2_with fail
          refine (radial_any bs A1 ls.length c1 ls Aa ts.length ca (ts.set k false) A3 us.length c3 us _ h1 (HR3.out.below b6) h2 HTa.out h3 (U3.out.below b6)).mono ?_
          rintro e w8 ⟨rfl, hb8⟩
          rw [HXk.out]
          have b8 := b6.trans (hb8.mono b6.size)
          go_wp2_with fail
          go_roundw
          case rel => exact ⟨k + 1, by omega, by go_num, b8⟩
          case measure => simp [intOf]; omega
        · have b7 := b3.trans (hbel.mono b3.size)
          go_wp2_with fail
          refine (hasCycle_any bs A1 ls.length c1 ls A2 ts.length c2 ts _ h1 (HR3.out.below hbel) h2 (T3.out.below hbel)).mono ?_
          rintro e w8 ⟨rfl, hb8⟩
          rw [radF_has HX.out]
          go_wp2
          go_ret
          exact ⟨rfl, b7.trans (hb8.mono b7.size)⟩
  · have hl2 : (1048576 : Int) < (n : Int) := by omega
    go_enter Tryd.func3, Tryd.ntmps3
    go_wp2
    go_ret
    exact ⟨rfl, Below.refl _ _⟩
end Go.Proofs.YtcfnkjblhhmbeaaDoor
