/- Switching orders: OrderRun, of the program and of the model. -/
import Derived.Test.YtfedffekbemcoaaDoorOr1
import Derived.Test.YtfedffekbemcoaaDoorOr2
import Derived.Test.YtfedffekbemcoaaDoorBCC
import Derived.Test.YtfedffekbemcoaaDoorB7
import Derived.BigQuiet
import Derived.Deep.QuietTactic
import Derived.RegionTactic
namespace Go.Proofs.YtfedffekbemcoaaDoor
open Go.ChangeShapes Go.WideShapes Go.ChangeAt Go.RowKit

theorem runO_no {bs : Int} {ls : List L3} {ts : List Bool} {ss : List TP} (h : (stOk bs ls ts.length && ordOk ss) = false) : runO bs ls ts ss = ([], 0) := by rw [runO, h]; rfl
theorem runO_yes {bs : Int} {ls : List L3} {ts : List Bool} {ss : List TP} (h1 : stOk bs ls ts.length = true) (h2 : ordOk ss = true) : runO bs ls ts ss = goO ts ss := by rw [runO, h1, h2]; rfl

set_option maxRecDepth 100000 in
set_option maxHeartbeats 4000000 in
theorem orderRun_any (bs : Int) (A : Option Addr) (n c : Nat) (ls : List L3) (B : Option Addr) (m d : Nat) (ts : List Bool) (C : Option Addr) (q r : Nat) (ss : List TP) (w : World) (hn : n ≤ 1048576) (hr : RowL w A n ls) (hm : m ≤ 1048576) (hrt : RowT w B m ts) (hq : q ≤ 1048576) (hrs : RowP w C q ss) :
    Calls Tryd.prog 25 #[.agg #[.int .i64 bs, .slice A n c], .slice B m d, .slice C q r] w fun e w' => ∃ v, e = .returned (.tuple #[v, .int .i64 ((runO bs ls ts ss).2 : Int)]) ∧ OwnT w' w.heap.size v (runO bs ls ts ss).1 ∧ Below w.heap.size w w' := by
  have HR := Lib.hid hr
  have HT := Lib.hid hrt
  have HP := Lib.hid hrs
  have HLT := Lib.hid hrt.len
  have HLP := Lib.hid hrs.len
  clear hr hrt hrs
  have a0 := below_bx w (.cells #[.int .i64 bs, .slice A n c] 41)
  cases hs : stOk bs ls m
  · have HF := Lib.hid (runO_no (ts := ts) (ss := ss) (bs := bs) (ls := ls) (by rw [HLT.out, hs]; rfl))
    rw [HF.out]
    go_enter Tryd.func25, Tryd.ntmps25
    go_wp2_with fail
    refine (stateValid_any bs A n c ls B m d _ hn (HR.out.below a0) (by omega)).mono ?_
    rintro e w1 ⟨rfl, hb1⟩
    rw [hs]
    go_wp2
    go_ret2
    exact ⟨_, rfl, OwnT.nil, a0.trans (hb1.mono a0.size)⟩
  have HS := Lib.hid hs
  clear hs
  cases ho : ordOk ss
  · have HF := Lib.hid (runO_no (ts := ts) (ss := ss) (bs := bs) (ls := ls) (by rw [ho, Bool.and_false]))
    rw [HF.out]
    go_enter Tryd.func25, Tryd.ntmps25
    go_wp2_with fail
    refine (stateValid_any bs A n c ls B m d _ hn (HR.out.below a0) (by omega)).mono ?_
    rintro e w1 ⟨rfl, hb1⟩
    rw [HS.out]
    have a1 := a0.trans (hb1.mono a0.size)
    go_wp2_with fail
    refine (orderValid_any C q r ss _ (by omega) (HP.out.below a1)).mono ?_
    rintro e w2 ⟨rfl, hb2⟩
    rw [ho]
    go_wp2
    go_ret2
    exact ⟨_, rfl, OwnT.nil, a1.trans (hb2.mono a1.size)⟩
  have HOk := Lib.hid ho
  clear ho
  have HF := Lib.hid (runO_yes (by rw [HLT.out]; exact HS.out) HOk.out)
  rw [HF.out]
  have hq12 : q ≤ 12 := by have := ordOk_len HOk.out; have := HLP.out; omega
  go_enter Tryd.func25, Tryd.ntmps25
  go_wp2_with fail
  refine (stateValid_any bs A n c ls B m d _ hn (HR.out.below a0) (by omega)).mono ?_
  rintro e w1 ⟨rfl, hb1⟩
  rw [HS.out]
  have a1 := a0.trans (hb1.mono a0.size)
  go_wp2_with fail
  refine (orderValid_any C q r ss _ (by omega) (HP.out.below a1)).mono ?_
  rintro e w2 ⟨rfl, hb2⟩
  rw [HOk.out]
  have a2 := a1.trans (hb2.mono a1.size)
  go_wp2_with fail
  refine (clone_any B m d ts _ hm (HT.out.below a2)).mono ?_
  rintro e w3 ⟨v, rfl, hO, hb3⟩
  have A3 := Lib.hid (a2.trans (hb3.mono a2.size))
  have O3 := Lib.hid (OwnT.more hO a2.size)
  obtain ⟨g, cap, hv⟩ : ∃ g cap, v = .slice g m cap := by
    obtain ⟨A', c', e, _, _⟩ := hO.row
    exact ⟨A', c', by rw [e, HLT.out]⟩
  subst hv
  clear hO hb1 hb2 hb3 a0 a1 a2
  go_wp2
  go_loopw [24] (fun i wr => ∃ (k : Nat) (us : List Bool), k ≤ q ∧ i = .int .i64 (k : Int) ∧ goAt ts ss k us ∧ OwnT wr w.heap.size (.slice g m cap) us ∧ Below w.heap.size w wr) (fun i _ => q - (intOf i).toNat)
  case atStart => exact ⟨0, ts, by omega, rfl, goAt_start ts ss, O3.out, A3.out⟩
  case round =>
    obtain ⟨k, us, hk, rfl, hgo, hown, hbel⟩ := hrel
    have G := Lib.hid hgo
    have O := Lib.hid hown
    have hul : us.length = m := by rw [hgo.1, HLT.out]
    have HUL := Lib.hid hul
    have BL := Lib.hid hbel
    clear hgo hown hul hbel O3 A3
    by_cases hlt : k < q
    · obtain ⟨b, off, p, rfl, hb, hkp, g0, g1⟩ := HP.out.at_ hlt
      rw [← BL.out.cell (p := ⟨b, off + k * 2, none⟩) hb] at g0
      rw [← BL.out.cell (p := ⟨b, off + k * 2 + 1, none⟩) hb] at g1
      have HK := Lib.hid hkp
      obtain ⟨h0, h9⟩ := ordOk_get HOk.out hkp
      obtain ⟨x, t⟩ := p
      simp only at g0 g1 h0 h9
      obtain ⟨j, rfl⟩ := Int.eq_ofNat_of_zero_le h0
      clear hkp
      have BA := fun o => BL.out.alloc (BL.out.size) o
      have OA := Lib.hid (fun o => O.out.alloc o)
      by_cases hjm : j < m
      · have hjm' : (j : Int) < (m : Int) := by omega
        have hge : decide ((m : Int) ≤ (j : Int)) = false := by simp; omega
        have hju : j < us.length := by have := HUL.out; omega
        obtain ⟨g', cap', he, hg1, hg2, hc0, hf0, hput⟩ := (OA.out (.cells #[.int .i64 (j : Int), .bool t] 27)).at_ hju
        injection he with he1 he2 he3
        subst he1 he3
        have HPut := Lib.hid hput
        clear hput he2
        have HD := Lib.hid (getD_lt hju)
        generalize us.getD j false = u at hc0 HD
        by_cases hut : u = t
        · subst hut
          have HE := Lib.hid (goAt_stop G.out HK.out (by rw [Int.toNat_natCast, HD.out]; simp))
          go_wp2
          go_quiet (fail)
          go_wp2
          go_ret2
          rw [HE.out]
          exact ⟨_, rfl, OA.out _, below_drewN (BA _) _⟩
        · have hne : (u == t) = false := by simpa using hut
          have hu2 : u = !t := by revert hut; cases u <;> cases t <;> simp
          have HN := Lib.hid (goAt_next G.out HK.out (by rw [Int.toNat_natCast, HD.out, ← hu2]))
          clear hut hu2
          go_wp2
          go_quiet (fail)
          go_wp2
          go_roundw
          case rel =>
            refine ⟨k + 1, _, by omega, by go_num, HN.out, ?_, Below.setCell (below_drewN (BA _) _) (show w.heap.size ≤ (⟨g', j, none⟩ : Addr).block from hg1) _⟩
            exact HPut.out t
          case measure => simp [intOf]; omega
      · have hge : decide ((m : Int) ≤ (j : Int)) = true := by simp; omega
        have HE := Lib.hid (goAt_stop G.out HK.out (by rw [Int.toNat_natCast, List.getElem?_eq_none (by have := HUL.out; omega)]; simp))
        go_wp2
        go_quiet (fail)
        go_wp2
        go_ret2
        rw [HE.out]
        exact ⟨_, rfl, OA.out _, below_drewN (BA _) _⟩
    · obtain rfl : k = q := by omega
      have HE := Lib.hid (goAt_end G.out (by have := HLP.out; omega))
      go_wp2
      go_ret2
      rw [HE.out]
      exact ⟨_, rfl, O.out, BL.out⟩
end Go.Proofs.YtfedffekbemcoaaDoor
