/- The exact law of ReadNet: the walk. -/
import Derived.Test.YtciciidndjkdiaaDoorR8
import Derived.Test.YtciciidndjkdiaaDoorR9
namespace Go.Proofs.YtciciidndjkdiaaDoor
open Go.ChangeShapes Go.WideShapes Go.ChangeAt Go.RowKit

def out3 (r : Option (Int × List L3)) : Int × List L3 × Bool := match r with | some c => (c.1, c.2, true) | none => (0, [], false)
theorem ReadEnd.gen {r : Option (Int × List L3)} {w w' : World} {e : Ending} (h : ReadEnd r w e w') :
    ∃ A c, e = .returned (.tuple #[.agg #[.int .i64 (out3 r).1, .slice A (out3 r).2.1.length c], .bool (out3 r).2.2]) ∧ OwnL w' w.heap.size (.slice A (out3 r).2.1.length c) (out3 r).2.1 ∧ Below w.heap.size w w' := by
  cases r with
  | none =>
    obtain ⟨rfl, hb⟩ := h
    exact ⟨none, 0, rfl, World.ownsRow_nil _ _ _ _, hb⟩
  | some c =>
    obtain ⟨v, rfl, ho, hb⟩ := h
    obtain ⟨A, c', rfl, _⟩ := ho.row
    exact ⟨A, c', rfl, ho, hb⟩
theorem out3_len (s : ByteArray) : (out3 (readF s)).2.1.length ≤ 10 := by
  rcases h : readF s with _ | c
  · simp [out3]
  · have := (netOk_len (readF_some h).1).2.2
    simpa [out3] using this
theorem OwnL.rowL {w : World} {base n c : Nat} {A : Option Addr} {ls : List L3} (h : OwnL w base (.slice A n c) ls) : RowL w A n ls := by
  obtain ⟨A', c', e, hr⟩ := h.row
  injection e with e1 e2 e3
  subst e1; rw [e2]; exact hr
theorem OwnL.lt {w : World} {base : Nat} {v : Value} {ls : List L3} (h : OwnL w base v ls) : ∀ q, v.ownBlock = some q → base ≤ q ∧ q < w.heap.size := fun q hq => World.ownsRow.lt h q hq

set_option maxRecDepth 100000 in
set_option maxHeartbeats 4000000 in
theorem exactReadNet_walk (hC : CutSays) (hA : AtoiSays) (hSp : SplitSays) (hI : ItoaSays) (s : ByteArray) (w : World) (hl : LibEnv w) :
    Calls Tryd.prog 6 #[.string s] w fun e w' => e = .returned (.bool true) ∧ Below w.heap.size w w' := by
  by_cases hs : s.size ≤ 1048576
  · have HE := Lib.hid hl
    have HP := Lib.hid (fun (w : World) (h : LibEnv w) => (readNet_any hC hA hSp hI s w (by omega) h).mono fun e w' he => ReadEnd.gen (by rw [cand_eq] at he; exact (show ReadEnd (readF s) w e w' from he)))
    have HS := Lib.hid (fun (w : World) => (specReadNet_any s w hs).mono fun e w' he => ReadEnd.gen (show ReadEnd (readF s) w e w' from he))
    have hn := out3_len s
    clear hC hA hSp hI hl
    generalize out3 (readF s) = o at *
    obtain ⟨bs, ls, ok⟩ := o
    simp only at hn HP HS
    have hls : ls.length ≤ 1048576 := by omega
    have hok : (ok != ok) = false := by simp
    have hok2 : (ok == ok) = true := by simp
    go_enter Tryd.func6, Tryd.ntmps6
    go_wp2_with fail
    refine (HS.out _).mono ?_
    rintro e w1 ⟨A0, c0, rfl, hO0, hb1⟩
    have K0_0 := Lib.hid (IsBlk.new w1 25 #[.int .i64 bs, .slice A0 ls.length c0])
    have b1 : Below w.heap.size w (w1.alloc (.cells #[.int .i64 bs, .slice A0 ls.length c0] 25)) := hb1.alloc hb1.size _
    have O0_0 := Lib.hid (hO0.keep (below_bx w1 (.cells #[.int .i64 bs, .slice A0 ls.length c0] 25)))
    have B0 := Lib.hid hO0.lt
    have hz1 : w.heap.size ≤ w1.heap.size := hb1.size
    clear hO0 hb1
    go_wp2_with fail
    refine (HP.out _ (HE.out.keep b1)).mono ?_
    rintro e w2 ⟨A1, c1, rfl, hO1, hb2⟩
    have hz2 : w1.heap.size + 1 ≤ w2.heap.size := by have := hb2.size; simpa using this
    have b2 : Below w.heap.size w w2 := b1.trans (hb2.mono b1.size)
    have b2' : Below w.heap.size w (w2.alloc (.cells #[.int .i64 bs, .slice A1 ls.length c1] 25)) := b2.alloc b2.size _
    have K1_0 := Lib.hid (IsBlk.new w2 25 #[.int .i64 bs, .slice A1 ls.length c1])
    have K0_1 := Lib.hid ((K0_0.out.keep hb2).alloc (.cells #[.int .i64 bs, .slice A1 ls.length c1] 25))
    have O0_1 := Lib.hid ((O0_0.out.keep hb2).keep (below_bx w2 (.cells #[.int .i64 bs, .slice A1 ls.length c1] 25)))
    have O1_0 := Lib.hid (hO1.keep (below_bx w2 (.cells #[.int .i64 bs, .slice A1 ls.length c1] 25)))
    have B1 := Lib.hid (show ∀ q, (Value.slice A1 ls.length c1).ownBlock = some q → w1.heap.size + 1 ≤ q ∧ q < w2.heap.size from fun q hq => by have := hO1.lt q hq; simpa using this)
    clear hO1 hb2 K0_0 O0_0 b1 b2
    obtain ⟨p0, p1, p2, p3⟩ := K0_1.out.two
    obtain ⟨q0, q1, q2, q3⟩ := K1_0.out.two
    go_wp2_with fail
    refine (eqNet_same bs A1 A0 ls.length c1 c0 ls _ hls O1_0.out.rowL O0_1.out.rowL).mono ?_
    rintro e w3 ⟨rfl, hb3⟩
    have b3 := b2'.trans (hb3.mono b2'.size)
    have hz3 : w2.heap.size + 1 ≤ w3.heap.size := by have := hb3.size; simpa using this
    have K0_2 := Lib.hid (K0_1.out.keep hb3)
    have K1_1 := Lib.hid (K1_0.out.keep hb3)
    have O0_2 := Lib.hid (O0_1.out.keep hb3)
    have O1_1 := Lib.hid (O1_0.out.keep hb3)
    clear p0 p1 p2 p3 q0 q1 q2 q3 hb3 K0_1 K1_0 O0_1 O1_0 b2'
    obtain ⟨q0, q1, q2, q3⟩ := K1_1.out.two
    go_wp2_with fail
    refine (markNet_own bs _ ls _ _ hls O1_1.out).mono ?_
    rintro e w4 ⟨rfl, hO, hg⟩
    have b4 : Below w.heap.size w w4 := b3.grown hg b3.size (fun q hq => by have := B1.out q hq; omega)
    have hz4 : w3.heap.size ≤ w4.heap.size := hg.size
    have K0_3 := Lib.hid (K0_2.out.farG hg (fun e => by have := B1.out _ e; omega))
    have K1_2 := Lib.hid (K1_1.out.farG hg (fun e => by have := B1.out _ e; omega))
    have O0_3 := Lib.hid (O0_2.out.far hg (fun q hq e => by have := B1.out _ e; have := B0.out _ hq; omega))
    have O1_2 := Lib.hid hO
    clear q0 q1 q2 q3 hO hg K0_2 K1_1 O0_2 O1_1
    obtain ⟨q0, q1, q2, q3⟩ := K1_2.out.two
    have hm : ¬ (1 : Int) + 3 * (ls.length : Int) < 0 := by omega
    go_wp2_with fail
    refine (heldNet_own bs _ ls.length _ _ hls O1_2.out).mono ?_
    rintro e w5 ⟨rfl, hb5⟩
    have b5 := b4.trans (hb5.mono b4.size)
    have hz5 : w4.heap.size ≤ w5.heap.size := hb5.size
    have K0_4 := Lib.hid (K0_3.out.keep hb5)
    have K1_3 := Lib.hid (K1_2.out.keep hb5)
    have O0_4 := Lib.hid (O0_3.out.keep hb5)
    have O1_3 := Lib.hid (O1_2.out.keep hb5)
    clear q0 q1 q2 q3 hb5 K0_3 K1_2 O0_3 O1_2
    go_wp2_with fail
    refine (HP.out _ (HE.out.keep b5)).mono ?_
    rintro e w6 ⟨A2, c2, rfl, hO2, hb6⟩
    have b6 := b5.trans (hb6.mono b5.size)
    have b6' : Below w.heap.size w (w6.alloc (.cells #[.int .i64 bs, .slice A2 ls.length c2] 25)) := b6.alloc b6.size _
    have hbx := below_bx w6 (.cells #[.int .i64 bs, .slice A2 ls.length c2] 25)
    have K2_0 := Lib.hid (IsBlk.new w6 25 #[.int .i64 bs, .slice A2 ls.length c2])
    have O2_0 := Lib.hid (hO2.keep hbx)
    have K0_5 := Lib.hid ((K0_4.out.keep hb6).keep hbx)
    have K1_4 := Lib.hid ((K1_3.out.keep hb6).keep hbx)
    have O0_5 := Lib.hid ((O0_4.out.keep hb6).keep hbx)
    have O1_4 := Lib.hid ((O1_3.out.keep hb6).keep hbx)
    have hz6 : w5.heap.size ≤ w6.heap.size := hb6.size
    clear hO2 hb6 hbx K0_4 K1_3 O0_4 O1_3
    obtain ⟨p0, p1, p2, p3⟩ := K0_5.out.two
    obtain ⟨q0, q1, q2, q3⟩ := K2_0.out.two
    go_wp2_with fail
    refine (eqNet_same bs A2 A0 ls.length c2 c0 ls _ hls O2_0.out.rowL O0_5.out.rowL).mono ?_
    rintro e w7 ⟨rfl, hb7⟩
    have b7 := b6'.trans (hb7.mono b6'.size)
    have K1_5 := Lib.hid (K1_4.out.keep hb7)
    have O1_5 := Lib.hid (O1_4.out.keep hb7)
    clear p0 p1 p2 p3 q0 q1 q2 q3 hb7
    obtain ⟨q0, q1, q2, q3⟩ := K1_5.out.two
    go_wp2_with fail
    refine (heldNet_own bs _ ls.length _ _ hls O1_5.out).mono ?_
    rintro e w8 ⟨rfl, hb8⟩
    go_wp2
    go_ret
    exact ⟨rfl, b7.trans (hb8.mono b7.size)⟩
  · have hbig : (1048576 : Int) < (s.size : Int) := by omega
    go_enter Tryd.func6, Tryd.ntmps6
    go_wp2
    go_ret
    exact ⟨rfl, Below.refl _ _⟩
end Go.Proofs.YtciciidndjkdiaaDoor
