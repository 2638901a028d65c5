/- Busbars: the promise of MoveDeeds: the walk. -/
import Derived.Test.YtafgfhjlkdjngaaDoorBrJ
import Derived.Test.YtafgfhjlkdjngaaDoorBrO
import Derived.Test.YtafgfhjlkdjngaaDoorBrC
import Derived.Test.YtafgfhjlkdjngaaDoorBrA
namespace Go.Proofs.YtafgfhjlkdjngaaDoor
open Go.ChangeShapes Go.WideShapes Go.ChangeAt Go.RowKit

theorem mov_some {b : BB} {bay bar : Int} (h : movB b bay bar = true) : 0 < (movF b bay bar).length := by
  rw [movF, if_pos h]; simp only [List.length_append, List.length_cons]; omega

set_option maxRecDepth 100000 in
set_option maxHeartbeats 8000000 in
theorem lawMoveDeeds_walk (w : World) (A : Option Addr) (n c : Nat) (code : List Int) (hr : RowB w A n code) (hnc : n ≤ c) (hc : c ≤ 9223372036854775807) :
    Calls Tryd.prog 11 #[.slice A n c] w fun x w' => x = .returned (.bool true) ∧ Below w.heap.size w w' := by
  by_cases hbig : 1048576 < n
  · go_enter Tryd.func11, Tryd.ntmps11
    go_wp2
    go_ret
    exact ⟨rfl, Below.refl _ _⟩
  go_enter Tryd.func11, Tryd.ntmps11
  go_wp2_with fail
  refine (drawMoveDeeds_any A n c code _ hr hnc hc).mono ?_
  rintro x w1 ⟨A1, n1, c1, ss, t, d, e, rfl, hd0, hd1, he0, he1, hl, hn1, hn7, hO, hb1⟩
  have B1 := Lib.hid (LawR.new (t := t) hO (Nat.le_refl _))
  have a1 := Lib.hid (hb1.alloc hb1.size (.cells #[.slice A1 n1 c1, .bool t] 25))
  have HL := Lib.hid hl
  have hn : n1 ≤ 1048576 := by omega
  have hle := mov_le (ss, t) d e
  obtain ⟨L, hL⟩ : ∃ L, L = movF (ss, t) d e := ⟨_, rfl⟩
  rw [← hL] at hle
  have HLE := Lib.hid hL
  clear hb1 hr hO hl hL
  go_wp2_with fail
  refine (moveDeeds_any A1 n1 c1 ss t d e _ hn B1.out.row).mono ?_
  rintro x w2 ⟨v2, rfl, hO, hb2⟩
  rw [← HLE.out] at hO
  obtain ⟨A2, c2, hv2⟩ := OwnI.shape hO
  subst hv2
  have L2 := Lib.hid hO
  have B2 := Lib.hid (B1.out.next hb2)
  have a2 := Lib.hid (a1.out.trans (hb2.mono a1.out.size))
  clear hb2 hO B1 a1
  obtain ⟨p0, p1, -⟩ := B2.out.box.two
  go_wp2_with fail
  refine (specMoveDeeds_any A1 n1 c1 ss t d e _ hn B2.out.row).mono ?_
  rintro x w3 ⟨v3, rfl, hO, hb3⟩
  rw [← HLE.out] at hO
  obtain ⟨A3, c3, hv3⟩ := OwnI.shape hO
  subst hv3
  have M3 := Lib.hid hO
  have L3' := Lib.hid (OwnI.keep L2.out hb3)
  have B3 := Lib.hid (B2.out.next hb3)
  have a3 := Lib.hid (a2.out.trans (hb3.mono a2.out.size))
  clear hb3 hO B2 L2 a2 p0 p1
  go_wp2_with fail
  refine (sameInts_any A2 A3 L.length L.length c2 c3 L L _ (by omega) (by omega) (OwnI.rowZ L3'.out) (OwnI.rowZ M3.out)).mono ?_
  rintro x w4 ⟨rfl, hb4⟩
  rw [decide_eq_true rfl]
  have L4 := Lib.hid (OwnI.keep L3'.out hb4)
  have B4 := Lib.hid (B3.out.next hb4)
  have a4 := Lib.hid (a3.out.trans (hb4.mono a3.out.size))
  clear hb4 B3 L3' M3 a3
  by_cases hm : movB (ss, t) d e = true
  rotate_left
  · rw [Bool.not_eq_true] at hm
    have hLn : L = [] := by rw [HLE.out]; exact mov_keep hm
    subst hLn
    go_wp2_with fail
    refine (alive_any _).mono ?_
    rintro x w6 ⟨rfl, hb6⟩
    go_wp2
    go_ret
    exact ⟨rfl, a4.out.trans (hb6.mono a4.out.size)⟩
  have hrun := mov_run hm
  have hok : brsOk (ss, t) = true := (mov_in hm).1
  have hpos := mov_some hm
  obtain ⟨-, k, j, s, rfl, rfl, hks, -, -⟩ := mov_in hm
  rw [← HLE.out] at hrun hpos
  have HX := Lib.hid (show brF (ss, t) L = ((ss.set k (j : Int), t), L.length) by rw [brF, if_pos hok, hrun]; rfl)
  have HKS := Lib.hid hks
  have hkn : k < n1 := by rw [← HL.out]; exact (List.getElem?_eq_some_iff.1 hks).1
  have hlen0 : ((L.length : Int) == 0) = false := by simp; intro h; rw [h] at hpos; simp at hpos
  have hlen1 : ¬ ((L.length : Int) = 0) := by omega
  clear hm hrun hok hks
  obtain ⟨p0, p1, -⟩ := B4.out.box.two
  go_wp2_with fail
  refine (barsRun_any A1 n1 c1 ss t A2 L.length c2 L _ hn B4.out.row (by omega) (OwnI.rowZ L4.out)).mono ?_
  rintro y w6 ⟨v6, rfl, hO, hb6⟩
  rw [HX.out] at hO
  rw [HX.out]
  dsimp only [vR] at hO ⊢
  obtain ⟨A6, c6, hv6⟩ := OwnI.shape hO
  subst hv6
  have hsl : (ss.set k (j : Int)).length = n1 := by rw [List.length_set]; exact HL.out
  rw [hsl] at hO ⊢
  have B6 := Lib.hid ((B4.out.next hb6).alloc (.cells #[.slice A6 n1 c6, .bool t] 25))
  have X6 := Lib.hid (LawR.new (w := w) (t := t) hO a4.out.size)
  have a6' := a4.out.trans (hb6.mono a4.out.size)
  have a6 := Lib.hid (a6'.alloc a6'.size (.cells #[.slice A6 n1 c6, .bool t] 25))
  clear hb6 hO B4 L4 a4 a6' p0 p1 hsl
  obtain ⟨p0, p1, -⟩ := B6.out.box.two
  go_upto_region 10 with fail
  generalize w6.heap.size = X at *
  generalize w6.alloc (.cells #[.slice A6 n1 c6, .bool t] 25) = w7 at *
  have hX1 : w1.heap.size < w7.heap.size := B6.out.box.lt
  go_upto_region 11 with (
    at_builtin
    refine wpList_append_lists rfl (.tmp 40) (.tmp 42) rfl w7.heap.size _ _ _ [] ss rfl rfl (ownLitR w7) (OwnI.alloc B6.out.own _) ?c1 ?c2 ?_
    case c1 => simp
    case c2 => have := HL.out; simp; omega
    intro v8 w8 hown hgrow _
    have O8 := Lib.hid (show OwnI 3 w8 w7.heap.size v8 ss by simpa using hown)
    have hb8 : Below w7.heap.size w7 w8 := (below_bx w7 (.cells #[] 3)).grown hgrow (by simp) (fun q hq => by have e' : w7.heap.size = q := Option.some.inj hq; omega)
    have HB8 := Lib.hid hb8
    clear hb8 hgrow hown)
  obtain ⟨g8, c8, hv8, hg8, hgs8, hcap8⟩ := OwnI.headR O8.out (by have := HL.out; omega)
  subst hv8
  rw [HL.out] at O8 hcap8 ⊢
  obtain ⟨d8, f8, hset⟩ := OwnI.cellR O8.out HKS.out
  have HSET := Lib.hid hset
  have hk0 : (0 : Int) ≤ (k : Int) := by omega
  have hk1 : (k : Int) < (n1 : Int) := by omega
  clear hset p0 p1
  go_upto_region 12 with fail
  have hb9 : Below w7.heap.size w7 (w8.setCell ⟨g8, k, none⟩ (.int .i64 (j : Int))) := HB8.out.setCell hg8 _
  have O9 := Lib.hid (HSET.out (j : Int))
  have B9 := Lib.hid (B6.out.next hb9)
  have X9 := Lib.hid (X6.out.next hb9)
  have a9 := Lib.hid (a6.out.trans (hb9.mono a6.out.size))
  clear hb9 d8 f8 B6 X6 a6 O8 HB8 HSET
  generalize w8.setCell ⟨g8, k, none⟩ (.int .i64 (j : Int)) = w9 at *
  obtain ⟨p0, p1, -⟩ := B9.out.box.two
  obtain ⟨q0, q1, -⟩ := X9.out.box.two
  go_wp2_with fail
  refine (sameBars_any A6 _ n1 n1 c6 c8 (ss.set k (j : Int)) (ss.set k (j : Int)) t t _ hn hn X9.out.row (OwnI.rowZ O9.out)).mono ?_
  rintro x w10 ⟨rfl, hb10⟩
  rw [decide_eq_true rfl]
  go_wp2
  go_ret
  exact ⟨rfl, a9.out.trans (hb10.mono a9.out.size)⟩
end Go.Proofs.YtafgfhjlkdjngaaDoor
