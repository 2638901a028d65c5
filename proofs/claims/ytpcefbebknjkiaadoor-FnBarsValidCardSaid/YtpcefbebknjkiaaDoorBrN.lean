/- Busbars: the promise of BarsValid: the walk. -/
import Derived.Test.YtpcefbebknjkiaaDoorBrG
import Derived.Test.YtpcefbebknjkiaaDoorBrC
namespace Go.Proofs.YtpcefbebknjkiaaDoor
open Go.ChangeShapes Go.WideShapes Go.ChangeAt Go.RowKit

theorem none_bad (ss : List Int) (c : Bool) : brsOk (ss ++ [0], c) = false := side_stop (k := ss.length) (s := 0) (by simp) (by cases c <;> decide)

set_option maxRecDepth 100000 in
set_option maxHeartbeats 8000000 in
theorem lawBarsValid_walk (w : World) (A : Option Addr) (n c : Nat) (code : List Int) (hr : RowB w A n code) (hnc : n ≤ c) (hc : c ≤ 9223372036854775807) :
    Calls Tryd.prog 3 #[.slice A n c] w fun x w' => x = .returned (.bool true) ∧ Below w.heap.size w w' := by
  obtain ⟨i0, hi, hz0, hz1, hz2⟩ := info_parts intInfo6
  have HI := Lib.hid hi
  clear hi
  by_cases hbig : 1048576 < n
  · go_enter Tryd.func3, Tryd.ntmps3
    go_wp2
    go_ret
    exact ⟨rfl, Below.refl _ _⟩
  go_enter Tryd.func3, Tryd.ntmps3
  go_wp2_with fail
  refine (drawBarsValid_any A n c code _ hr hnc hc).mono ?_
  rintro x w1 ⟨A1, n1, c1, ss, t, rfl, hl, hn1, hn7, hO, hb1⟩
  have K1 := Lib.hid (IsBlk.new w1 25 #[.slice A1 n1 c1, .bool t])
  have O1 := Lib.hid (OwnI.alloc hO (.cells #[.slice A1 n1 c1, .bool t] 25))
  have a1 := Lib.hid (hb1.alloc hb1.size (.cells #[.slice A1 n1 c1, .bool t] 25))
  have HL := Lib.hid hl
  clear hb1 hr hO hl
  go_wp2_with fail
  refine (barsValid_any A1 n1 c1 ss t _ (by omega) (OwnI.rowZ O1.out)).mono ?_
  rintro x w2 ⟨rfl, hb2⟩
  have K2 := Lib.hid (K1.out.keep hb2)
  have O2 := Lib.hid (OwnI.keep O1.out hb2)
  have a2 := Lib.hid (a1.out.trans (hb2.mono a1.out.size))
  obtain ⟨p0, p1, -⟩ := K2.out.two
  clear hb2 K1 O1 a1
  go_wp2_with fail
  refine (specBarsValid_any A1 n1 c1 ss t _ (by omega) (OwnI.rowZ O2.out)).mono ?_
  rintro x w3 ⟨rfl, hb3⟩
  have K3 := Lib.hid (K2.out.keep hb3)
  have O3 := Lib.hid (OwnI.keep O2.out hb3)
  have a3 := Lib.hid (a2.out.trans (hb3.mono a2.out.size))
  clear hb3 K2 O2 a2 p0 p1
  obtain ⟨p0, p1, -⟩ := K3.out.two
  by_cases hok : brsOk (ss, t) = true
  rotate_left
  · rw [Bool.not_eq_true] at hok
    rw [hok]
    go_wp2_with fail
    refine (alive_any _).mono ?_
    rintro x w4 ⟨rfl, hb4⟩
    go_wp2
    go_ret
    exact ⟨rfl, a3.out.trans (hb4.mono a3.out.size)⟩
  rw [hok]
  have HT := Lib.hid (brs_true hok)
  have HN := Lib.hid (none_bad ss true)
  clear hok
  have hw3 : w.heap.size ≤ w3.heap.size := a3.out.size
  have hg3 : w1.heap.size < w3.heap.size := K3.out.lt
  go_upto_region 10 with (first
    | (at_builtin
       refine wpList_append_lists rfl (.tmp 20) (.tmp 22) rfl w3.heap.size _ _ _ [] ss rfl rfl (ownLitR w3) (OwnI.alloc O3.out _) ?c1 ?c2 ?_
       case c1 => simp
       case c2 => have := HL.out; simp; omega
       intro v4 w4 hown hgrow _
       have O4 := Lib.hid (show OwnI 3 w4 w3.heap.size v4 ss by simpa using hown)
       have K4 := Lib.hid ((K3.out.alloc (.cells #[] 3)).farG hgrow (fun e => by have e' : w3.heap.size = w1.heap.size := Option.some.inj e; omega))
       have R4 := Lib.hid (show RowZ w4 A1 n1 ss from RowV.grown (OwnI.rowZ (OwnI.alloc O3.out (.cells #[] 3))) hgrow (fun b off e e2 => by
         have := (OwnI.lt O3.out b (by rw [e]; rfl)).2
         have e' : w3.heap.size = b := Option.some.inj e2
         omega))
       have a4 := Lib.hid ((a3.out.alloc a3.out.size (.cells #[] 3)).grown hgrow (by simp; omega) (fun q hq => by have e' : w3.heap.size = q := Option.some.inj hq; omega))
       have hg4 : w3.heap.size < w4.heap.size := by have := hgrow.size; simp at this; omega
       clear p0 p1
       obtain ⟨p0, p1, -⟩ := K4.out.two)
    | (at_builtin
       refine wpList_append_own _ rfl _ _ _ rfl w3.heap.size 3 i0 (.int .i64 0) 1 8 Tryd.underlying23 HI.out hz0 hz1 hz2 rfl (by decide) _ _ _ rfl (World.ownsRow.alloc O4.out _) ⟨w4.heap.size, 0, none⟩ 1 1 [.int .i64 0] rfl rfl ?d1 ?d2 ?d3 ?d4 ?d5 ?_
       case d1 => exact cell_one_new _ _ _
       case d2 => intro u hu; simp at hu; subst hu; rfl
       case d3 => have := HL.out; simp only [maxLen]; omega
       case d4 => have := HL.out; omega
       case d5 => simp; omega
       intro v5 w5 hown' hgrow' _
       have O5 := Lib.hid (show OwnI 3 w5 w3.heap.size v5 (ss ++ [0]) by simpa [OwnI] using hown')
       have hq4 : ∀ q, v4.ownBlock = some q → w3.heap.size ≤ q := fun q hq => (OwnI.lt O4.out q hq).1
       have K5 := Lib.hid ((K4.out.alloc (.cells #[.int .i64 0] 3)).farG hgrow' (fun e => by have := hq4 _ e; omega))
       have R5 := Lib.hid (show RowZ w5 A1 n1 ss from RowV.grown (R4.out.below (below_bx w4 (.cells #[.int .i64 0] 3))) hgrow' (fun b off e e2 => by
         have := (OwnI.lt O3.out b (by rw [e]; rfl)).2
         have := hq4 _ e2; omega))
       have a5 := Lib.hid ((a4.out.alloc a4.out.size (.cells #[.int .i64 0] 3)).grown hgrow' (by have := a4.out.size; simp; omega) (fun q hq => by have := hq4 _ hq; omega))))
  obtain ⟨A5, c5, hv5⟩ := OwnI.shape O5.out
  subst hv5
  have hlen : (ss ++ [0]).length = n1 + 1 := by simp; exact HL.out
  rw [hlen] at O5 ⊢
  clear hlen p0 p1
  obtain ⟨q0, q1, -⟩ := K5.out.two
  go_wp2_with fail
  refine (barsValid_any A1 n1 c1 ss true _ (by omega) R5.out).mono ?_
  rintro x w6 ⟨rfl, hb6⟩
  rw [HT.out]
  have a6 := Lib.hid (a5.out.trans (hb6.mono a5.out.size))
  have O6 := Lib.hid (OwnI.keep O5.out hb6)
  clear q0 q1 hb6
  go_wp2_with fail
  refine (barsValid_any A5 (n1 + 1) c5 (ss ++ [0]) true _ (by omega) (OwnI.rowZ O6.out)).mono ?_
  rintro x w7 ⟨rfl, hb7⟩
  rw [HN.out]
  go_wp2
  go_ret
  exact ⟨rfl, a6.out.trans (hb7.mono a6.out.size)⟩
end Go.Proofs.YtpcefbebknjkiaaDoor
