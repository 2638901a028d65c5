/- FnHasCycle: the walk. -/
import Derived.Test.YtcdliaabbhoagaaDoorU2
import Derived.Test.YtcdliaabbhoagaaDoorU5
namespace Go.Proofs.YtcdliaabbhoagaaDoor
open Go.ChangeShapes Go.WideShapes Go.ChangeAt Go.RowKit

theorem has_law {bs : Int} {ls : List L3} {ts : List Bool} (hs : stOk bs ls ts.length = true) : hasF bs ls ts = decide (bs - ((iofF bs ls ts).length : Int) < ((ts.countP id : Nat) : Int)) := by
  have hb := stOk_bs hs
  rw [Bool.eq_iff_iff, has_cnt hs, decide_eq_true_eq, iofF_length hs, heads_cnt]
  omega
theorem has_not {bs : Int} {ls : List L3} {ts : List Bool} (hs : stOk bs ls ts.length = false) : hasF bs ls ts = false := by
  rw [hasF, linF_not hs]; rfl

set_option maxRecDepth 100000 in
set_option maxHeartbeats 2000000 in
theorem hasCycle_walk (w : World) (A : Option Addr) (n c : Nat) (code : List Int) (hr : RowB w A n code) (hnc : n ≤ c) (hc : c ≤ 9223372036854775807) :
    Calls Tryd.prog 3 #[.slice A n c] w fun e w' => e = .returned (.bool true) ∧ Below w.heap.size w w' := by
  by_cases hlen : n ≤ 1048576
  · go_enter Tryd.func3, Tryd.ntmps3
    go_wp2_with fail
    refine (drawHasCycle_any A n c code _ hr hnc hc).mono ?_
    rintro e w1 ⟨bs, A1, c1, ls, v, ts, rfl, hrow, hls, hb0, hb9, hO, hts, a1⟩
    have hbx := below_bx w1 (.cells #[.int .i64 bs, .slice A1 ls.length c1] 25)
    have HR1 := Lib.hid (hrow.below hbx)
    have k1 := Lib.hid (IsBlk.new w1 25 #[.int .i64 bs, .slice A1 ls.length c1])
    have b1 : Below w.heap.size w (w1.alloc (.cells #[.int .i64 bs, .slice A1 ls.length c1] 25)) := a1.alloc a1.size _
    obtain ⟨A2, c2, rfl, _, hrt⟩ := hO.row
    have T1 := Lib.hid (hrt.below hbx)
    clear hrow hr hO hrt
    have h1 : ls.length ≤ 1048576 := by omega
    have h2 : ts.length ≤ 1048576 := by omega
    go_wp2_with fail
    refine (hasCycle_any bs A1 ls.length c1 ls A2 ts.length c2 ts _ h1 HR1.out h2 T1.out).mono ?_
    rintro e w2 ⟨rfl, hb2⟩
    have b2 := b1.trans (hb2.mono b1.size)
    have HR2 := Lib.hid (HR1.out.below hb2)
    have k2 := Lib.hid (k1.out.keep hb2)
    have T2 := Lib.hid (T1.out.below hb2)
    clear HR1 k1 T1
    obtain ⟨p0, p1, _, _⟩ := k2.out.two
    go_wp2_with fail
    refine (specHas_any bs A1 ls.length c1 ls A2 ts.length c2 ts _ h1 HR2.out h2 T2.out).mono ?_
    rintro e w3 ⟨rfl, hb3⟩
    have b3 := b2.trans (hb3.mono b2.size)
    have HR3 := Lib.hid (HR2.out.below hb3)
    have k3 := Lib.hid (k2.out.keep hb3)
    have T3 := Lib.hid (T2.out.below hb3)
    clear HR2 k2 T2 p0 p1
    obtain ⟨p0, p1, _, _⟩ := k3.out.two
    have hne : (hasF bs ls ts != hasF bs ls ts) = false := by simp
    go_wp2_with fail
    refine (specStateValid_any bs A1 ls.length c1 ls A2 ts.length c2 _ h1 HR3.out (by omega)).mono ?_
    rintro e w4 ⟨rfl, hb4⟩
    have b4 := b3.trans (hb4.mono b3.size)
    have HR4 := Lib.hid (HR3.out.below hb4)
    have k4 := Lib.hid (k3.out.keep hb4)
    have T4 := Lib.hid (T3.out.below hb4)
    clear HR3 k3 T3 p0 p1 hne
    obtain ⟨p0, p1, _, _⟩ := k4.out.two
    by_cases hs : stOk bs ls ts.length = true
    · have HLaw := Lib.hid (has_law hs)
      have hla : (iofF bs ls ts).length ≤ 8 := iofF_few _ _ _
      have hX : w1.heap.size < w4.heap.size := k4.out.lt
      have CA := fun (W : World) (hW : Below w4.heap.size w4 W) => islands_any bs A1 ls.length c1 ls A2 ts.length c2 ts W h1 (HR4.out.below hW) h2 (T4.out.below hW)
      have CC := fun (W : World) (hW : Below w4.heap.size w4 W) => (count_any A2 ts.length c2 ts W h2 (T4.out.below hW)).mono (fun e w' (h : e = .returned (.int .i64 (ts.countP id : Nat)) ∧ w' = W) => (⟨h.1, by rw [h.2]; exact Below.refl _ _⟩ : e = .returned (.int .i64 (ts.countP id : Nat)) ∧ Below W.heap.size W w'))
      rw [hs]
      clear hs
      generalize (iofF bs ls ts).length = na at *
      generalize ts.countP id = nc at *
      generalize hasF bs ls ts = t at *
      have hd : IntKind.i64.wrap (bs - (na : Int)) = bs - (na : Int) := IntWalk.i64_in _ (by omega)
      have HA := Lib.hid CA
      have HC := Lib.hid CC
      clear CA CC HR4 T4 k4
      go_upto_region 9 with fail
      go_region_held3 (fun w' => Below w4.heap.size w4 w' ∧ w'.cell? ⟨w1.heap.size, 0, none⟩ = some (.int .i64 bs) ∧ w'.cell? ⟨w1.heap.size, 1, none⟩ = some (.slice A1 ls.length c1))
        (first | exact holdB p0 p1 hX hB9 | exact holdB p0 p1 hX hB10 | exact holdB p0 p1 hX (Below.drew (Below.refl _ _)) | exact holdB p0 p1 hX (Below.refl _ _))
        (first
          | (go_at_call 11; (with_reducible refine (HA.out _ (And.left (by assumption))).mono ?_); rintro e w9 ⟨rfl, hb9'⟩; have hB9 := runQ (by assumption) hb9')
          | (go_at_call 10; (with_reducible refine (HC.out _ (And.left (by assumption))).mono ?_); rintro e w10 ⟨rfl, hb10⟩; have hB10 := runQ (by assumption) hb10))
      all_goals
        rename_i hF
        have bz := b4.trans (hF.1.mono b4.size)
        clear hF
        go_wp2_with fail
        go_ret
        refine ⟨retB ?_, bz⟩
        rw [HLaw.out]
        simp
    · have hs' : stOk bs ls ts.length = false := by rwa [Bool.not_eq_true] at hs
      rw [hs', has_not hs']
      go_wp2_with fail
      refine (alive_any _).mono ?_
      rintro e w6 ⟨rfl, hb6⟩
      go_wp2
      go_ret
      exact ⟨rfl, b4.trans (hb6.mono b4.size)⟩
  · have hl2 : (1048576 : Int) < (n : Int) := by omega
    go_enter Tryd.func3, Tryd.ntmps3
    go_wp2
    go_ret
    exact ⟨rfl, Below.refl _ _⟩
end Go.Proofs.YtcdliaabbhoagaaDoor
