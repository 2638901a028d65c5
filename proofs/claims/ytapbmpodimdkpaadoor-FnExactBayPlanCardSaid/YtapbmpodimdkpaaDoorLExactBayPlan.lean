/- The exact law of BayPlan holds: for every two bays the law returns true. Its listed table is tied to the program's text; no other condition. -/
import Derived.Test.YtapbmpodimdkpaaDoorRows
import Derived.Test.YtapbmpodimdkpaaDoorCards
import Derived.Test.YtapbmpodimdkpaaDoorTie
import Derived.Test.YtapbmpodimdkpaaDoorBayG
import Derived.Test.YtapbmpodimdkpaaDoorBayT
import Derived.Deep.DeepHandedRow
import Derived.Lib.LaidU8
import Derived.Lib.LaidTab
import Derived.LaidSub
import Derived.MakeChecks
import Derived.ProofKit
import Derived.LaidMore
import Derived.OpenShut
import Derived.ShutString
import Derived.ChangeOld
import Derived.Stop.Joined
import Derived.SevenTiedAt
import Derived.Lib.SmallJoins
namespace Go.Proofs.YtapbmpodimdkpaaDoor.exactBayPlan
open Go.ChangeShapes Go.WideShapes Go.ChangeAt Go.RowKit Go.Joins
open Go.ChangeMaps (open_string shut_string)

theorem own : ownKnob Tryd.prog.godebug = none := by kernel_rfl
theorem laidOut : laidOutB Tryd.prog = true := by kernel_rfl
theorem door_met (os : Os) (args : Array Value) : laidMetH Tryd.prog Rows.fnExactBayPlanRow.laid ((World.doorLaid Tryd.prog 34 os).forCall (fun _ _ => 0) ⟨#[], args, []⟩).memory :=
  laidMetH_of_parts3 (fuel := 8) (laidMet_of_run' 8 (by kernel_rfl) (by kernel_rfl)) (by kernel_rfl) (by kernel_rfl)
theorem must_laid : Rows.fnExactBayPlanRow.laid.filter (fun x => x.1 == "loop.example/powercontrol/impl.mustBeOpen") = [("loop.example/powercontrol/impl.mustBeOpen", Rows.laid_loop_example_powercontrol_impl_mustBeOpen)] := by kernel_rfl
theorem must_of_row {w : World} (h : laidMetH Tryd.prog Rows.fnExactBayPlanRow.laid w) : MustTab w := by
  have h1 := h.filter (fun x => x.1 == "loop.example/powercontrol/impl.mustBeOpen")
  rw [must_laid, Go.MakeChecks.laidMetH_plain _ _ _ (by kernel_rfl)] at h1
  exact must_of_laid (by rfl) h1

set_option maxRecDepth 100000 in
theorem lifted (os : Os) (started : os.Started) (H : Type) (enc : TypeId × Value → H) :
    ReturnsInHanded {} Tryd.checked os 11 .any (fun w args => (Rows.fnExactBayPlanSpec.pre enc Tryd.prog Tryd.f11 [] false w args ∧ laidMetH Tryd.prog Rows.fnExactBayPlanRow.laid w) ∧ sizedMet enc Tryd.prog Tryd.f11 (OpenSpec.ofChange Rows.fnExactBayPlanSpec) false w args)
      (Rows.fnExactBayPlanSpec.post enc Tryd.prog Tryd.f11 false true false false) := by
  refine returnsInHanded_of_change_and (C := Tryd.checked) (X := fun w _ => laidMetH Tryd.prog Rows.fnExactBayPlanRow.laid w) (fun _ _ _ hh h => h.of_heap hh) own started (by kernel_rfl) Tryd.func11
    (ChangeSpec.witness_shaped (enc := enc) (C := Tryd.checked) (os := os) (X := fun w _ => laidMetH Tryd.prog Rows.fnExactBayPlanRow.laid w) false (World.doorLaid Tryd.prog 34 os) #[.agg #[.bool false, .bool false, .bool false, .bool false], .agg #[.bool false, .bool false, .bool false, .bool false]] 8 rfl (World.shaped_of_RefB (by kernel_rfl) (by kernel_rfl)) (by kernel_rfl) (by kernel_rfl) (by kernel_rfl) (door_met os _)) ?_
  intro W base args ds gs before hval0 hW _ _ hL _
  have hval : ∀ (j : Nat) t v, Tryd.f11.params[j]? = some t → args[j]? = some v → Value.okWide Tryd.prog W .any base t v := hval0
  have hW' := hW
  obtain ⟨p, q, hA0, hV, rfl, hfz, hnd⟩ := hW
  have hA : DataW.TrodAll enc Tryd.prog W 0 (fun _ => true) true Tryd.f11.params.toList args.toList ds p := hA0
  rw [Tryd.params11] at hA hval
  obtain ⟨v0, vs0, d0, ds0, p0, q0, hargs, rfl, rfl, h0, r0⟩ := trodAll_cons hA
  obtain ⟨v1, vs1, d1, ds1, p1, q1, rfl, rfl, rfl, h1, r1⟩ := trodAll_cons r0
  obtain ⟨rfl, rfl, rfl⟩ := trodAll_nil r1
  obtain rfl : args = #[v0, v1] := by cases args; simp_all
  obtain ⟨gv, tv, cv, fv, dv, pv, rfl, hg1, hg2, hg3, hg4, rfl⟩ := trodVars_one (n := "loop.example/powercontrol/impl.mustBeOpen") hV
  obtain rfl := Option.some.inj ((show Tryd.prog.globalNamed "loop.example/powercontrol/impl.mustBeOpen" = some 0 by kernel_rfl).symm.trans hg1)
  obtain rfl := Option.some.inj ((show (Tryd.prog.globals[0]?).map (·.type) = some 69 by kernel_rfl).symm.trans hg2)
  have kv : DataW.Trod enc Tryd.prog W 0 (fun _ => true) true 69 (.agg cv) dv pv := ⟨fv, hg4⟩
  have ltv : ∀ x ∈ pv, x.block < W.heap.size := fun x hx => DataW.trod_lt fv _ _ _ hg4 x hx
  have k0 := h0
  have lt0 : ∀ x ∈ p0, x.block < W.heap.size := by obtain ⟨m, hm⟩ := k0; exact DataW.trod_lt m _ _ _ hm
  obtain ⟨ca0, cb0, cc0, cd0, ya0, yb0, yc0, yd0, m0, rfl, hd00, hp00, ha0, hb0, hc0, hd0⟩ := open_agg4 Tryd.underlying44 (by kernel_rfl) (by kernel_rfl) (hval 0 44 v0 rfl rfl) h0
  obtain ⟨xa0, ea0, _⟩ := DataW.trod_bool Tryd.underlying4 ha0
  simp only [List.cons.injEq, and_true] at ea0
  subst ea0
  obtain ⟨xb0, eb0, _⟩ := DataW.trod_bool Tryd.underlying4 hb0
  simp only [List.cons.injEq, and_true] at eb0
  subst eb0
  obtain ⟨xc0, ec0, _⟩ := DataW.trod_bool Tryd.underlying4 hc0
  simp only [List.cons.injEq, and_true] at ec0
  subst ec0
  obtain ⟨xd0, ed0, _⟩ := DataW.trod_bool Tryd.underlying4 hd0
  simp only [List.cons.injEq, and_true] at ed0
  subst ed0
  have k1 := h1
  have lt1 : ∀ x ∈ p1, x.block < W.heap.size := by obtain ⟨m, hm⟩ := k1; exact DataW.trod_lt m _ _ _ hm
  obtain ⟨ca1, cb1, cc1, cd1, ya1, yb1, yc1, yd1, m1, rfl, hd01, hp01, ha1, hb1, hc1, hd1⟩ := open_agg4 Tryd.underlying44 (by kernel_rfl) (by kernel_rfl) (hval 1 44 v1 rfl rfl) h1
  obtain ⟨xa1, ea1, _⟩ := DataW.trod_bool Tryd.underlying4 ha1
  simp only [List.cons.injEq, and_true] at ea1
  subst ea1
  obtain ⟨xb1, eb1, _⟩ := DataW.trod_bool Tryd.underlying4 hb1
  simp only [List.cons.injEq, and_true] at eb1
  subst eb1
  obtain ⟨xc1, ec1, _⟩ := DataW.trod_bool Tryd.underlying4 hc1
  simp only [List.cons.injEq, and_true] at ec1
  subst ec1
  obtain ⟨xd1, ed1, _⟩ := DataW.trod_bool Tryd.underlying4 hd1
  simp only [List.cons.injEq, and_true] at ed1
  subst ed1
  clear hA0 hval0
  refine (exactBayPlan_walk W xa0 xb0 xc0 xd0 xa1 xb1 xc1 xd1 (must_of_row hL)).mono fun e W' ⟨he, bel⟩ => ?_
  subst he
  obtain ⟨fv', hg4'⟩ := Below.trod laidOut (by kernel_rfl) (of_decide_eq_true (by kernel_rfl)) kv bel ltv
  exact ⟨_, rfl, _, _, _, [], _, _, hW', trodAll_mk1 (shut_bool Tryd.underlying4 _), (trodAll_cons_mk (Below.trod laidOut (by kernel_rfl) (of_decide_eq_true (by kernel_rfl)) k0 bel lt0) (trodAll_cons_mk (Below.trod laidOut (by kernel_rfl) (of_decide_eq_true (by kernel_rfl)) k1 bel lt1) trodAll_mk0)), trodVars_mk1 hg1 hg2 (var_keep hg1 hg3 bel) hg4', bel.frame _, fun h => by cases h⟩

theorem over : Rows.FnExactBayPlanSaid :=
  OpenClaim.holds_of_wide 11 Tryd.f11 rfl rfl rfl rfl rfl rfl rfl ⟨rfl, rfl, rfl, rfl, rfl⟩ rfl rfl rfl rfl rfl (by kernel_rfl) Tryd.func11 (by kernel_rfl)
    (of_decide_eq_true (by kernel_rfl)) (by unfold Func.isWrapper; first | (rw [if_pos (by decide +kernel)]; kernel_rfl) | (rw [if_neg (by decide +kernel)]; exact ⟨rfl, rfl⟩))
    (fun os started H enc _ => lifted os started H enc)

theorem proved : Rows.FnExactBayPlanCardSaid :=
  Claim7.holds_tied_plain_at .later [] [.data] true (true, "b75a011136de24b520924e17c81420ca395423b281e2bc2a67e62e4aaf539236") false
    over (fun _ h => by cases h) (by kernel_rfl) (fun _ h => by cases h) fnExactBayPlan_row_tie rfl ⟨rfl, rfl⟩ (by kernel_rfl) rfl
    (fun f fn hf hfn => by
      obtain rfl : f = 11 := Option.some.inj ((show Tryd.prog.funcNamed "loop.example/powercontrol/laws.FnExactBayPlan" = some 11 by kernel_rfl).symm.trans hf) |>.symm
      obtain rfl : fn = Tryd.f11 := (Option.some.inj (Tryd.func11.symm.trans hfn)).symm
      exact ⟨by kernel_rfl, fun j t ht => by
        rw [Tryd.params11] at ht
        have hm : t ∈ [44, 44] := by simpa using Array.mem_of_getElem? ht
        have hall : ([44, 44].all fun u => !Tryd.prog.wantsStandIn u) = true := by kernel_rfl
        exact (show Tryd.prog.wantsStandIn t = false by simpa using List.all_eq_true.1 hall t hm)⟩)
    (by kernel_rfl)
end Go.Proofs.YtapbmpodimdkpaaDoor.exactBayPlan
