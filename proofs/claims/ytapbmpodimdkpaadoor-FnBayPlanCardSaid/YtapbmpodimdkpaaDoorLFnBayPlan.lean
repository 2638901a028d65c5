/- FnBayPlan (plans lead from any safe bay to any other: all deeds of the plan may be done, one after the other, and lead there; there are at most eight; and no list that leads there has fewer) holds: for every two codes the law returns true. Its listed table is tied to the program's text; no other condition. -/
import Derived.Test.YtapbmpodimdkpaaDoorRows
import Derived.Test.YtapbmpodimdkpaaDoorCards
import Derived.Test.YtapbmpodimdkpaaDoorTie
import Derived.Test.YtapbmpodimdkpaaDoorBayO
import Derived.Test.YtapbmpodimdkpaaDoorG6
import Derived.Test.YtapbmpodimdkpaaDoorBayT
import Derived.Deep.DeepHandedRow
import Derived.Lib.LaidU8
import Derived.Lib.LaidTab
import Derived.LaidSub
import Derived.MakeChecks
import Derived.ProofKit
import Derived.LaidMore
import Derived.OpenShut
import Derived.ShutString
import Derived.ChangeOld
import Derived.Stop.Joined
import Derived.SevenTiedAt
import Derived.Lib.SmallJoins
namespace Go.Proofs.YtapbmpodimdkpaaDoor.lawBayPlan
open Go.ChangeShapes Go.WideShapes Go.ChangeAt Go.RowKit Go.Joins
open Go.ChangeMaps (open_string shut_string)

theorem own : ownKnob Tryd.prog.godebug = none := by kernel_rfl
theorem laidOut : laidOutB Tryd.prog = true := by kernel_rfl
theorem door_met (os : Os) (args : Array Value) : laidMetH Tryd.prog Rows.fnBayPlanRow.laid ((World.doorLaid Tryd.prog 34 os).forCall (fun _ _ => 0) ⟨#[], args, []⟩).memory :=
  laidMetH_of_parts3 (fuel := 8) (laidMet_of_run' 8 (by kernel_rfl) (by kernel_rfl)) (by kernel_rfl) (by kernel_rfl)
theorem must_laid : Rows.fnBayPlanRow.laid.filter (fun x => x.1 == "loop.example/powercontrol/impl.mustBeOpen") = [("loop.example/powercontrol/impl.mustBeOpen", Rows.laid_loop_example_powercontrol_impl_mustBeOpen)] := by kernel_rfl
theorem must_of_row {w : World} (h : laidMetH Tryd.prog Rows.fnBayPlanRow.laid w) : MustTab w := by
  have h1 := h.filter (fun x => x.1 == "loop.example/powercontrol/impl.mustBeOpen")
  rw [must_laid, Go.MakeChecks.laidMetH_plain _ _ _ (by kernel_rfl)] at h1
  exact must_of_laid (by rfl) h1

set_option maxRecDepth 100000 in
theorem lifted (os : Os) (started : os.Started) (H : Type) (enc : TypeId × Value → H) :
    ReturnsInHanded {} Tryd.checked os 7 .any (fun w args => (Rows.fnBayPlanSpec.pre enc Tryd.prog Tryd.f7 [] false w args ∧ laidMetH Tryd.prog Rows.fnBayPlanRow.laid w) ∧ sizedMet enc Tryd.prog Tryd.f7 (OpenSpec.ofChange Rows.fnBayPlanSpec) false w args)
      (Rows.fnBayPlanSpec.post enc Tryd.prog Tryd.f7 false true false false) := by
  refine returnsInHanded_of_change_and (C := Tryd.checked) (X := fun w _ => laidMetH Tryd.prog Rows.fnBayPlanRow.laid w) (fun _ _ _ hh h => h.of_heap hh) own started (by kernel_rfl) Tryd.func7
    (ChangeSpec.witness_shaped (enc := enc) (C := Tryd.checked) (os := os) (X := fun w _ => laidMetH Tryd.prog Rows.fnBayPlanRow.laid w) false (World.doorLaid Tryd.prog 34 os) #[.slice none 0 0, .slice none 0 0] 8 rfl (World.shaped_of_RefB (by kernel_rfl) (by kernel_rfl)) (by kernel_rfl) (by kernel_rfl) (by kernel_rfl) (door_met os _)) ?_
  intro W base args ds gs before hval0 hW _ _ hL _
  have hval : ∀ (j : Nat) t v, Tryd.f7.params[j]? = some t → args[j]? = some v → Value.okWide Tryd.prog W .any base t v := hval0
  have hW' := hW
  obtain ⟨p, q, hA0, hV, rfl, hfz, hnd⟩ := hW
  have hA : DataW.TrodAll enc Tryd.prog W 0 (fun _ => true) true Tryd.f7.params.toList args.toList ds p := hA0
  rw [Tryd.params7] at hA hval
  obtain ⟨v0, vs0, d0, ds0, p0, q0, hargs, rfl, rfl, h0, r0⟩ := trodAll_cons hA
  obtain ⟨v1, vs1, d1, ds1, p1, q1, rfl, rfl, rfl, h1, r1⟩ := trodAll_cons r0
  obtain ⟨rfl, rfl, rfl⟩ := trodAll_nil r1
  obtain rfl : args = #[v0, v1] := by cases args; simp_all
  obtain ⟨gv, tv, cv, fv, dv, pv, rfl, hg1, hg2, hg3, hg4, rfl⟩ := trodVars_one (n := "loop.example/powercontrol/impl.mustBeOpen") hV
  obtain rfl := Option.some.inj ((show Tryd.prog.globalNamed "loop.example/powercontrol/impl.mustBeOpen" = some 0 by kernel_rfl).symm.trans hg1)
  obtain rfl := Option.some.inj ((show (Tryd.prog.globals[0]?).map (·.type) = some 69 by kernel_rfl).symm.trans hg2)
  have kv : DataW.Trod enc Tryd.prog W 0 (fun _ => true) true 69 (.agg cv) dv pv := ⟨fv, hg4⟩
  have ltv : ∀ x ∈ pv, x.block < W.heap.size := fun x hx => DataW.trod_lt fv _ _ _ hg4 x hx
  have k0 := h0
  have lt0 : ∀ x ∈ p0, x.block < W.heap.size := by obtain ⟨m, hm⟩ := k0; exact DataW.trod_lt m _ _ _ hm
  obtain ⟨A0, n0, cc0, rfl⟩ := okWide_slice Tryd.underlying22 (hval 0 22 v0 rfl rfl)
  obtain ⟨hnc0, hc0, xs0, hr0⟩ := openCode h0
  have k1 := h1
  have lt1 : ∀ x ∈ p1, x.block < W.heap.size := by obtain ⟨m, hm⟩ := k1; exact DataW.trod_lt m _ _ _ hm
  obtain ⟨A1, n1, cc1, rfl⟩ := okWide_slice Tryd.underlying22 (hval 1 22 v1 rfl rfl)
  obtain ⟨hnc1, hc1, xs1, hr1⟩ := openCode h1
  clear hA0 hval0
  refine (lawBayPlan_walk W A0 n0 cc0 xs0 hr0 hnc0 hc0 A1 n1 cc1 xs1 hr1 hnc1 hc1 (must_of_row hL)).mono fun e W' ⟨he, bel⟩ => ?_
  subst he
  obtain ⟨fv', hg4'⟩ := Below.trod laidOut (by kernel_rfl) (of_decide_eq_true (by kernel_rfl)) kv bel ltv
  exact ⟨_, rfl, _, _, _, [], _, _, hW', trodAll_mk1 (shut_bool Tryd.underlying4 _), (trodAll_cons_mk (Below.trod laidOut (by kernel_rfl) (of_decide_eq_true (by kernel_rfl)) k0 bel lt0) (trodAll_cons_mk (Below.trod laidOut (by kernel_rfl) (of_decide_eq_true (by kernel_rfl)) k1 bel lt1) trodAll_mk0)), trodVars_mk1 hg1 hg2 (var_keep hg1 hg3 bel) hg4', bel.frame _, fun h => by cases h⟩

theorem over : Rows.FnBayPlanSaid :=
  OpenClaim.holds_of_wide 7 Tryd.f7 rfl rfl rfl rfl rfl rfl rfl ⟨rfl, rfl, rfl, rfl, rfl⟩ rfl rfl rfl rfl rfl (by kernel_rfl) Tryd.func7 (by kernel_rfl)
    (of_decide_eq_true (by kernel_rfl)) (by unfold Func.isWrapper; first | (rw [if_pos (by decide +kernel)]; kernel_rfl) | (rw [if_neg (by decide +kernel)]; exact ⟨rfl, rfl⟩))
    (fun os started H enc _ => lifted os started H enc)

theorem proved : Rows.FnBayPlanCardSaid :=
  Claim7.holds_tied_plain_at .later [] [.data, .data, .data, .data] true (true, "b75a011136de24b520924e17c81420ca395423b281e2bc2a67e62e4aaf539236") false
    over (fun _ h => by cases h) (by kernel_rfl) (fun _ h => by cases h) fnBayPlan_row_tie rfl ⟨rfl, rfl⟩ (by kernel_rfl) rfl
    (fun f fn hf hfn => by
      obtain rfl : f = 7 := Option.some.inj ((show Tryd.prog.funcNamed "loop.example/powercontrol/laws.FnBayPlan" = some 7 by kernel_rfl).symm.trans hf) |>.symm
      obtain rfl : fn = Tryd.f7 := (Option.some.inj (Tryd.func7.symm.trans hfn)).symm
      exact ⟨by kernel_rfl, fun j t ht => by
        rw [Tryd.params7] at ht
        have hm : t ∈ [22, 22] := by simpa using Array.mem_of_getElem? ht
        have hall : ([22, 22].all fun u => !Tryd.prog.wantsStandIn u) = true := by kernel_rfl
        exact (show Tryd.prog.wantsStandIn t = false by simpa using List.all_eq_true.1 hall t hm)⟩)
    (by kernel_rfl)
end Go.Proofs.YtapbmpodimdkpaaDoor.lawBayPlan
