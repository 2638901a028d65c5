/- FnBayRun (no list of deeds makes a safe bay unsafe: the first ones that were done, run alone, lead to the same bay, and in a bay that was safe they can be undone in the other order) holds: for every code the law returns true. Its listed table is tied to the program's text; no other condition. -/
import Derived.Test.YtapbmpodimdkpaaDoorRows
import Derived.Test.YtapbmpodimdkpaaDoorCards
import Derived.Test.YtapbmpodimdkpaaDoorTie
import Derived.Test.YtapbmpodimdkpaaDoorBayN
import Derived.Test.YtapbmpodimdkpaaDoorG6
import Derived.Test.YtapbmpodimdkpaaDoorBayT
import Derived.Deep.DeepHandedRow
import Derived.Lib.LaidU8
import Derived.Lib.LaidTab
import Derived.LaidSub
import Derived.MakeChecks
import Derived.ProofKit
import Derived.LaidMore
import Derived.OpenShut
import Derived.ShutString
import Derived.ChangeOld
import Derived.Stop.Joined
import Derived.SevenTiedAt
import Derived.Lib.SmallJoins
namespace Go.Proofs.YtapbmpodimdkpaaDoor.lawBayRun
open Go.ChangeShapes Go.WideShapes Go.ChangeAt Go.RowKit Go.Joins
open Go.ChangeMaps (open_string shut_string)

theorem own : ownKnob Tryd.prog.godebug = none := by kernel_rfl
theorem laidOut : laidOutB Tryd.prog = true := by kernel_rfl
theorem door_met (os : Os) (args : Array Value) : laidMetH Tryd.prog Rows.fnBayRunRow.laid ((World.doorLaid Tryd.prog 34 os).forCall (fun _ _ => 0) ⟨#[], args, []⟩).memory :=
  laidMetH_of_parts3 (fuel := 8) (laidMet_of_run' 8 (by kernel_rfl) (by kernel_rfl)) (by kernel_rfl) (by kernel_rfl)
theorem must_laid : Rows.fnBayRunRow.laid.filter (fun x => x.1 == "loop.example/powercontrol/impl.mustBeOpen") = [("loop.example/powercontrol/impl.mustBeOpen", Rows.laid_loop_example_powercontrol_impl_mustBeOpen)] := by kernel_rfl
theorem must_of_row {w : World} (h : laidMetH Tryd.prog Rows.fnBayRunRow.laid w) : MustTab w := by
  have h1 := h.filter (fun x => x.1 == "loop.example/powercontrol/impl.mustBeOpen")
  rw [must_laid, Go.MakeChecks.laidMetH_plain _ _ _ (by kernel_rfl)] at h1
  exact must_of_laid (by rfl) h1

set_option maxRecDepth 100000 in
theorem lifted (os : Os) (started : os.Started) (H : Type) (enc : TypeId × Value → H) :
    ReturnsInHanded {} Tryd.checked os 6 .any (fun w args => (Rows.fnBayRunSpec.pre enc Tryd.prog Tryd.f6 [] false w args ∧ laidMetH Tryd.prog Rows.fnBayRunRow.laid w) ∧ sizedMet enc Tryd.prog Tryd.f6 (OpenSpec.ofChange Rows.fnBayRunSpec) false w args)
      (Rows.fnBayRunSpec.post enc Tryd.prog Tryd.f6 false true false false) := by
  refine returnsInHanded_of_change_and (C := Tryd.checked) (X := fun w _ => laidMetH Tryd.prog Rows.fnBayRunRow.laid w) (fun _ _ _ hh h => h.of_heap hh) own started (by kernel_rfl) Tryd.func6
    (ChangeSpec.witness_shaped (enc := enc) (C := Tryd.checked) (os := os) (X := fun w _ => laidMetH Tryd.prog Rows.fnBayRunRow.laid w) false (World.doorLaid Tryd.prog 34 os) #[.slice none 0 0] 8 rfl (World.shaped_of_RefB (by kernel_rfl) (by kernel_rfl)) (by kernel_rfl) (by kernel_rfl) (by kernel_rfl) (door_met os _)) ?_
  intro W base args ds gs before hval0 hW _ _ hL _
  have hval : ∀ (j : Nat) t v, Tryd.f6.params[j]? = some t → args[j]? = some v → Value.okWide Tryd.prog W .any base t v := hval0
  have hW' := hW
  obtain ⟨p, q, hA0, hV, rfl, hfz, hnd⟩ := hW
  have hA : DataW.TrodAll enc Tryd.prog W 0 (fun _ => true) true Tryd.f6.params.toList args.toList ds p := hA0
  rw [Tryd.params6] at hA hval
  obtain ⟨v0, vs0, d0, ds0, p0, q0, hargs, rfl, rfl, h0, r0⟩ := trodAll_cons hA
  obtain ⟨rfl, rfl, rfl⟩ := trodAll_nil r0
  obtain rfl : args = #[v0] := by cases args; simp_all
  obtain ⟨gv, tv, cv, fv, dv, pv, rfl, hg1, hg2, hg3, hg4, rfl⟩ := trodVars_one (n := "loop.example/powercontrol/impl.mustBeOpen") hV
  obtain rfl := Option.some.inj ((show Tryd.prog.globalNamed "loop.example/powercontrol/impl.mustBeOpen" = some 0 by kernel_rfl).symm.trans hg1)
  obtain rfl := Option.some.inj ((show (Tryd.prog.globals[0]?).map (·.type) = some 69 by kernel_rfl).symm.trans hg2)
  have kv : DataW.Trod enc Tryd.prog W 0 (fun _ => true) true 69 (.agg cv) dv pv := ⟨fv, hg4⟩
  have ltv : ∀ x ∈ pv, x.block < W.heap.size := fun x hx => DataW.trod_lt fv _ _ _ hg4 x hx
  have k0 := h0
  have lt0 : ∀ x ∈ p0, x.block < W.heap.size := by obtain ⟨m, hm⟩ := k0; exact DataW.trod_lt m _ _ _ hm
  obtain ⟨A0, n0, cc0, rfl⟩ := okWide_slice Tryd.underlying22 (hval 0 22 v0 rfl rfl)
  obtain ⟨hnc0, hc0, xs0, hr0⟩ := openCode h0
  clear hA0 hval0
  refine (lawBayRun_walk W A0 n0 cc0 xs0 hr0 hnc0 hc0 (must_of_row hL)).mono fun e W' ⟨he, bel⟩ => ?_
  subst he
  obtain ⟨fv', hg4'⟩ := Below.trod laidOut (by kernel_rfl) (of_decide_eq_true (by kernel_rfl)) kv bel ltv
  exact ⟨_, rfl, _, _, _, [], _, _, hW', trodAll_mk1 (shut_bool Tryd.underlying4 _), (trodAll_cons_mk (Below.trod laidOut (by kernel_rfl) (of_decide_eq_true (by kernel_rfl)) k0 bel lt0) trodAll_mk0), trodVars_mk1 hg1 hg2 (var_keep hg1 hg3 bel) hg4', bel.frame _, fun h => by cases h⟩

theorem over : Rows.FnBayRunSaid :=
  OpenClaim.holds_of_wide 6 Tryd.f6 rfl rfl rfl rfl rfl rfl rfl ⟨rfl, rfl, rfl, rfl, rfl⟩ rfl rfl rfl rfl rfl (by kernel_rfl) Tryd.func6 (by kernel_rfl)
    (of_decide_eq_true (by kernel_rfl)) (by unfold Func.isWrapper; first | (rw [if_pos (by decide +kernel)]; kernel_rfl) | (rw [if_neg (by decide +kernel)]; exact ⟨rfl, rfl⟩))
    (fun os started H enc _ => lifted os started H enc)

theorem proved : Rows.FnBayRunCardSaid :=
  Claim7.holds_tied_plain_at .later [] [.data, .data, .data, .data] true (true, "b75a011136de24b520924e17c81420ca395423b281e2bc2a67e62e4aaf539236") false
    over (fun _ h => by cases h) (by kernel_rfl) (fun _ h => by cases h) fnBayRun_row_tie rfl ⟨rfl, rfl⟩ (by kernel_rfl) rfl
    (fun f fn hf hfn => by
      obtain rfl : f = 6 := Option.some.inj ((show Tryd.prog.funcNamed "loop.example/powercontrol/laws.FnBayRun" = some 6 by kernel_rfl).symm.trans hf) |>.symm
      obtain rfl : fn = Tryd.f6 := (Option.some.inj (Tryd.func6.symm.trans hfn)).symm
      exact ⟨by kernel_rfl, fun j t ht => by
        rw [Tryd.params6] at ht
        have hm : t ∈ [22] := by simpa using Array.mem_of_getElem? ht
        have hall : ([22].all fun u => !Tryd.prog.wantsStandIn u) = true := by kernel_rfl
        exact (show Tryd.prog.wantsStandIn t = false by simpa using List.all_eq_true.1 hall t hm)⟩)
    (by kernel_rfl)
end Go.Proofs.YtapbmpodimdkpaaDoor.lawBayRun
