/- Texts joined: A region that draws its order in a round of a loop over a function: walked by the laws of regions under a held condition. No program; The iterator of slices.Backward at numbers, as the program has it: all of them, the last one first; The memory of the pass that reckons the flows. -/
import Derived.Test.YtpmkeagdoehbhaaBPA
import Derived.RangeFuncNested
import Derived.RangeFuncBound
import Derived.RangeFuncCalls
import Derived.RangeFuncLeaves
import Derived.Shelf.Abstract
import Derived.Shelf.RegionOpen
import Derived.WalkKit
import Derived.OwnWalkIn
import Derived.TacticsInMore
import Derived.LoopNIn
import Derived.LoopIn
import Derived.Deep.RegionHeld3
import Derived.Test.YtpmkeagdoehbhaaBPC
import Derived.Test.YtpmkeagdoehbhaaBZA
import Derived.Test.YtpmkeagdoehbhaaBHE

/- A region that draws its order in a round of a loop over a function: walked by the laws of regions under a held condition. No program. -/
namespace Go.Proofs.Ytpmkeagdoehbhaa
open Go.RowKit Go.Shelf

theorem oper_round {P : Program} {o : Oper} {a : Act} {w : World} {K : Act → World → Prop} {Q : Exit → Act → World → Prop} (l n : Nat) (hd : ∀ c, o.op ≠ .defer c) (h : o.wp P a w K Q) : o.wpIn (Fence.wide.inRound l) n P a w K Q := by
  unfold Oper.wpIn
  refine ⟨fun _ _ => trivial, ?_⟩
  rw [show (Fence.wide.inRound l).round = some l from rfl, Oper.semAt_some l a.eval o hd]
  unfold Oper.wp at h
  generalize (execOp a.eval o).run P w = r at h ⊢
  have hdep : ∀ m : Nat, ((Fence.wide.inRound l).depth.isSome = true → 1 ≤ m) := fun m h => by cases h
  cases r with
  | ok x w' =>
    cases x <;> simp only [Oper.upon, Oper.uponIn] at h ⊢ <;>
      first
        | exact h
        | exact ⟨hdep _, CallsIn.inRound l (callsIn_wide.2 h)⟩
        | exact ⟨hdep _, fun c cs _ => let ⟨v, w2, q, s⟩ := h c cs; ⟨v, w2, q, stepsIn_wide.2 s⟩⟩
  | halt x w' => cases x <;> simp only [Oper.upon, Oper.uponIn] at h ⊢ <;> exact h
/-- No operation of the region is a 'defer' statement. -/
def noDefers (ops : Array Oper) : Bool := ops.all fun o => match o.op with | .defer _ => false | _ => true
theorem noDefers_at {ops : Array Oper} (h : noDefers ops = true) {i : Nat} {o : Oper} (ho : ops[i]? = some o) (c : Call) : o.op ≠ .defer c := by
  intro e
  rw [noDefers, Array.all_eq_true] at h
  obtain ⟨hi, e2⟩ := Array.getElem?_eq_some_iff.1 ho
  have := h i hi
  rw [e2, e] at this
  cases this
theorem wpOp_round {P : Program} {ops : Array Oper} {Q : Exit → Act → World → Prop} {K : Act → World → Prop} {i : Nat} {a : Act} {w : World} (l n : Nat) (hd : noDefers ops = true) (hQ : ¬ LetsOut Q) (h : wpOp P ops Q i K a w) : wpOpIn (Fence.wide.inRound l) n P ops Q i K a w := by
  unfold wpOp at h
  unfold wpOpIn
  cases ho : ops[i]? with
  | none => simp only [ho] at h ⊢; exact h
  | some o =>
    simp only [ho] at h ⊢
    split at h
    · rename_i hw
      rw [if_pos hw]
      exact oper_round l n (noDefers_at hd ho) (h.resolve_right (fun h => hQ h.2))
    · rename_i hw
      rw [if_neg hw]
      exact ⟨fun _ _ => trivial, h⟩
theorem wpAny_round {P : Program} {ops : Array Oper} {Q : Exit → Act → World → Prop} {md : Region.Mode} (l n : Nat) (hd : noDefers ops = true) (hQ : ¬ LetsOut Q) : ∀ (fuel : Nat) (listed : Array Bool) (a : Act) (w : World), wpAny P md ops Q fuel listed a w → wpAnyIn (Fence.wide.inRound l) n P md ops Q fuel listed a w
  | 0, _, _, _, h => h
  | fuel + 1, _listed, _a, _w, h => ⟨h.1, fun i hi => wpOpIn_mono (fun a w h => wpAny_round l n hd hQ fuel _ a w h) (wpOp_round l n hd hQ (h.2 i hi))⟩
/-- The region under a held condition S, in a round. -/
theorem wpIn_region_round {P : Program} {ops : Array Oper} {Q : Exit → Act → World → Prop} {S : World → Prop} {id l n : Nat} {a : Act} {w : World} (hm : P.follows .mixedOrders = true) (hd : noDefers ops = true) (hQ : ¬ LetsOut Q) (hS : S w.drew)
    (h : S w.drew → wpAnyH P .any ops Q S ops.size (Array.replicate ops.size false) a w.drew) : (Code.region id ops true).wpIn (Fence.wide.inRound l) n P Q a w :=
  wpIn_region_any hm (wpAny_round l n hd hQ _ _ _ _ (wpAny_of_held _ _ _ _ (h hS)))
/-- What holds of two blocks, whatever else turns. -/
def KeepTwo (p q : Nat) (W W' : World) : Prop := W'.heap[p]? = W.heap[p]? ∧ W'.heap[q]? = W.heap[q]?
theorem KeepTwo.refl (p q : Nat) (W : World) : KeepTwo p q W W := ⟨rfl, rfl⟩
theorem keepTwo_t {p q : Nat} {A B C : World} (h : KeepTwo p q A B) (k : KeepTwo p q B C) : KeepTwo p q A C := ⟨k.1.trans h.1, k.2.trans h.2⟩
theorem keepTwo_b {p q : Nat} {w : World} (hp : p < w.heap.size) (hq : q < w.heap.size) (W : World) (l : Nat) (o o' : Obj) (hl : w.heap.size ≤ l) (_ : W.heap[l]? = some o) (_ : o.isCells = false) (_ : o.isWalk = false) : KeepTwo p q W (W.putObj l o') :=
  ⟨World.putObj_heap_other (by omega), World.putObj_heap_other (by omega)⟩
end Go.Proofs.Ytpmkeagdoehbhaa

/- The iterator of slices.Backward at numbers, as the program has it: all of them, the last one first. -/
namespace Go.Proofs.Ytpmkeagdoehbhaa
open Go.RowKit Go.Shelf
attribute [local go_sem] Oper.semAt_some

/-- What comes: an index and what stands there. -/
abbrev BackA (zs : List Nat) := { p : Nat × Nat // zs[p.1]? = some p.2 }

theorem backward_any (A : Option Addr) (n c : Nat) (w : World) :
    Calls Try.prog 60 #[.slice A n c] w fun e w' => e = .returned (.func (.func 73) #[] #[.pointer (some ⟨w.heap.size, 0, none⟩)]) ∧ w' = w.alloc (.cells #[.slice A n c] 27) := by
  go_enter Try.func60, Try.ntmps60
  go_wp2
  go_ret
  exact ⟨rfl, rfl⟩

set_option maxRecDepth 100000 in
set_option maxHeartbeats 2000000 in
theorem backward_in (F : Fence) (n : Nat) (hF : F.fn 73) (hro : F.round = none) (hn : 1 ≤ n) (l Bs q : Nat) (A : Option Addr) (cap : Nat) (zs : List Nat) (hz : zs.length ≤ 1000) (hq : 0 < zs.length → ∀ b off, A = some ⟨b, off, none⟩ → b = q) (J Jx : List (BackA zs) → World → Prop)
    (hY : ∀ pre x W, J pre W → pre.length < zs.length → YieldAt F (n - 1) Try.prog l #[.int .i64 (x.1.1 : Int), .int .i64 (x.1.2 : Int)] W fun e W' =>
      (e = .returned (.bool true) ∧ J (pre ++ [x]) W' ∧ KeepTwo Bs q W W') ∨ (e = .returned (.bool false) ∧ Jx (pre ++ [x]) W'))
    (W : World) (hBs : W.cell? ⟨Bs, 0, none⟩ = some (.slice A zs.length cap)) (hR : RowZ W A zs.length (ofN zs)) (h0 : J [] W) :
    CallsIn F n Try.prog 73 #[.func (.yield l) #[] #[], .pointer (some ⟨Bs, 0, none⟩)] W fun e W' => (∃ v, e = .returned v) ∧
      ((∃ ys : List (BackA zs), ys.map (fun p => p.1.2) = zs.reverse ∧ J ys W') ∨ (∃ pre : List (BackA zs), True ∧ Jx pre W')) := by
  have hw0 : IntKind.i64.wrap ((zs.length : Int) - 1) = (zs.length : Int) - 1 := IntWalk.i64_in _ (by omega)
  refine callsIn_of_wp Try.func73 rfl hF ?_ hro
  simp only [Try.ntmps73, List.size_toArray, List.length_cons, List.length_nil, Nat.reduceAdd, Nat.reduceSub, Array.replicate_succ, Array.replicate_zero, List.push_toArray, List.append_toArray, List.nil_append, List.cons_append]
  gi_wp2
  gi_loopw [3] (fun i wr => ∃ (x : Int) (j : Nat) (pre : List (BackA zs)), i = .int .i64 x ∧ x = (j : Int) - 1 ∧ j ≤ zs.length ∧ pre.map (fun p => p.1.2) = (zs.drop j).reverse ∧ J pre wr ∧ KeepTwo Bs q W wr)
    (fun i _ => (intOf i + 1).toNat)
  case atStart => exact ⟨(zs.length : Int) - 1, zs.length, [], rfl, rfl, Nat.le_refl _, by simp, h0, KeepTwo.refl _ _ _⟩
  case round =>
    obtain ⟨x, j, pre, rfl, hx, hj, hpre, hJ, hk⟩ := hrel
    have hbs := (World.cell?_of_block (a := ⟨Bs, 0, none⟩) hk.1).trans hBs
    by_cases h0 : 0 ≤ x
    · obtain ⟨k, rfl⟩ := Int.eq_ofNat_of_zero_le h0
      obtain rfl : j = k + 1 := by omega
      have hkl : k < zs.length := by omega
      have hzk : zs[k]? = some zs[k] := List.getElem?_eq_getElem hkl
      have hdr : zs.drop k = zs[k] :: zs.drop (k + 1) := List.drop_eq_getElem_cons hkl
      generalize zs[k] = z at hzk hdr
      obtain ⟨b, off, y, rfl, hb, hky, hc⟩ := hR.at_ hkl
      obtain rfl := hq (by omega) b off rfl
      rw [ofN_get hzk] at hky
      injection hky with hky
      subst hky
      have hc2 := (World.cell?_of_block (a := ⟨b, off + k, none⟩) hk.2).trans hc
      have hlen : pre.length < zs.length := by
        have := congrArg List.length hpre
        simp at this
        omega
      obtain ⟨fn, tmps, assign, body, hy, hR3⟩ := hY pre ⟨(k, z), hzk⟩ wr hJ hlen
      dsimp only at hy
      have hwk : IntKind.i64.wrap ((k : Int) - 1) = (k : Int) - 1 := IntWalk.i64_in _ (by omega)
      have ii1 : (k : Int) < (zs.length : Int) := by omega
      have HDR := Lib.hid hdr
      have HPRE := Lib.hid hpre
      clear hw0 hc hBs hdr hpre hx hlen h0
      gi_wp2
      refine hR3.mono ?_
      rintro e W3 (⟨rfl, hJ3, hk3⟩ | ⟨rfl, hJx3⟩)
      · gi_wp2
        go_roundw
        case rel => exact ⟨(k : Int) - 1, k, pre ++ [⟨(k, z), hzk⟩], by go_num, rfl, by omega, by rw [List.map_append, HPRE.out, HDR.out]; simp, hJ3, keepTwo_t hk hk3⟩
        case measure => simp [intOf]
      · gi_wp2
        refine bodyPost_ret (results_none rfl _ _ _) rfl ?_
        exact ⟨⟨_, rfl⟩, .inr ⟨_, trivial, hJx3⟩⟩
    · obtain rfl : j = 0 := by omega
      gi_wp2
      go_end0
      exact ⟨⟨_, rfl⟩, .inl ⟨pre, by simpa using hpre, hJ⟩⟩

theorem backward_stops (F : Fence) (n : Nat) (hF : F.fn 73) (hro : F.round = none) (hn : 1 ≤ n) (Bs q : Nat) (A : Option Addr) (cap : Nat) (zs : List Nat) (hz : zs.length ≤ 1000) (hq : 0 < zs.length → ∀ b off, A = some ⟨b, off, none⟩ → b = q) (w : World) (hBs : Bs < w.heap.size)
    (hc : w.cell? ⟨Bs, 0, none⟩ = some (.slice A zs.length cap)) (hR : RowZ w A zs.length (ofN zs)) :
    SeqStopsK F n Try.prog 73 #[.pointer (some ⟨Bs, 0, none⟩)] (fun x : BackA zs => #[Value.int .i64 (x.1.1 : Int), Value.int .i64 (x.1.2 : Int)]) (KeepTwo Bs q) (fun ys => ys.map (fun p => p.1.2) = zs.reverse) (fun _ => True) zs.length w :=
  fun l J Jx W hW _ _ hY h0 => backward_in F n hF hro hn l Bs q A cap zs hz hq J Jx hY W ((hW.cell (p := ⟨Bs, 0, none⟩) hBs).trans hc) (hR.below hW) h0
end Go.Proofs.Ytpmkeagdoehbhaa

/- The memory of the pass that reckons the flows. -/
namespace Go.Proofs.Ytpmkeagdoehbhaa
open Go.ChangeShapes Go.WideShapes Go.ChangeAt Go.RowKit

/-- Cells of numbers. -/
def zB (zs : List Int) : Array Value := (zs.map (Value.int .i64)).toArray
theorem zB_get {zs : List Int} {k : Nat} {z : Int} (h : zs[k]? = some z) : (zB zs)[k]? = some (.int .i64 z) := by simp [zB, h]
theorem zB_put (zs : List Int) (k : Nat) (z : Int) : (zB zs).setIfInBounds k (.int .i64 z) = zB (zs.set k z) := by
  apply Array.ext'
  simp [zB, List.map_set]
theorem zB_made (n : Nat) : madeCells (Value.int .i64 0).cells n = zB (List.replicate n 0) := by
  have e : (Value.int .i64 0).cells = #[.int .i64 0] := rfl
  rw [e]
  apply Array.ext
  · simp [madeCells, zB]
  · intro i h1 h2
    simp [madeCells, zB, Nat.mod_one]
theorem IsBlk.rowZ {w : World} {g n : Nat} {t : TypeId} {zs : List Int} (h : IsBlk w g t (zB zs)) (hn : zs.length = n) : RowZ w (some ⟨g, 0, none⟩) n zs := by
  refine ⟨by simpa using hn, fun hp => ⟨g, 0, rfl, h.lt, fun k x hk => ?_⟩⟩
  rw [List.getElem?_map, Option.map_eq_some_iff] at hk
  obtain ⟨z, hz, rfl⟩ := hk
  rw [Nat.zero_add]
  exact (h.cell k).trans (zB_get hz)
/-- Where the blocks lie. -/
structure FlowAd (X g S gL gB F gW Wb B : Nat) : Prop where
  a1 : X + 2 < g
  a2 : g < S
  a3 : S < gL
  a4 : S < gB
  a5 : gL ≠ gB
  a6 : gL ≠ F
  a7 : gB ≠ F
  a8 : S < F
  a9 : gL < gW
  a10 : gB < gW
  a11 : F < gW
  a12 : gW < Wb
  a13 : Wb < B
structure FlowSt (w W : World) (g S gL gB F gW Wb : Nat) (bs : Int) (n c : Nat) (A : Option Addr) (q r : Nat) (U : Option Addr) (sup : List U2) (wl fl fb : List Int) : Prop where
  bel : Below w.heap.size w W
  box : IsBlk W w.heap.size 33 #[.int .i64 bs, .slice A n c]
  bus : IsBlk W (w.heap.size + 1) 36 #[.slice U q r]
  res : IsBlk W (w.heap.size + 2) 74 #[.slice none 0 0, .slice none 0 0]
  sbx : IsBlk W S 78 #[.slice (some ⟨g, 0, none⟩) q q]
  sup : IsBlk W g 82 (rowArr fU sup)
  fbx : IsBlk W F 74 #[.slice (some ⟨gL, 0, none⟩) n n, .slice (some ⟨gB, 0, none⟩) q q]
  wbx : IsBlk W Wb 27 #[.slice (some ⟨gW, 0, none⟩) q q]
  li : IsBlk W gL 3 (zB fl)
  gi : IsBlk W gB 3 (zB fb)
  wa : IsBlk W gW 3 (zB wl)
  ll : fl.length = n
  lb : fb.length = q
  lw : wl.length = q
section
variable {w W W' : World} {g S gL gB F gW Wb B : Nat} {bs : Int} {n c : Nat} {A : Option Addr} {q r : Nat} {U : Option Addr} {sup : List U2} {wl fl fb : List Int}
theorem FlowSt.grown (h : FlowSt w W g S gL gB F gW Wb bs n c A q r U sup wl fl fb) (ad : FlowAd w.heap.size g S gL gB F gW Wb B) {row : Option Nat} (hg : W.grownBy W' row) (hr : ∀ k, row = some k → B ≤ k) : FlowSt w W' g S gL gB F gW Wb bs n c A q r U sup wl fl fb := by
  obtain ⟨a1, a2, a3, a4, a5, a6, a7, a8, a9, a10, a11, a12, a13⟩ := ad
  refine ⟨h.bel.grown hg h.bel.size (fun k e => by have := hr k e; omega), h.box.farG hg ?_, h.bus.farG hg ?_, h.res.farG hg ?_, h.sbx.farG hg ?_, h.sup.farG hg ?_, h.fbx.farG hg ?_, h.wbx.farG hg ?_, h.li.farG hg ?_, h.gi.farG hg ?_, h.wa.farG hg ?_, h.ll, h.lb, h.lw⟩
  all_goals
    intro e
    have := hr _ e
    omega
theorem FlowSt.next (h : FlowSt w W g S gL gB F gW Wb bs n c A q r U sup wl fl fb) (hb : Below W.heap.size W W') : FlowSt w W' g S gL gB F gW Wb bs n c A q r U sup wl fl fb :=
  ⟨h.bel.trans (hb.mono h.bel.size), h.box.keep hb, h.bus.keep hb, h.res.keep hb, h.sbx.keep hb, h.sup.keep hb, h.fbx.keep hb, h.wbx.keep hb, h.li.keep hb, h.gi.keep hb, h.wa.keep hb, h.ll, h.lb, h.lw⟩
theorem FlowSt.drew (h : FlowSt w W g S gL gB F gW Wb bs n c A q r U sup wl fl fb) : FlowSt w W.drew g S gL gB F gW Wb bs n c A q r U sup wl fl fb :=
  ⟨h.bel.drew, h.box, h.bus, h.res, h.sbx, h.sup, h.fbx, h.wbx, h.li, h.gi, h.wa, h.ll, h.lb, h.lw⟩
theorem FlowSt.putW (h : FlowSt w W g S gL gB F gW Wb bs n c A q r U sup wl fl fb) (ad : FlowAd w.heap.size g S gL gB F gW Wb B) (i : Nat) (z : Int) : FlowSt w (W.setCell ⟨gW, i, none⟩ (.int .i64 z)) g S gL gB F gW Wb bs n c A q r U sup (wl.set i z) fl fb := by
  obtain ⟨a1, a2, a3, a4, a5, a6, a7, a8, a9, a10, a11, a12, a13⟩ := ad
  have hp := h.wa.put i (.int .i64 z)
  rw [zB_put] at hp
  exact ⟨h.bel.setCell (p := ⟨gW, i, none⟩) (show w.heap.size ≤ gW by omega) _, h.box.far (show w.heap.size ≠ gW by omega) _, h.bus.far (show w.heap.size + 1 ≠ gW by omega) _, h.res.far (show w.heap.size + 2 ≠ gW by omega) _, h.sbx.far (show S ≠ gW by omega) _, h.sup.far (show g ≠ gW by omega) _, h.fbx.far (show F ≠ gW by omega) _, h.wbx.far (show Wb ≠ gW by omega) _, h.li.far (show gL ≠ gW by omega) _, h.gi.far (show gB ≠ gW by omega) _, hp, h.ll, h.lb, by rw [List.length_set]; exact h.lw⟩
theorem FlowSt.putL (h : FlowSt w W g S gL gB F gW Wb bs n c A q r U sup wl fl fb) (ad : FlowAd w.heap.size g S gL gB F gW Wb B) (i : Nat) (z : Int) : FlowSt w (W.setCell ⟨gL, i, none⟩ (.int .i64 z)) g S gL gB F gW Wb bs n c A q r U sup wl (fl.set i z) fb := by
  obtain ⟨a1, a2, a3, a4, a5, a6, a7, a8, a9, a10, a11, a12, a13⟩ := ad
  have hp := h.li.put i (.int .i64 z)
  rw [zB_put] at hp
  exact ⟨h.bel.setCell (p := ⟨gL, i, none⟩) (show w.heap.size ≤ gL by omega) _, h.box.far (show w.heap.size ≠ gL by omega) _, h.bus.far (show w.heap.size + 1 ≠ gL by omega) _, h.res.far (show w.heap.size + 2 ≠ gL by omega) _, h.sbx.far (show S ≠ gL by omega) _, h.sup.far (show g ≠ gL by omega) _, h.fbx.far (show F ≠ gL by omega) _, h.wbx.far (show Wb ≠ gL by omega) _, hp, h.gi.far (show gB ≠ gL by omega) _, h.wa.far (show gW ≠ gL by omega) _, by rw [List.length_set]; exact h.ll, h.lb, h.lw⟩
theorem FlowSt.putB (h : FlowSt w W g S gL gB F gW Wb bs n c A q r U sup wl fl fb) (ad : FlowAd w.heap.size g S gL gB F gW Wb B) (i : Nat) (z : Int) : FlowSt w (W.setCell ⟨gB, i, none⟩ (.int .i64 z)) g S gL gB F gW Wb bs n c A q r U sup wl fl (fb.set i z) := by
  obtain ⟨a1, a2, a3, a4, a5, a6, a7, a8, a9, a10, a11, a12, a13⟩ := ad
  have hp := h.gi.put i (.int .i64 z)
  rw [zB_put] at hp
  exact ⟨h.bel.setCell (p := ⟨gB, i, none⟩) (show w.heap.size ≤ gB by omega) _, h.box.far (show w.heap.size ≠ gB by omega) _, h.bus.far (show w.heap.size + 1 ≠ gB by omega) _, h.res.far (show w.heap.size + 2 ≠ gB by omega) _, h.sbx.far (show S ≠ gB by omega) _, h.sup.far (show g ≠ gB by omega) _, h.fbx.far (show F ≠ gB by omega) _, h.wbx.far (show Wb ≠ gB by omega) _, h.li.far (show gL ≠ gB by omega) _, hp, h.wa.far (show gW ≠ gB by omega) _, h.ll, by rw [List.length_set]; exact h.lb, h.lw⟩
/-- A cell of one block, read. -/
theorem IsBlk.at1 {w : World} {g : Nat} {t : TypeId} {u : Value} (h : IsBlk w g t #[u]) : w.cell? ⟨g, 0, none⟩ = some u ∧ w.frozen? ⟨g, 0, none⟩ = false := ⟨h.cell 0, h.thaw 0⟩
end
theorem keep_set {B p q g : Nat} (W : World) (i : Nat) (v : Value) (h1 : p ≠ g) (h2 : q ≠ g) : KeepsFrom B W (W.setCell ⟨g, i, none⟩ v) ∧ KeepTwo p q W (W.setCell ⟨g, i, none⟩ v) :=
  ⟨(KeepsOthers.setCell _ _ _).from _, Below.heap_setCell _ ⟨g, i, none⟩ _ _ h1, Below.heap_setCell _ ⟨g, i, none⟩ _ _ h2⟩
theorem keep_drew {B p q : Nat} (W : World) : KeepsFrom B W W.drew ∧ KeepTwo p q W W.drew := ⟨(KeepsOthers.drew _).from _, rfl, rfl⟩
theorem keep_below {B p q : Nat} {W W' : World} (hb : Below W.heap.size W W') (h1 : p < W.heap.size) (h2 : q < W.heap.size) : KeepsFrom B W W' ∧ KeepTwo p q W W' :=
  ⟨(KeepsOthers.of_grownBy (row := none) ⟨hb.os, hb.tape, hb.output, hb.size, fun i hi _ => hb.block i hi⟩ (fun j o e => by cases e)).from _, hb.block p h1, hb.block q h2⟩
theorem keep_trans {B p q : Nat} {X Y Z : World} (h : KeepsFrom B X Y ∧ KeepTwo p q X Y) (k : KeepsFrom B Y Z ∧ KeepTwo p q Y Z) : KeepsFrom B X Z ∧ KeepTwo p q X Z := ⟨h.1.trans k.1, keepTwo_t h.2 k.2⟩
/-- What the pass knows: safe whatever comes; and where the buses come in the order of the pass, the values. -/
def FlowI (ls : List L3) (ts : List Bool) (us : List U2) (zs : List Nat) (w : World) (g S gL gB F gW Wb Bs _G : Nat) (bs : Int) (n c : Nat) (A : Option Addr) (q r : Nat) (U : Option Addr) (sl : Value) (pre : List (BackA zs)) (W : World) : Prop :=
  ∃ wl fl fb, FlowSt w W g S gL gB F gW Wb bs n c A q r U (supF ls ts us q) wl fl fb ∧ IsBlk W Bs 27 #[sl] ∧
    (pre.map (fun p => p.1.2) <+: zs.reverse → Vals ls ts us q n (pre.map (fun p => p.1.2)) wl fl fb)
theorem flowI_own {ls : List L3} {ts : List Bool} {us : List U2} {zs : List Nat} {w : World} {g S gL gB F gW Wb Bs G : Nat} {bs : Int} {n c : Nat} {A : Option Addr} {q r : Nat} {U : Option Addr} {sl : Value} {B : Nat} (ad : FlowAd w.heap.size g S gL gB F gW Wb B) (hB : Bs < B) :
    OwnFrom B (FlowI ls ts us zs w g S gL gB F gW Wb Bs G bs n c A q r U sl) := by
  intro pre W W' row h hg hr
  obtain ⟨wl, fl, fb, h1, h2, h3⟩ := h
  exact ⟨wl, fl, fb, h1.grown ad hg (fun k e => (hr k e).1), h2.farG hg (fun e => by have := (hr _ e).1; omega), h3⟩
end Go.Proofs.Ytpmkeagdoehbhaa
