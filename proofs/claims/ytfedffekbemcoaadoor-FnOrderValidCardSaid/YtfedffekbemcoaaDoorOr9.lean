/- Switching orders: the iterator of slices.Backward at steps, as the program has it: all of them, the last one first. -/
import Derived.Test.YtfedffekbemcoaaDoorC2
import Derived.Test.YtfedffekbemcoaaDoorOr8
import Derived.Maps.OwnIn
namespace Go.Proofs.YtfedffekbemcoaaDoor
open Go.RowKit Go.Shelf
attribute [local go_sem] Oper.semAt_some

/-- What comes: an index and the step that stands there. -/
abbrev BackP (ss : List TP) := { p : Nat × TP // ss[p.1]? = some p.2 }
abbrev encP (p : TP) : Value := .agg #[.int .i64 p.1, .bool p.2]

theorem backwardP_any (A : Option Addr) (n c : Nat) (w : World) :
    Calls Tryd.prog 62 #[.slice A n c] w fun e w' => e = .returned (.func (.func 73) #[] #[.pointer (some ⟨w.heap.size, 0, none⟩)]) ∧ w' = w.alloc (.cells #[.slice A n c] 23) := by
  go_enter Tryd.func62, Tryd.ntmps62
  go_wp2
  go_ret
  exact ⟨rfl, rfl⟩

set_option maxRecDepth 100000 in
set_option maxHeartbeats 2000000 in
theorem backwardP_in (F : Fence) (n : Nat) (hF : F.fn 73) (hro : F.round = none) (hn : 1 ≤ n) (l Bs q : Nat) (A : Option Addr) (cap : Nat) (zs : List TP) (hz : zs.length ≤ 1000) (hq : 0 < zs.length → ∀ b off, A = some ⟨b, off, none⟩ → b = q) (J Jx : List (BackP zs) → World → Prop)
    (hY : ∀ pre x W, J pre W → pre.length < zs.length → YieldAt F (n - 1) Tryd.prog l #[.int .i64 (x.1.1 : Int), encP x.1.2] W fun e W' =>
      (e = .returned (.bool true) ∧ J (pre ++ [x]) W' ∧ KeepTwo Bs q W W') ∨ (e = .returned (.bool false) ∧ Jx (pre ++ [x]) W'))
    (W : World) (hBs : W.cell? ⟨Bs, 0, none⟩ = some (.slice A zs.length cap)) (hR : RowP W A zs.length zs) (h0 : J [] W) :
    CallsIn F n Tryd.prog 73 #[.func (.yield l) #[] #[], .pointer (some ⟨Bs, 0, none⟩)] W fun e W' => (∃ v, e = .returned v) ∧
      ((∃ ys : List (BackP zs), ys.map (fun p => p.1.2) = zs.reverse ∧ J ys W') ∨ (∃ pre : List (BackP zs), True ∧ Jx pre W')) := by
  have hw0 : IntKind.i64.wrap ((zs.length : Int) - 1) = (zs.length : Int) - 1 := IntWalk.i64_in _ (by omega)
  refine callsIn_of_wp Tryd.func73 rfl hF ?_ hro
  simp only [Tryd.ntmps73, List.size_toArray, List.length_cons, List.length_nil, Nat.reduceAdd, Nat.reduceSub, Array.replicate_succ, Array.replicate_zero, List.push_toArray, List.append_toArray, List.nil_append, List.cons_append]
  gi_wp2
  gi_loopw [3] (fun i wr => ∃ (x : Int) (j : Nat) (pre : List (BackP zs)), i = .int .i64 x ∧ x = (j : Int) - 1 ∧ j ≤ zs.length ∧ pre.map (fun p => p.1.2) = (zs.drop j).reverse ∧ J pre wr ∧ KeepTwo Bs q W wr)
    (fun i _ => (intOf i + 1).toNat)
  case atStart => exact ⟨(zs.length : Int) - 1, zs.length, [], rfl, rfl, Nat.le_refl _, by simp, h0, KeepTwo.refl _ _ _⟩
  case round =>
    obtain ⟨x, j, pre, rfl, hx, hj, hpre, hJ, hk⟩ := hrel
    have hbs := (World.cell?_of_block (a := ⟨Bs, 0, none⟩) hk.1).trans hBs
    by_cases h0 : 0 ≤ x
    · obtain ⟨k, rfl⟩ := Int.eq_ofNat_of_zero_le h0
      obtain rfl : j = k + 1 := by omega
      have hkl : k < zs.length := by omega
      have hdr : zs.drop k = zs[k] :: zs.drop (k + 1) := List.drop_eq_getElem_cons hkl
      have hzk : zs[k]? = some zs[k] := List.getElem?_eq_getElem hkl
      generalize zs[k] = z at hzk hdr
      obtain ⟨b, off, y, rfl, hb, hky, hc, hd⟩ := hR.at_ hkl
      obtain rfl := hq (by omega) b off rfl
      rw [hzk] at hky
      injection hky with hky
      subst hky
      have hc2 := (World.cell?_of_block (a := ⟨b, off + k * 2, none⟩) hk.2).trans hc
      have hd2 := (World.cell?_of_block (a := ⟨b, off + k * 2 + 1, none⟩) hk.2).trans hd
      have hlen : pre.length < zs.length := by
        have := congrArg List.length hpre
        simp at this
        omega
      obtain ⟨fn, tmps, assign, body, hy, hR3⟩ := hY pre ⟨(k, z), hzk⟩ wr hJ hlen
      dsimp only at hy
      have hwk : IntKind.i64.wrap ((k : Int) - 1) = (k : Int) - 1 := IntWalk.i64_in _ (by omega)
      have ii1 : (k : Int) < (zs.length : Int) := by omega
      have HDR := Lib.hid hdr
      have HPRE := Lib.hid hpre
      obtain ⟨z1, z2⟩ := z
      simp only at hc2 hd2
      clear hw0 hc hd hBs hdr hpre hx hlen h0
      gi_wp2
      refine hR3.mono ?_
      rintro e W3 (⟨rfl, hJ3, hk3⟩ | ⟨rfl, hJx3⟩)
      · gi_wp2
        go_roundw
        case rel => exact ⟨(k : Int) - 1, k, pre ++ [⟨(k, (z1, z2)), hzk⟩], by go_num, rfl, by omega, by rw [List.map_append, HPRE.out, HDR.out]; simp, hJ3, keepTwo_t hk hk3⟩
        case measure => simp [intOf]
      · gi_wp2
        refine bodyPost_ret (results_none rfl _ _ _) rfl ?_
        exact ⟨⟨_, rfl⟩, .inr ⟨_, trivial, hJx3⟩⟩
    · obtain rfl : j = 0 := by omega
      gi_wp2
      go_end0
      exact ⟨⟨_, rfl⟩, .inl ⟨pre, by simpa using hpre, hJ⟩⟩

theorem backwardP_stops (F : Fence) (n : Nat) (hF : F.fn 73) (hro : F.round = none) (hn : 1 ≤ n) (Bs q : Nat) (A : Option Addr) (cap : Nat) (zs : List TP) (hz : zs.length ≤ 1000) (hq : 0 < zs.length → ∀ b off, A = some ⟨b, off, none⟩ → b = q) (w : World) (hBs : Bs < w.heap.size)
    (hc : w.cell? ⟨Bs, 0, none⟩ = some (.slice A zs.length cap)) (hR : RowP w A zs.length zs) :
    SeqStopsK F n Tryd.prog 73 #[.pointer (some ⟨Bs, 0, none⟩)] (fun x : BackP zs => #[Value.int .i64 (x.1.1 : Int), encP x.1.2]) (KeepTwo Bs q) (fun ys => ys.map (fun p => p.1.2) = zs.reverse) (fun _ => True) zs.length w :=
  fun l J Jx W hW _ _ hY h0 => backwardP_in F n hF hro hn l Bs q A cap zs hz hq J Jx hY W ((hW.cell (p := ⟨Bs, 0, none⟩) hBs).trans hc) (hR.below hW) h0

/-- A literal's one step, appended, in a round of a loop over a function. -/
theorem wpListIn_append_step {F : Fence} {nF : Nat} {ops : Array Oper} {rest : List Oper} {o : Oper} {a : Act} {w : World} {Q : Exit → Act → World → Prop} (hgd : o.guard = none) (s x : Operand)
    (ho : o.op = .call { callee := .builtin .append, args := #[s, x], argTypes := #[23, 23] })
    (base g : Nat) (v : Value) (us : List TP) (p : TP) (hs : a.eval s = v) (hx : a.eval x = .slice (some ⟨g, 0, none⟩) 1 1) (hv : OwnP w base v us)
    (hg : ∀ j u, (fP p)[j]? = some u → w.cell? ((⟨g, 0, none⟩ : Addr).add j) = some u) (hl : us.length ≤ 1000000) (hb : base ≤ w.heap.size)
    (h : ∀ v' w', OwnP w' base v' (us ++ [p]) → w.grownBy w' v.ownBlock → (v'.ownBlock = v.ownBlock ∨ v'.ownBlock = some w.heap.size) → wpListIn F nF Tryd.prog ops Q rest (a.put o.dst v') w') : wpListIn F nF Tryd.prog ops Q (o :: rest) a w := by
  obtain ⟨i0, hi, hz0, hz1, hz2⟩ := info_parts stepInfo3
  refine wpListIn_append_own_at w hgd s x 23 ho base 27 i0 (.agg #[.int .i64 0, .bool false]) 2 16 Tryd.underlying23 hi hz0 hz1 hz2 rfl (by decide) v _ _ hs hv ⟨g, 0, none⟩ 1 1 (fP p) hx rfl hg (fun u hu => by simp [fP] at hu; rcases hu with rfl | rfl <;> rfl) (by simp only [maxLen]; omega) (by omega) hb ?_
  intro v' w' hown hgrow _ hat
  exact h v' w' (OwnP.snoc hown) hgrow hat
end Go.Proofs.YtfedffekbemcoaaDoor
