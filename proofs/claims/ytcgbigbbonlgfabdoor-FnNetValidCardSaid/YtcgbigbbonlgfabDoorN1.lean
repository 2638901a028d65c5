/- The drawing of a network alone; appends onto an empty literal. -/
import Derived.Test.YtcgbigbbonlgfabDoorD3
import Derived.Test.YtcgbigbbonlgfabDoorBase2
import Derived.Deep.AppendSrc
import Derived.Deep.RegionHeld3
import Derived.Deep.DeepCutAuto
namespace Go.Proofs.YtcgbigbbonlgfabDoor
open Go.ChangeShapes Go.WideShapes Go.ChangeAt Go.RowKit

set_option maxRecDepth 100000 in
set_option maxHeartbeats 1000000 in
theorem drawNetValid_any (A : Option Addr) (n c : Nat) (code : List Int) (w : World) (hr : RowB w A n code) (hnc : n ≤ c) (hc : c ≤ 9223372036854775807) :
    Calls Tryd.prog 7 #[.slice A n c] w fun e w' => ∃ bs A c ls, e = .returned (.agg #[.int .i64 bs, .slice A ls.length c]) ∧ RowL w' A ls.length ls ∧ ls.length ≤ 12 ∧ Below w.heap.size w w' := by
  have hr0 : RowB (w.alloc (.cells #[.int .i64 0, .slice none 0 0] 25)) A n code := by
    refine ⟨hr.1, fun hp => ?_, hr.2.2⟩
    obtain ⟨b, off, e, hlt, hcl⟩ := hr.2.1 hp
    exact ⟨b, off, e, by simp; omega, fun k x hk => by rw [World.cell?_alloc_lt _ _ _ hlt]; exact hcl k x hk⟩
  go_enter Tryd.func7, Tryd.ntmps7
  go_wp2_with fail
  refine (open_any A n c code _ hr0 hnc hc).mono ?_
  rintro e w1 ⟨rfl, hb1, hr1, hs1⟩
  simp only [World.size_alloc] at hb1 hr1 hs1
  have HS := Lib.hid hs1
  have k1 := (IsBlk.new w 25 #[.int .i64 0, .slice none 0 0]).below hb1 (by omega)
  have b1 : Below w.heap.size w w1 := (below_bx w _).trans (hb1.mono (by omega))
  clear hs1
  go_wp2_with fail
  refine (net_any (w.heap.size + 1) 2 0 (by omega) (by omega) _ (by rw [HS.out]; omega) hr1).mono ?_
  rintro e w2 ⟨bs, v, ls, rfl, ho, hl, hb0, hb9, hr2, hg2⟩
  obtain ⟨A', c', rfl, _⟩ := ho.row
  have b2 : Below w.heap.size w w2 := b1.grown hg2 b1.size (fun q hq => by injection hq with hq; omega)
  have k2 : IsBlk w2 w.heap.size 25 #[.int .i64 0, .slice none 0 0] := (hg2.block _ k1.lt (by simp)).trans k1
  have g2 : w2.grownBy ((w2.setCell ⟨w.heap.size, 0, none⟩ (.int .i64 bs)).setCell ⟨w.heap.size, 1, none⟩ (.slice A' ls.length c')) (some w.heap.size) := grown_then (grown_put _ _ _ _) (grown_put _ _ _ _)
  have o2 := ho.far g2 (fun q hq e => by injection e with e; have := (World.ownsRow.lt ho q hq).1; have := HS.out; omega)
  have O2 := Lib.hid o2
  have G2 := Lib.hid g2
  obtain ⟨q0, q1, q2, q3⟩ := k2.two
  clear ho o2 g2 hr2 hg2 hr1 hb1 k1 k2
  go_wp2_with fail
  refine bodyPost_ret (v := .agg #[.int .i64 bs, .slice A' ls.length c']) (by simp [results, Tryd.results7, go_sem, q0, q1, q2, q3]) rfl ⟨bs, A', c', ls, rfl, ?_, hl, b2.grown G2.out b2.size (fun q hq => by injection hq with hq; omega)⟩
  obtain ⟨A'', c'', e, hrr⟩ := O2.out.row
  injection e with e1
  subst e1; exact hrr

/-- append onto a slice without room, as one step of a region that draws: a new row. -/
theorem step_append_zero {P : Program} {ops : Array Oper} {o : Oper} {a : Act} {w : World} {K : Act → World → Prop} {Q : Exit → Act → World → Prop} {E : Prop} (hgd : o.guard = none) (s x : Operand) (t : TypeId)
    (ho : o.op = .call { callee := .builtin .append, args := #[s, x], argTypes := #[t, t] })
    (e : TypeId) (i : TypeInfo) (z : Value) (size bytes : Nat) (ht : P.underlying t = some (.slice e)) (hi : P.info? e = some i) (hz : i.zero = some z) (hsize : i.size = size) (hby : i.bytes = bytes) (hzs : z.cells.size = size)
    (S : Option Addr) (hs : a.eval s = .slice S 0 0) (ad : Addr) (m c : Nat) (news : List Value) (hx : a.eval x = .slice (some ad) m c) (hl : news.length = m * size)
    (hnews : ∀ j u, news[j]? = some u → w.cell? (ad.add j) = some u) (h1 : ∀ u ∈ news, u.oneCell' = true) (hm0 : 0 < m) (hm : m ≤ 1000) (hb : bytes ≤ 1000000)
    (h : ∀ cap arr, m ≤ cap → cap ≤ maxLen → arr.size = cap * size → arr.toList.take (m * size) = news → K (a.put o.dst (.slice (some ⟨w.heap.size, 0, none⟩) m cap)) (w.drew.alloc (.cells arr e))) :
    if Region.wanted o (yielded ops a.tmps) = true then Oper.wp P o a w K Q else E := by
  have hw : Region.wanted o (yielded ops a.tmps) = true := by simp [Region.wanted, hgd]
  rw [if_pos hw]
  subst hsize hby
  have hge := grownCap_ge w (0 + m) 0 e
  have hcm : grownCap w (0 + m) 0 e ≤ maxLen := grownCap_le_maxLen w (0 + m) 0 e (by simp only [maxLen]; omega)
  have hrun := run_append_grow_src (P := P) w t t o.type e i z ht hi hz S 0 0 [] (by
      rcases S with _ | a0
      · exact run_firstCells_none w.drew i.size 0 0 0
      · exact run_firstCells_some w.drew i.size 0 a0 0 0 [] (by simp) (by simp)) (.slice (some ad) m c) m news (Src.ofSlice w ht ad m c news hl hnews h1) (by omega) (by omega)
    (by
      have h2 : Builtin.nextslicecap (0 + m) 0 = 0 + m := by unfold Builtin.nextslicecap; rw [if_pos (by omega)]
      rw [h2]
      have : (0 + m) * i.bytes ≤ 1000 * 1000000 := Nat.mul_le_mul (by omega) hb
      omega)
  have hK := h (grownCap w (0 + m) 0 e) (([] ++ news).toArray ++ Builtin.zeroCells z.cells (grownCap w (0 + m) 0 e - (0 + m))) (by omega) hcm
    (by
      rw [Array.size_append, size_zeroCells, hzs, List.size_toArray, List.nil_append, hl, ← Nat.add_mul]
      congr 1; omega)
    (by
      rw [Array.toList_append, ← hl]
      simp)
  unfold Oper.wp execOp
  simp only [ho, resolve, invoke, builtin, Sem.run_bind, Sem.run_pure, Result.andThen_ok, List.map_toArray, List.map_cons, List.map_nil, hs, hx, hrun]
  simp only [Nat.zero_add] at hK ⊢
  exact hK

/-- append of nothing onto an empty slice, as one step of a region that draws. -/
theorem step_append_nothing {P : Program} {ops : Array Oper} {o : Oper} {a : Act} {w : World} {K : Act → World → Prop} {Q : Exit → Act → World → Prop} {E : Prop} (hgd : o.guard = none) (s x : Operand) (t : TypeId)
    (ho : o.op = .call { callee := .builtin .append, args := #[s, x], argTypes := #[t, t] })
    (e : TypeId) (i : TypeInfo) (ht : P.underlying t = some (.slice e)) (hi : P.info? e = some i)
    (b off : Nat) (hs : a.eval s = .slice (some ⟨b, off, none⟩) 0 0) (A : Option Addr) (c : Nat) (hx : a.eval x = .slice A 0 c)
    (h : K (a.put o.dst (.slice (some ⟨b, off, none⟩) 0 0)) w) :
    if Region.wanted o (yielded ops a.tmps) = true then Oper.wp P o a w K Q else E := by
  have hw : Region.wanted o (yielded ops a.tmps) = true := by simp [Region.wanted, hgd]
  rw [if_pos hw]
  have hsrc : Src P i.size t (.slice A 0 c) 0 [] w := by
    rcases A with _ | ad
    · exact Src.ofNil w ht c
    · exact Src.ofSlice w ht ad 0 c [] (by simp) (by simp) (by simp)
  have hrun := run_append_room_src (P := P) w t t o.type e i ht hi b off 0 0 (.slice A 0 c) 0 [] hsrc (by omega) (by simp) (by simp)
  have hset : w.setCells b (off + 0 * i.size) [] = w := rfl
  rw [hset] at hrun
  unfold Oper.wp execOp
  simp only [ho, resolve, invoke, builtin, Sem.run_bind, Sem.run_pure, Result.andThen_ok, List.map_toArray, List.map_cons, List.map_nil, hs, hx, hrun]
  exact h
end Go.Proofs.YtcgbigbbonlgfabDoor
