/- FnStateValid: the walk. -/
import Derived.Test.YtciciidndjkdiaaDoorD3
import Derived.Test.YtciciidndjkdiaaDoorG4
import Derived.Deep.AppendSrc
import Derived.Deep.AppendLies
import Derived.Deep.RegionHeld3
import Derived.Outline
import Derived.Deep.DeepFit
namespace Go.Proofs.YtciciidndjkdiaaDoor
open Go.ChangeShapes Go.WideShapes Go.ChangeAt Go.RowKit

/-- append onto a slice without room: a new row. -/
theorem wp_append_zero {P : Program} {o : Oper} {a : Act} {w : World} {K : Act → World → Prop} {Q : Exit → Act → World → Prop} (s x : Operand) (t : TypeId)
    (ho : o.op = .call { callee := .builtin .append, args := #[s, x], argTypes := #[t, t] })
    (e : TypeId) (i : TypeInfo) (z : Value) (size bytes : Nat) (ht : P.underlying t = some (.slice e)) (hi : P.info? e = some i) (hz : i.zero = some z) (hsize : i.size = size) (hby : i.bytes = bytes) (hzs : z.cells.size = size)
    (S : Option Addr) (hs : a.eval s = .slice S 0 0) (ad : Addr) (m c : Nat) (news : List Value) (hx : a.eval x = .slice (some ad) m c) (hl : news.length = m * size)
    (hnews : ∀ j u, news[j]? = some u → w.cell? (ad.add j) = some u) (h1 : ∀ u ∈ news, u.oneCell' = true) (hm0 : 0 < m) (hm : m ≤ 1000) (hb : bytes ≤ 1000000)
    (h : ∀ cap arr, m ≤ cap → cap ≤ maxLen → arr.size = cap * size → arr.toList.take (m * size) = news → K (a.put o.dst (.slice (some ⟨w.heap.size, 0, none⟩) m cap)) (w.drew.alloc (.cells arr e))) : Oper.wp P o a w K Q := by
  subst hsize hby
  have hge := grownCap_ge w (0 + m) 0 e
  have hcm : grownCap w (0 + m) 0 e ≤ maxLen := grownCap_le_maxLen w (0 + m) 0 e (by simp only [maxLen]; omega)
  have hrun := run_append_grow_src (P := P) w t t o.type e i z ht hi hz S 0 0 [] (by
      rcases S with _ | a0
      · exact run_firstCells_none w.drew i.size 0 0 0
      · exact run_firstCells_some w.drew i.size 0 a0 0 0 [] (by simp) (by simp)) (.slice (some ad) m c) m news (Src.ofSlice w ht ad m c news hl hnews h1) (by omega) (by omega)
    (by
      have h2 : Builtin.nextslicecap (0 + m) 0 = 0 + m := by unfold Builtin.nextslicecap; rw [if_pos (by omega)]
      rw [h2]
      have : (0 + m) * i.bytes ≤ 1000 * 1000000 := Nat.mul_le_mul (by omega) hb
      omega)
  have hK := h (grownCap w (0 + m) 0 e) (([] ++ news).toArray ++ Builtin.zeroCells z.cells (grownCap w (0 + m) 0 e - (0 + m))) (by omega) hcm
    (by
      rw [Array.size_append, size_zeroCells, hzs, List.size_toArray, List.nil_append, hl, ← Nat.add_mul]
      congr 1; omega)
    (by
      rw [Array.toList_append, ← hl]
      simp)
  unfold Oper.wp execOp
  simp only [ho, resolve, invoke, builtin, Sem.run_bind, Sem.run_pure, Result.andThen_ok, List.map_toArray, List.map_cons, List.map_nil, hs, hx, hrun]
  simp only [Nat.zero_add] at hK ⊢
  exact hK
/-- append of nothing onto an empty slice. -/
theorem wp_append_nothing {P : Program} {o : Oper} {a : Act} {w : World} {K : Act → World → Prop} {Q : Exit → Act → World → Prop} (s x : Operand) (t : TypeId)
    (ho : o.op = .call { callee := .builtin .append, args := #[s, x], argTypes := #[t, t] })
    (e : TypeId) (i : TypeInfo) (ht : P.underlying t = some (.slice e)) (hi : P.info? e = some i)
    (b off : Nat) (hs : a.eval s = .slice (some ⟨b, off, none⟩) 0 0) (A : Option Addr) (c : Nat) (hx : a.eval x = .slice A 0 c)
    (h : K (a.put o.dst (.slice (some ⟨b, off, none⟩) 0 0)) w) : Oper.wp P o a w K Q := by
  have hsrc : Src P i.size t (.slice A 0 c) 0 [] w := by
    rcases A with _ | ad
    · exact Src.ofNil w ht c
    · exact Src.ofSlice w ht ad 0 c [] (by simp) (by simp) (by simp)
  have hrun := run_append_room_src (P := P) w t t o.type e i ht hi b off 0 0 (.slice A 0 c) 0 [] hsrc (by omega) (by simp) (by simp)
  have hset : w.setCells b (off + 0 * i.size) [] = w := rfl
  rw [hset] at hrun
  unfold Oper.wp execOp
  simp only [ho, resolve, invoke, builtin, Sem.run_bind, Sem.run_pure, Result.andThen_ok, List.map_toArray, List.map_cons, List.map_nil, hs, hx, hrun]
  exact h

theorem IsBlk.drew_ {w : World} {g : Nat} {t : TypeId} {cs : Array Value} (h : IsBlk w g t cs) : IsBlk w.drew g t cs := h
theorem own_blkB {w : World} {base g m cap : Nat} {arr : Array Value} {xs : List Value} (h : IsBlk w g 4 arr) (hb : base ≤ g) (hl : xs.length = m * 1) (hc : m ≤ cap) (hm : cap ≤ maxLen) (hs : arr.size = cap * 1) (ht : arr.toList.take (m * 1) = xs) : w.ownsRow base 4 1 (.slice (some ⟨g, 0, none⟩) m cap) m xs :=
  ⟨hl, .inr ⟨g, cap, arr, rfl, hb, h, hc, hm, hs, ht⟩⟩
theorem one_blk {w : World} {g : Nat} {t : TypeId} {u : Value} (h : IsBlk w g t #[u]) : ∀ j v, [u][j]? = some v → w.cell? ((⟨g, 0, none⟩ : Addr).add j) = some v := by
  intro j v hj
  have hj0 : j = 0 := by have := (List.getElem?_eq_some_iff.1 hj).1; simpa using this
  subst hj0
  rw [add_none, h.cell]; simpa using hj
theorem keepS {w w' : World} {g : Nat} {u v : Value} (h0 : w.cell? ⟨g, 0, none⟩ = some u) (h1 : w.cell? ⟨g, 1, none⟩ = some v) (hg : g < w.heap.size) (hb : Below w.heap.size w w') :
    Below w.heap.size w w' ∧ w'.cell? ⟨g, 0, none⟩ = some u ∧ w'.cell? ⟨g, 1, none⟩ = some v := ⟨hb, (hb.cell (p := ⟨g, 0, none⟩) hg).trans h0, (hb.cell (p := ⟨g, 1, none⟩) hg).trans h1⟩
theorem stepS {w W w' : World} {p : Prop} (h : Below w.heap.size w W ∧ p) (hb : Below W.heap.size W w') : Below w.heap.size w w' := h.1.trans (hb.mono h.1.size)
theorem rowS {w W : World} {p : Prop} {A : Option Addr} {n : Nat} {ls : List L3} (h : Below w.heap.size w W ∧ p) (hr : RowL w A n ls) : RowL W A n ls := hr.below h.1
theorem srcS {w W : World} {p : Prop} {ad : Addr} {n : Nat} {ts : List Bool} (h : Below w.heap.size w W ∧ p) (hr : RowT w (some ad) n ts) : ∀ j u, (ts.map Value.bool)[j]? = some u → W.cell? (ad.add j) = some u := src_cells (hr.below h.1)
theorem stOk_more {bs : Int} {ls : List L3} {m : Nat} (h : stOk bs ls m = true) : stOk bs ls (m + 1) = false := by
  have := (stOk_len h).1
  simp [stOk]; intro _; omega

set_option maxRecDepth 100000 in
set_option maxHeartbeats 2000000 in
theorem stateValid_walk (w : World) (A : Option Addr) (n c : Nat) (code : List Int) (hr : RowB w A n code) (hnc : n ≤ c) (hc : c ≤ 9223372036854775807) :
    Calls Tryd.prog 5 #[.slice A n c] w fun e w' => e = .returned (.bool true) ∧ Below w.heap.size w w' := by
  by_cases hlen : n ≤ 1048576
  · obtain ⟨i0, hi, hz0, hz1, hz2⟩ := info_parts boolInfoG
    have HI0 := Lib.hid hi
    clear hi
    go_enter Tryd.func5, Tryd.ntmps5
    go_wp2_with fail
    refine (drawStateValid_any A n c code _ hr hnc hc).mono ?_
    rintro e w1 ⟨bs, A1, c1, ls, v, ts, rfl, hrow, hls, hO, hts, a1⟩
    have hb0 := below_bx w1 (.cells #[.int .i64 bs, .slice A1 ls.length c1] 25)
    have R1 := Lib.hid (hrow.below hb0)
    have k1 := Lib.hid (IsBlk.new w1 25 #[.int .i64 bs, .slice A1 ls.length c1])
    have b1 : Below w.heap.size w (w1.alloc (.cells #[.int .i64 bs, .slice A1 ls.length c1] 25)) := a1.alloc a1.size _
    obtain ⟨A2, c2, rfl, _, hrt⟩ := hO.row
    have T1 := Lib.hid (hrt.below hb0)
    clear hrow hr hO hrt hb0
    have h1 : ls.length ≤ 1048576 := by omega
    generalize hm : ts.length = m at *
    have HM := Lib.hid hm
    clear hm
    go_wp2_with fail
    refine (stateValid_any bs A1 ls.length c1 ls A2 m c2 _ h1 R1.out (by omega)).mono ?_
    rintro e w2 ⟨rfl, hb2⟩
    have b2 := b1.trans (hb2.mono b1.size)
    have R2 := Lib.hid (R1.out.below hb2)
    have T2 := Lib.hid (T1.out.below hb2)
    have k2 := Lib.hid (k1.out.keep hb2)
    clear R1 k1 T1
    obtain ⟨p0, p1, p2, p3⟩ := k2.out.two
    go_wp2_with fail
    refine (specStateValid_any bs A1 ls.length c1 ls A2 m c2 _ h1 R2.out (by omega)).mono ?_
    rintro e w3 ⟨rfl, hb3⟩
    have b3 := b2.trans (hb3.mono b2.size)
    have R3 := Lib.hid (R2.out.below hb3)
    have T3 := Lib.hid (T2.out.below hb3)
    have k3 := Lib.hid (k2.out.keep hb3)
    clear R2 k2 T2 p0 p1 p2 p3 b1 b2
    have hX3 : w1.heap.size < w3.heap.size := k3.out.lt
    have HZ := Lib.hid (show stOk 0 [] 0 = false by decide)
    have hrz : ∀ W : World, RowL W none 0 [] := fun W => ⟨rfl, fun h => absurd h (by omega)⟩
    have HRZ := Lib.hid hrz
    clear hrz
    by_cases hs : stOk bs ls m = true
    · have HS := Lib.hid hs
      have HV := Lib.hid (show netOk bs ls = true by simp only [stOk, Bool.and_eq_true] at hs; exact hs.1)
      have HQ := Lib.hid (stOk_more hs)
      rw [hs]
      clear hs
      obtain ⟨p0, p1, p2, p3⟩ := k3.out.two
      go_upto_region 7 with fail
      by_cases hm0 : m = 0
      · subst hm0
        have HQ1 := Lib.hid (show stOk bs ls 1 = false from HQ.out)
        go_region_held3 (fun w' => Below w3.heap.size w3 w' ∧ w'.cell? ⟨w1.heap.size, 0, none⟩ = some (.int .i64 bs) ∧ w'.cell? ⟨w1.heap.size, 1, none⟩ = some (.slice A1 ls.length c1))
          (first
            | (refine keepS p0 p1 hX3 ?_; repeat (first | with_reducible exact hB9 | with_reducible exact hB8 | with_reducible exact hB7 | with_reducible exact hB34 | with_reducible exact hBz | with_reducible exact Below.refl _ _ | with_reducible refine Below.drew ?_ | (with_reducible refine Below.alloc ?_ (by first | omega | (simp; done) | (simp; omega) | (have := hB34.size; simp at *; omega) | (have := hBz.size; simp at *; omega)) _))))
          (first
            | (rw [if_pos (by rfl)]; refine wp_append_nothing (.tmp 29) (.tmp 30) 35 rfl 4 i0 Tryd.underlying35 HI0.out _ 0 rfl A2 c2 rfl ?_)
            | (rw [if_pos (by rfl)]; refine wp_append_zero (.tmp 31) (.tmp 32) 35 rfl 4 i0 _ 1 1 Tryd.underlying35 HI0.out hz0 hz1 hz2 rfl _ rfl _ 1 1 [.bool true] rfl rfl ?_ ?_ (by decide) (by decide) (by decide) ?_
               · (refine one_blk (t := 4) ?_; repeat (first | (with_reducible refine IsBlk.at_ rfl rfl ?_; (simp; done)) | with_reducible refine IsBlk.drew_ ?_ | with_reducible refine IsBlk.alloc ?_ _))
               · intro u hu; simp at hu; subst hu; rfl
               intro cap arr hcap hcm hsz htk)
            | (go_at_call 10; refine (netValid_any bs A1 ls.length c1 ls _ h1 (rowS (by assumption) R3.out)).mono ?_; rintro e w5 ⟨rfl, hb5⟩; rw [HV.out]; have hBz := stepS (by assumption) hb5)
            | (go_at_call 17; go_fit (stateValid_any bs A1 ls.length c1 ls _ 1 _ _ h1 (rowS (by assumption) R3.out) (by omega)); rintro e w7 ⟨rfl, hb7⟩; rw [HQ1.out]; have hB7 := stepS (by assumption) hb7)
            | (go_at_call 17; (with_reducible refine (stateValid_any 0 none 0 0 [] none 0 0 _ (by omega) (HRZ.out _) (by omega)).mono ?_); rintro e w8 ⟨rfl, hb8⟩; rw [HZ.out]; have hB8 := stepS (by assumption) hb8)
            | (go_at_call 11; refine (alive_any _).mono ?_; rintro e w9 ⟨rfl, hb9⟩; have hB9 := stepS (by assumption) hb9))
        all_goals go_wp2
        all_goals go_ret
        all_goals exact ⟨rfl, b3.trans (hB9.mono b3.size)⟩
      have hm1 : 0 < m := by omega
      obtain ⟨b, off, rfl, hbl, _⟩ := T3.out.2 hm1
      have HN := Lib.hid (show (ts.map Value.bool).length = m * 1 by rw [List.length_map, HM.out, Nat.mul_one])
      go_region_held3 (fun w' => Below w3.heap.size w3 w' ∧ w'.cell? ⟨w1.heap.size, 0, none⟩ = some (.int .i64 bs) ∧ w'.cell? ⟨w1.heap.size, 1, none⟩ = some (.slice A1 ls.length c1))
        (first
          | (refine keepS p0 p1 hX3 ?_; repeat (first | with_reducible exact hB9 | with_reducible exact hB8 | with_reducible exact hB7 | with_reducible exact hB34 | with_reducible exact hBz | with_reducible exact Below.refl _ _ | with_reducible refine Below.drew ?_ | (with_reducible refine Below.alloc ?_ (by first | omega | (simp; done) | (simp; omega) | (have := hB34.size; simp at *; omega) | (have := hBz.size; simp at *; omega)) _))))
        (first
          | (rw [if_pos (by rfl)]; refine wp_append_zero (.tmp 29) (.tmp 30) 35 rfl 4 i0 _ 1 1 Tryd.underlying35 HI0.out hz0 hz1 hz2 rfl _ rfl ⟨b, off, none⟩ m c2 (ts.map Value.bool) rfl HN.out ?_ (bool_one ts) hm1 (by omega) (by decide) ?_
             · exact srcS (by assumption) T3.out
             intro cap arr hcap hcm hsz htk)
          | (rw [if_pos (by rfl)]; refine wp_append_lies _ (.tmp 31) (.tmp 32) 35 rfl w3.heap.size 4 i0 _ 1 1 Tryd.underlying35 HI0.out hz0 hz1 hz2 rfl (by decide) _ m (ts.map Value.bool) rfl ?_ _ 1 1 [.bool true] rfl rfl ?_ ?_ (by decide) ?_ ?_ ?_ _ rfl ?_
             · (refine own_blkB ?_ (by first | omega | (simp; done) | (simp; omega) | (have := hBz.size; simp; omega)) HN.out hcap hcm hsz htk; repeat (first | (with_reducible refine IsBlk.at_ rfl rfl ?_; (simp; done)) | with_reducible refine IsBlk.drew_ ?_ | with_reducible refine IsBlk.alloc ?_ _))
             · (refine one_blk (t := 4) ?_; repeat (first | (with_reducible refine IsBlk.at_ rfl rfl ?_; (simp; done)) | with_reducible refine IsBlk.drew_ ?_ | with_reducible refine IsBlk.alloc ?_ _))
             · intro u hu; simp at hu; subst hu; rfl
             · simp only [maxLen]; omega
             · omega
             · (first | omega | (simp; done) | (simp; omega) | (have := hBz.size; simp; omega))
             intro g cap' w34 hown34 hgrow34 hat34 hlt34
             have hB34 : Below w3.heap.size w3 w34 := by
               refine Below.grown ?_ hgrow34 (by first | omega | (simp; done) | (simp; omega) | (have := hBz.size; simp; omega)) (fun q hq => by cases hq; (first | omega | (simp; done) | (simp; omega) | (have := hBz.size; simp; omega)))
               repeat (first | with_reducible exact hB9 | with_reducible exact hB8 | with_reducible exact hB7 | with_reducible exact hB34 | with_reducible exact hBz | with_reducible exact Below.refl _ _ | with_reducible refine Below.drew ?_ | (with_reducible refine Below.alloc ?_ (by first | omega | (simp; done) | (simp; omega) | (have := hB34.size; simp at *; omega) | (have := hBz.size; simp at *; omega)) _))
             clear hown34 hgrow34 hat34 hlt34)
          | (go_at_call 10; refine (netValid_any bs A1 ls.length c1 ls _ h1 (rowS (by assumption) R3.out)).mono ?_; rintro e w5 ⟨rfl, hb5⟩; rw [HV.out]; have hBz := stepS (by assumption) hb5)
          | (go_at_call 17; (with_reducible refine (stateValid_any bs A1 ls.length c1 ls _ (m + 1) _ _ h1 (rowS (by assumption) R3.out) (by omega)).mono ?_); rintro e w7 ⟨rfl, hb7⟩; rw [HQ.out]; have hB7 := stepS (by assumption) hb7)
          | (go_at_call 17; (with_reducible refine (stateValid_any 0 none 0 0 [] none 0 0 _ (by omega) (HRZ.out _) (by omega)).mono ?_); rintro e w8 ⟨rfl, hb8⟩; rw [HZ.out]; have hB8 := stepS (by assumption) hb8)
          | (go_at_call 11; refine (alive_any _).mono ?_; rintro e w9 ⟨rfl, hb9⟩; have hB9 := stepS (by assumption) hb9))
      all_goals go_wp2
      all_goals go_ret
      all_goals exact ⟨rfl, b3.trans (hB9.mono b3.size)⟩
    · rw [Bool.not_eq_true] at hs
      have HS := Lib.hid hs
      rw [hs]
      clear hs
      go_upto_region 7 with fail
      refine wp_region_noPanic ?_
      refine wp_region_any (by kernel_rfl) ?_
      change wpAny _ _ _ _ _ _ _ (World.drew _)
      refine wpAny_take (i := 0) (v := .bool false) rfl (by kernel_rfl) (by kernel_rfl) (by kernel_rfl) (fun _ _ _ h => (h : False).elim) (Or.inl ⟨by kernel_rfl, fun w => by go_simp⟩) ?_
      refine wpAny_take (i := 1) (v := .bool true) rfl (by kernel_rfl) (by kernel_rfl) (by kernel_rfl) (fun _ _ _ h => (h : False).elim) (Or.inl ⟨by kernel_rfl, fun w => by go_simp⟩) ?_
      refine wpAny_take (i := 2) (v := .bool true) rfl (by kernel_rfl) (by kernel_rfl) (by kernel_rfl) (fun _ _ _ h => (h : False).elim) (Or.inl ⟨by kernel_rfl, fun w => by go_simp⟩) ?_
      refine wpAny_take (i := 3) (v := undef) rfl (by kernel_rfl) (by kernel_rfl) (by kernel_rfl) (fun _ _ _ h => (h : False).elim) (Or.inr ⟨by kernel_rfl, rfl⟩) ?_
      refine wpAny_take (i := 4) (v := undef) rfl (by kernel_rfl) (by kernel_rfl) (by kernel_rfl) (fun _ _ _ h => (h : False).elim) (Or.inr ⟨by kernel_rfl, rfl⟩) ?_
      refine wpAny_take (i := 5) (v := undef) rfl (by kernel_rfl) (by kernel_rfl) (by kernel_rfl) (fun _ _ _ h => (h : False).elim) (Or.inr ⟨by kernel_rfl, rfl⟩) ?_
      refine wpAny_take (i := 6) (v := undef) rfl (by kernel_rfl) (by kernel_rfl) (by kernel_rfl) (fun _ _ _ h => (h : False).elim) (Or.inr ⟨by kernel_rfl, rfl⟩) ?_
      refine wpAny_take (i := 7) (v := undef) rfl (by kernel_rfl) (by kernel_rfl) (by kernel_rfl) (fun _ _ _ h => (h : False).elim) (Or.inr ⟨by kernel_rfl, rfl⟩) ?_
      refine wpAny_take (i := 8) (v := undef) rfl (by kernel_rfl) (by kernel_rfl) (by kernel_rfl) (fun _ _ _ h => (h : False).elim) (Or.inr ⟨by kernel_rfl, rfl⟩) ?_
      refine wpAny_take (i := 9) (v := undef) rfl (by kernel_rfl) (by kernel_rfl) (by kernel_rfl) (fun _ _ _ h => (h : False).elim) (Or.inr ⟨by kernel_rfl, rfl⟩) ?_
      refine wpAny_take (i := 10) (v := undef) rfl (by kernel_rfl) (by kernel_rfl) (by kernel_rfl) (fun _ _ _ h => (h : False).elim) (Or.inr ⟨by kernel_rfl, rfl⟩) ?_
      refine wpAny_take (i := 11) (v := undef) rfl (by kernel_rfl) (by kernel_rfl) (by kernel_rfl) (fun _ _ _ h => (h : False).elim) (Or.inr ⟨by kernel_rfl, rfl⟩) ?_
      refine wpAny_take (i := 12) (v := undef) rfl (by kernel_rfl) (by kernel_rfl) (by kernel_rfl) (fun _ _ _ h => (h : False).elim) (Or.inr ⟨by kernel_rfl, rfl⟩) ?_
      refine wpAny_take (i := 13) (v := undef) rfl (by kernel_rfl) (by kernel_rfl) (by kernel_rfl) (fun _ _ _ h => (h : False).elim) (Or.inr ⟨by kernel_rfl, rfl⟩) ?_
      refine wpAny_take (i := 14) (v := undef) rfl (by kernel_rfl) (by kernel_rfl) (by kernel_rfl) (fun _ _ _ h => (h : False).elim) (Or.inr ⟨by kernel_rfl, rfl⟩) ?_
      refine wpAny_take (i := 15) (v := .bool true) rfl (by kernel_rfl) (by kernel_rfl) (by kernel_rfl) (fun _ _ _ h => (h : False).elim) (Or.inl ⟨by kernel_rfl, fun w => by go_simp⟩) ?_
      refine wpAny_take (i := 16) (v := .bool true) rfl (by kernel_rfl) (by kernel_rfl) (by kernel_rfl) (fun _ _ _ h => (h : False).elim) (Or.inl ⟨by kernel_rfl, fun w => by go_simp⟩) ?_
      refine wpAny_take (i := 17) (v := .agg #[.int .i64 0, .slice none 0 0]) rfl (by kernel_rfl) (by kernel_rfl) (by kernel_rfl) (fun _ _ _ h => (h : False).elim) (Or.inl ⟨by kernel_rfl, fun w => by go_simp⟩) ?_
      refine wpAny_ready (rs := [18]) (by kernel_rfl) (by simp) ?_
      refine AllReady.cons rfl (fun K hK => ?_) AllReady.nil
      go_simp
      refine (stateValid_any 0 none 0 0 [] none 0 0 _ (by omega) (HRZ.out _) (by omega)).mono ?_
      rintro e w8 ⟨rfl, hb8⟩
      rw [HZ.out]
      have hB8 := (Below.refl w3.heap.size w3).drew.trans (hb8.mono (Nat.le_refl _))
      go_simp
      refine hK _ _ ?_
      clear hK K
      refine wpAny_take (i := 19) (v := .bool true) rfl (by kernel_rfl) (by kernel_rfl) (by kernel_rfl) (fun _ _ _ h => (h : False).elim) (Or.inl ⟨by kernel_rfl, fun w => by go_simp⟩) ?_
      refine wpAny_take (i := 20) (v := .bool true) rfl (by kernel_rfl) (by kernel_rfl) (by kernel_rfl) (fun _ _ _ h => (h : False).elim) (Or.inl ⟨by kernel_rfl, fun w => by go_simp⟩) ?_
      refine wpAny_take (i := 21) (v := .bool true) rfl (by kernel_rfl) (by kernel_rfl) (by kernel_rfl) (fun _ _ _ h => (h : False).elim) (Or.inl ⟨by kernel_rfl, fun w => by go_simp⟩) ?_
      refine wpAny_ready (rs := [22]) (by kernel_rfl) (by simp) ?_
      refine AllReady.cons rfl (fun K hK => ?_) AllReady.nil
      go_simp
      refine (alive_any _).mono ?_
      rintro e w9 ⟨rfl, hb9⟩
      have hB9 := hB8.trans (hb9.mono hB8.size)
      go_simp
      refine hK _ _ ?_
      clear hK K
      refine wpAny_take (i := 23) (v := .bool true) rfl (by kernel_rfl) (by kernel_rfl) (by kernel_rfl) (fun _ _ _ h => (h : False).elim) (Or.inl ⟨by kernel_rfl, fun w => by go_simp⟩) ?_
      refine wpAny_take (i := 24) (v := .bool true) rfl (by kernel_rfl) (by kernel_rfl) (by kernel_rfl) (fun _ _ _ h => (h : False).elim) (Or.inl ⟨by kernel_rfl, fun w => by go_simp⟩) ?_
      refine wpAny_done (by kernel_rfl) ?_ _
      refine NoPanic.normal ?_
      go_wp2
      go_ret
      exact ⟨rfl, b3.trans (hB9.mono b3.size)⟩
  · have hl2 : (1048576 : Int) < (n : Int) := by omega
    go_enter Tryd.func5, Tryd.ntmps5
    go_wp2
    go_ret
    exact ⟨rfl, Below.refl _ _⟩
end Go.Proofs.YtciciidndjkdiaaDoor
