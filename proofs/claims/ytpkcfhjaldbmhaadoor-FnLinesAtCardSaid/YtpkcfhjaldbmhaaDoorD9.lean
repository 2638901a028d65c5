/- FnLinesAt: the sum over all buses, lists compared, ascending lists, the drawing. -/
import Derived.Test.YtpkcfhjaldbmhaaDoorD8
namespace Go.Proofs.YtpkcfhjaldbmhaaDoor
open Go.ChangeShapes Go.WideShapes Go.ChangeAt Go.RowKit

def sumTo (ls : List L3) (n : Nat) : Nat → Nat
  | 0 => 0
  | k + 1 => sumTo ls n k + (atTo ls (k : Int) n).length
def one (p : Bool) : Nat := if p then 1 else 0
def endsTo (l : L3) : Nat → Nat
  | 0 => 0
  | k + 1 => endsTo l k + one (endsB l (k : Int))
theorem endsTo_eq (l : L3) (hne : l.1 ≠ l.2.1) : ∀ k : Nat, endsTo l k = one (decide (0 ≤ l.1 ∧ l.1 < (k : Int))) + one (decide (0 ≤ l.2.1 ∧ l.2.1 < (k : Int)))
  | 0 => by
    simp only [endsTo, one, decide_eq_true_eq]
    rw [if_neg (by omega), if_neg (by omega)]
  | k + 1 => by
    rw [endsTo, endsTo_eq l hne k]
    simp only [one, endsB, Bool.or_eq_true, beq_iff_eq, decide_eq_true_eq, Int.natCast_add, Int.natCast_one]
    repeat' split
    all_goals omega
theorem sumTo_succ {ls : List L3} {n : Nat} {l : L3} (h : ls[n]? = some l) : ∀ k, sumTo ls (n + 1) k = sumTo ls n k + endsTo l k
  | 0 => rfl
  | k + 1 => by
    rw [sumTo, sumTo, endsTo, sumTo_succ h k]
    rcases hb : endsB l (k : Int) with _ | _
    · rw [atTo_no h hb]; simp [one]; omega
    · rw [atTo_yes h hb]; simp [one]; omega
theorem sumTo_zero (ls : List L3) : ∀ k, sumTo ls 0 k = 0
  | 0 => rfl
  | k + 1 => by rw [sumTo, sumTo_zero ls k]; rfl
theorem sumTo_all {bs : Int} {ls : List L3} (hv : netOk bs ls = true) : ∀ n, n ≤ ls.length → sumTo ls n bs.toNat = 2 * n
  | 0, _ => sumTo_zero _ _
  | n + 1, h => by
    have hk : ls[n]? = some (ls[n]'(by omega)) := List.getElem?_eq_getElem _
    generalize ls[n]'(by omega) = l at hk
    have hok := netOk_line hv hk
    have hne := lineOk_ne hok
    have hbs := netOk_len hv
    simp only [lineOk, inB, Bool.and_eq_true, decide_eq_true_eq] at hok
    rw [sumTo_succ hk, sumTo_all hv n (by omega), endsTo_eq l hne]
    simp only [one, decide_eq_true_eq]
    rw [if_pos (by omega), if_pos (by omega)]; omega

/-- Ascending. -/
def Asc (xs : List Int) : Prop := ∀ j x y, xs[j]? = some x → xs[j + 1]? = some y → x < y
theorem asc_snoc {xs : List Int} {z : Int} (h : Asc xs) (hz : ∀ x ∈ xs, x < z) : Asc (xs ++ [z]) := by
  intro j x y hx hy
  rcases Nat.lt_or_ge (j + 1) xs.length with h1 | h1
  · rw [List.getElem?_append_left (by omega)] at hx
    rw [List.getElem?_append_left h1] at hy
    exact h j x y hx hy
  · have hlt : j + 1 < (xs ++ [z]).length := (List.getElem?_eq_some_iff.1 hy).1
    simp at hlt
    have he : j + 1 = xs.length := by omega
    rw [List.getElem?_append_right h1, he] at hy
    simp at hy; subst hy
    rw [List.getElem?_append_left (by omega)] at hx
    exact hz x (List.mem_of_getElem? hx)
theorem atTo_lt {ls : List L3} {bus : Int} {k : Nat} : ∀ x ∈ atTo ls bus k, x < (k : Int) := by
  intro x hx
  simp only [atTo, List.mem_map, List.mem_filter, List.mem_range] at hx
  obtain ⟨j, ⟨hj, _⟩, rfl⟩ := hx
  show (j : Int) < k
  omega
theorem atTo_asc (ls : List L3) (bus : Int) : ∀ k, Asc (atTo ls bus k)
  | 0 => by intro j x y hx; simp [atTo] at hx
  | k + 1 => by
    have ih := atTo_asc ls bus k
    rcases hb : endsB (ls.getD k (0, 0, 0)) bus with _ | _
    · have : atTo ls bus (k + 1) = atTo ls bus k := by rw [atTo, List.range_succ, List.filter_append, List.map_append, List.filter_cons, hb]; simp [atTo]
      rw [this]; exact ih
    · have : atTo ls bus (k + 1) = atTo ls bus k ++ [(k : Int)] := by rw [atTo, List.range_succ, List.filter_append, List.map_append, List.filter_cons, hb]; rfl
      rw [this]; exact asc_snoc ih atTo_lt

theorem sameInts_any (v v' : Value) (xs : List Int) (w : World) (hn : xs.length ≤ 1048576) (hr : RowI w v xs) (hr' : RowI w v' xs) :
    Calls Tryd.prog 17 #[v, v'] w fun e w' => e = .returned (.bool true) ∧ Below w.heap.size w w' := by
  obtain ⟨A, c, rfl, HA⟩ := hr
  obtain ⟨A', c', rfl, HA'⟩ := hr'
  generalize hn' : xs.length = n at *
  have HL := Lib.hid hn'
  have HC := Lib.hid HA
  have HC' := Lib.hid HA'
  clear HA HA' hn'
  go_enter Tryd.func17, Tryd.ntmps17
  go_wp2
  go_loopw [5] (fun i wr => ∃ k : Nat, k ≤ n ∧ i = .int .i64 k ∧ Below w.heap.size w wr) (fun i _ => n - (intOf i).toNat)
  case atStart => exact ⟨0, by omega, rfl, Below.refl _ _⟩
  case round =>
    obtain ⟨k, hk, rfl, hbel⟩ := hrel
    by_cases hlt : k < n
    · obtain ⟨g, rfl, hb, HD⟩ := HC.out (by omega)
      obtain ⟨g', rfl, hb', HD'⟩ := HC'.out (by omega)
      have hkl : xs[k]? = some (xs[k]'(by have := HL.out; omega)) := List.getElem?_eq_getElem _
      generalize (xs[k]'(by have := HL.out; omega)) = x at hkl
      have g0 := HD k x hkl
      have g0' := HD' k x hkl
      rw [← hbel.cell (p := ⟨g, 0 + k, none⟩) hb] at g0
      rw [← hbel.cell (p := ⟨g', 0 + k, none⟩) hb'] at g0'
      simp only [Nat.zero_add] at g0 g0'
      clear hkl HD HD'
      have i0 : (0 : Int) ≤ (k : Int) := by omega
      have i1 : (k : Int) < (n : Int) := by omega
      go_wp2
      go_quiet (fail)
      go_wp2
      go_roundw
      case rel => exact ⟨k + 1, by omega, by go_num, below_drewN hbel _⟩
      case measure => simp [intOf]; omega
    · go_wp2
      go_ret
      exact ⟨rfl, hbel⟩

theorem ascend_any (v : Value) (xs : List Int) (w : World) (hn : xs.length ≤ 1048576) (hr : RowI w v xs) (ha : Asc xs) :
    Calls Tryd.prog 19 #[v] w fun e w' => e = .returned (.bool true) ∧ Below w.heap.size w w' := by
  obtain ⟨A, c, rfl, HA⟩ := hr
  generalize hn' : xs.length = n at *
  have HL := Lib.hid hn'
  have HC := Lib.hid HA
  have HS := Lib.hid ha
  clear HA hn' ha
  go_enter Tryd.func19, Tryd.ntmps19
  go_wp2
  go_loopw [3] (fun i wr => ∃ k : Nat, 1 ≤ k ∧ (k ≤ n ∨ n = 0 ∧ k = 1) ∧ i = .int .i64 k ∧ Below w.heap.size w wr) (fun i _ => n - (intOf i).toNat)
  case atStart => exact ⟨1, by omega, by omega, rfl, Below.refl _ _⟩
  case round =>
    obtain ⟨k, hk1, hk, rfl, hbel⟩ := hrel
    by_cases hlt : k < n
    · obtain ⟨j, rfl⟩ : ∃ j, k = j + 1 := ⟨k - 1, by omega⟩
      obtain ⟨g, rfl, hb, HD⟩ := HC.out (by omega)
      have hkl : xs[j]? = some (xs[j]'(by have := HL.out; omega)) := List.getElem?_eq_getElem _
      have hkl' : xs[j + 1]? = some (xs[j + 1]'(by have := HL.out; omega)) := List.getElem?_eq_getElem _
      generalize (xs[j]'(by have := HL.out; omega)) = x at hkl
      generalize (xs[j + 1]'(by have := HL.out; omega)) = y at hkl'
      have hxy : x < y := HS.out j x y hkl hkl'
      have g0 := HD j x hkl
      have g1 := HD (j + 1) y hkl'
      rw [← hbel.cell (p := ⟨g, 0 + j, none⟩) hb] at g0
      rw [← hbel.cell (p := ⟨g, 0 + (j + 1), none⟩) hb] at g1
      simp only [Nat.zero_add] at g0 g1
      clear hkl hkl' HD
      have i0 : (0 : Int) ≤ (j : Int) := by omega
      have i1 : (j : Int) < (n : Int) := by omega
      have i2 : ((j + 1 : Nat) : Int) < (n : Int) := by omega
      have i3 : (j : Int) + 1 < (n : Int) := by omega
      go_wp2
      go_quiet (fail)
      go_wp2
      go_roundw
      case rel => exact ⟨j + 1 + 1, by omega, by omega, by go_num, below_drewN hbel _⟩
      case measure => simp [intOf]; omega
    · go_wp2
      go_ret
      exact ⟨rfl, hbel⟩

set_option maxRecDepth 100000 in
set_option maxHeartbeats 3000000 in
theorem drawLinesAt_any (A : Option Addr) (n c : Nat) (bs : List Int) (w : World) (hr : RowB w A n bs) (hnc : n ≤ c) (hc : c ≤ 9223372036854775807) :
    Calls Tryd.prog 15 #[.slice A n c] w fun e w' => ∃ bs A c ls b, e = .returned (.tuple #[.agg #[.int .i64 bs, .slice A ls.length c], .int .i64 b]) ∧ RowL w' A ls.length ls ∧ ls.length ≤ 12 ∧ Below w.heap.size w w' := by
  go_enter Tryd.func15, Tryd.ntmps15
  go_wp2_with fail
  refine (open_any A n c bs _ ?_ hnc hc).mono ?_
  case refine_1 =>
    refine ⟨hr.1, fun hp => ?_, hr.2.2⟩
    obtain ⟨b, off, e, hlt, hcl⟩ := hr.2.1 hp
    exact ⟨b, off, e, by simp; omega, fun k x hk => by rw [World.cell?_alloc_lt _ _ _ hlt]; exact hcl k x hk⟩
  rintro e w1 ⟨rfl, hb1, hr1, hs1⟩
  simp only [World.size_alloc] at hb1 hr1 hs1
  have HS := Lib.hid hs1
  clear hs1
  go_wp2_with fail
  refine (net_any (w.heap.size + 1) 9 0 (by omega) (by omega) _ (by rw [HS.out]; omega) hr1).mono ?_
  rintro e w2 ⟨bs, v, ls, rfl, ho, hl, hb0, hb9, hr2, hg2⟩
  obtain ⟨A', c', rfl, _⟩ := ho.row
  have S1 := Lib.hid (draw_start (bs := bs) hb1 rfl HS.out ho hr2 hg2)
  clear hr2 hg2 ho
  generalize hR : w.heap.size + 1 = R at *
  have HRR := Lib.hid hR
  clear hR
  go_upto_region 3 with fail
  obtain ⟨p0, p1, p2, p3⟩ := S1.out.var.two
  obtain ⟨q0, q1, q2, q3⟩ := S1.out.ret.two
  have hX1 : ¬ w.heap.size = w2.heap.size := by have := S1.out.hR; have := S1.out.hX; omega
  generalize w2.heap.size = X at *
  have D1 := Lib.hid S1.out.drew
  have E2 := Lib.hid (show bs + 2 ≤ 1000000 by omega)
  have wb1 : IntKind.i64.wrap (bs + 2) = bs + 2 := IntWalk.i64_in _ (by omega)
  go_region_with (go_at_call 44; refine (pick_any R (bs + 2) _ (by decide) E2.out _ D1.out.rd).mono ?_; rintro e w4 ⟨vb, rfl, hd0, hd1, _, hr4, hg4⟩; have T2 := Lib.hid (D1.out.pick hr4 hg4); obtain ⟨p0, p1, p2, p3⟩ := T2.out.var.two; obtain ⟨q0, q1, q2, q3⟩ := T2.out.ret.two)
  all_goals clear wb1
  all_goals go_wp2_with fail
  all_goals
    have T4 := T2.out.done (.int .i64 bs)
    refine bodyPost_ret (v := .tuple #[.agg #[.int .i64 bs, .slice A' ls.length c'], .int .i64 _]) (by simp [results, Tryd.results15, go_sem, q0, q1, q2, q3]; rfl) rfl ⟨bs, A', c', ls, _, rfl, T4.1, hl, T4.2⟩
end Go.Proofs.YtpkcfhjaldbmhaaDoor
