/- The drawings of a network and a state: HasCycle, SpanningLines. -/
import Derived.Test.YtcdliaabbhoagaaDoorBDB
namespace Go.Proofs.YtcdliaabbhoagaaDoor
open Go.ChangeShapes Go.WideShapes Go.ChangeAt Go.RowKit

set_option maxRecDepth 100000 in
set_option maxHeartbeats 1000000 in
theorem drawHasCycle_any (A : Option Addr) (n c : Nat) (code : List Int) (w : World) (hr : RowB w A n code) (hnc : n ≤ c) (hc : c ≤ 9223372036854775807) :
    Calls Tryd.prog 5 #[.slice A n c] w (NetAndState w) := by
  go_enter Tryd.func5, Tryd.ntmps5
  go_wp2_with fail
  refine (open_any A n c code _ (hr.alloc _) hnc hc).mono ?_
  rintro e w1 ⟨rfl, hb1, hr1, hs1⟩
  simp only [World.size_alloc] at hb1 hr1 hs1
  have HS := Lib.hid hs1
  clear hs1
  go_wp2_with fail
  refine (switched_any (w.heap.size + 1) 6 0 (by decide) (by decide) (by decide) _ (by rw [HS.out]; omega) hr1).mono ?_
  rintro e w2 ⟨bs, A', c', ls, v, ts, rfl, ho, hl, hb0, hb9, hO, hts, hr2, hg2⟩
  obtain ⟨As, cs, rfl, _, _⟩ := hO.row
  have k1 : IsBlk w1 w.heap.size 25 #[.int .i64 0, .slice none 0 0] := (IsBlk.new w 25 #[.int .i64 0, .slice none 0 0]).below hb1 (by omega)
  have S := Lib.hid (stored (bs := bs) hb1 rfl HS.out ho hO hg2)
  obtain ⟨q0, q1, q2, q3⟩ := (show IsBlk w2 w.heap.size 25 _ from (hg2.block _ k1.lt (by simp)).trans k1).two
  clear k1 ho hO hr2 hg2 hb1 hr1 hr
  go_wp2_with fail
  exact bodyPost_ret (v := .tuple #[.agg #[.int .i64 bs, .slice A' ls.length c'], .slice As ts.length cs]) (by simp [results, Tryd.results5, go_sem, q0, q1]) rfl ⟨bs, A', c', ls, _, ts, rfl, S.out.1, hl, hb0, hb9, S.out.2.1, hts, S.out.2.2⟩
set_option maxRecDepth 100000 in
set_option maxHeartbeats 1000000 in
theorem drawSpanningLines_any (A : Option Addr) (n c : Nat) (code : List Int) (w : World) (hr : RowB w A n code) (hnc : n ≤ c) (hc : c ≤ 9223372036854775807) :
    Calls Tryd.prog 12 #[.slice A n c] w (NetAndState w) := by
  go_enter Tryd.func12, Tryd.ntmps12
  go_wp2_with fail
  refine (open_any A n c code _ (hr.alloc _) hnc hc).mono ?_
  rintro e w1 ⟨rfl, hb1, hr1, hs1⟩
  simp only [World.size_alloc] at hb1 hr1 hs1
  have HS := Lib.hid hs1
  clear hs1
  go_wp2_with fail
  refine (switched_any (w.heap.size + 1) 6 0 (by decide) (by decide) (by decide) _ (by rw [HS.out]; omega) hr1).mono ?_
  rintro e w2 ⟨bs, A', c', ls, v, ts, rfl, ho, hl, hb0, hb9, hO, hts, hr2, hg2⟩
  obtain ⟨As, cs, rfl, _, _⟩ := hO.row
  have k1 : IsBlk w1 w.heap.size 25 #[.int .i64 0, .slice none 0 0] := (IsBlk.new w 25 #[.int .i64 0, .slice none 0 0]).below hb1 (by omega)
  have S := Lib.hid (stored (bs := bs) hb1 rfl HS.out ho hO hg2)
  obtain ⟨q0, q1, q2, q3⟩ := (show IsBlk w2 w.heap.size 25 _ from (hg2.block _ k1.lt (by simp)).trans k1).two
  clear k1 ho hO hr2 hg2 hb1 hr1 hr
  go_wp2_with fail
  exact bodyPost_ret (v := .tuple #[.agg #[.int .i64 bs, .slice A' ls.length c'], .slice As ts.length cs]) (by simp [results, Tryd.results12, go_sem, q0, q1]) rfl ⟨bs, A', c', ls, _, ts, rfl, S.out.1, hl, hb0, hb9, S.out.2.1, hts, S.out.2.2⟩
end Go.Proofs.YtcdliaabbhoagaaDoor
