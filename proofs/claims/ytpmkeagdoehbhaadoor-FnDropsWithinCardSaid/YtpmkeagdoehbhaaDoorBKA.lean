/- Texts joined: The laws' own helpers of chapter 3: a line off and on, how many islands; FnReached: the walk. -/
import Derived.Test.YtpmkeagdoehbhaaDoorBCC
import Derived.Test.YtpmkeagdoehbhaaDoorBCE
import Derived.Test.YtpmkeagdoehbhaaDoorD3
import Derived.Test.YtpmkeagdoehbhaaDoorBDE
import Derived.Test.YtpmkeagdoehbhaaDoorBDB
import Derived.Test.YtpmkeagdoehbhaaDoorBPC

/- The laws' own helpers of chapter 3: a line off and on, how many islands. -/
namespace Go.Proofs.YtpmkeagdoehbhaaDoor
open Go.ChangeShapes Go.WideShapes Go.ChangeAt Go.RowKit

theorem offOn_any (bs : Int) (A : Option Addr) (n c : Nat) (ls : List L3) (B : Option Addr) (m d : Nat) (ts : List Bool) (line : Int) (w : World) (hn : n ≤ 1048576) (hr : RowL w A n ls) (hm : m ≤ 1048576) (hrt : RowT w B m ts) :
    Calls Tryd.prog 20 #[.agg #[.int .i64 bs, .slice A n c], .slice B m d, .int .i64 line] w fun e w' => ∃ v u, e = .returned (.tuple #[v, u]) ∧ OwnT w' w.heap.size v (swF bs ls ts line false) ∧ OwnT w' w.heap.size u (swF bs ls ts line true) ∧ Below w.heap.size w w' := by
  have HR := Lib.hid hr
  have HT := Lib.hid hrt
  clear hr hrt
  go_enter Tryd.func20, Tryd.ntmps20
  go_wp2_with fail
  have hb0 := below_bx w (.cells #[.int .i64 bs, .slice A n c] 25)
  have HR1 := Lib.hid (HR.out.below hb0)
  have HT1 := Lib.hid (HT.out.below hb0)
  have k1 := Lib.hid (IsBlk.new w 25 #[.int .i64 bs, .slice A n c])
  refine (switchLine_any bs _ n c ls _ m d ts line false _ hn HR1.out hm HT1.out).mono ?_
  rintro e w1 ⟨v, rfl, hO, hb1⟩
  have a1 : Below w.heap.size w w1 := hb0.trans (hb1.mono hb0.size)
  have HR2 := Lib.hid (HR1.out.below hb1)
  have HT2 := Lib.hid (HT1.out.below hb1)
  have k2 := Lib.hid (k1.out.keep hb1)
  have O1 := Lib.hid (hO.more hb0.size)
  obtain ⟨p0, p1, p2, p3⟩ := k2.out.two
  obtain ⟨A1, c1, rfl, _, _⟩ := hO.row
  clear hO
  go_wp2_with fail
  refine (switchLine_any bs _ n c ls _ m d ts line true _ hn HR2.out hm HT2.out).mono ?_
  rintro e w2 ⟨u, rfl, hO2, hb2⟩
  have a2 : Below w.heap.size w w2 := a1.trans (hb2.mono a1.size)
  have O2 := Lib.hid (hO2.more a1.size)
  have O1' := Lib.hid (O1.out.keep hb2)
  obtain ⟨A2, c2, rfl, _, _⟩ := hO2.row
  clear hO2
  go_wp2
  go_ret2
  exact ⟨_, _, rfl, O1'.out, O2.out, a2⟩
end Go.Proofs.YtpmkeagdoehbhaaDoor

/- FnReached: the walk. -/
namespace Go.Proofs.YtpmkeagdoehbhaaDoor
open Go.ChangeShapes Go.WideShapes Go.ChangeAt Go.RowKit

theorem RowI.keepI {w w' : World} {v : Value} {xs : List Int} (h : RowI w v xs) (hb : Below w.heap.size w w') : RowI w' v xs := by
  obtain ⟨A, c, rfl, h⟩ := h
  refine ⟨A, c, rfl, fun hp => ?_⟩
  obtain ⟨g, e, hg, hc⟩ := h hp
  exact ⟨g, e, Nat.lt_of_lt_of_le hg hb.size, fun k x hk => (hb.cell (p := ⟨g, 0 + k, none⟩) hg).trans (hc k x hk)⟩
theorem RowL.at_ {w : World} {A : Option Addr} {n k : Nat} {ls : List L3} (h : RowL w A n ls) (hk : k < n) : ∃ b off l, A = some ⟨b, off, none⟩ ∧ b < w.heap.size ∧ ls[k]? = some l ∧ w.cell? ⟨b, off + k * 3, none⟩ = some (.int .i64 l.1) ∧ w.cell? ⟨b, off + k * 3 + 1, none⟩ = some (.int .i64 l.2.1) ∧ w.cell? ⟨b, off + k * 3 + 2, none⟩ = some (.int .i64 l.2.2) := by
  obtain ⟨b, off, e, hb, hc⟩ := h.2 (by omega)
  have hl : ls[k]? = some (ls[k]'(by have := h.1; omega)) := List.getElem?_eq_getElem _
  exact ⟨b, off, _, e, hb, hl, hc k _ hl⟩

end Go.Proofs.YtpmkeagdoehbhaaDoor
