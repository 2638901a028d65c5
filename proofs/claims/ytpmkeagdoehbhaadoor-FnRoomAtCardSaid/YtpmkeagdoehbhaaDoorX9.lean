/- What the promises of chapter 8 share: what was drawn, as it was drawn; a row of buses with one more load. -/
import Derived.Test.YtpmkeagdoehbhaaDoorO2
import Derived.Test.YtpmkeagdoehbhaaDoorX6
import Derived.Test.YtpmkeagdoehbhaaDoorX7
import Derived.Test.YtpmkeagdoehbhaaDoorX8
namespace Go.Proofs.YtpmkeagdoehbhaaDoor
open Go.ChangeShapes Go.WideShapes Go.ChangeAt Go.RowKit

/-- What a law's body holds on to. -/
structure LawSo (w W : World) (X : Nat) (bs : Int) (A1 : Option Addr) (c1 : Nat) (ls : List L3) (A2 : Option Addr) (ts : List Bool) (A3 : Option Addr) (us : List U2) (A4 : Option Addr) (os : List Int) : Prop where
  bel : Below w.heap.size w W
  net : IsBlk W X 25 #[.int .i64 bs, .slice A1 ls.length c1]
  row : RowL W A1 ls.length ls
  tr : RowT W A2 ts.length ts
  bu : RowU W A3 us.length us
  oh : RowZ W A4 os.length os
section
variable {w W W' : World} {X : Nat} {bs : Int} {A1 : Option Addr} {c1 : Nat} {ls : List L3} {A2 : Option Addr} {ts : List Bool} {A3 : Option Addr} {us : List U2} {A4 : Option Addr} {os : List Int}
theorem LawSo.next (h : LawSo w W X bs A1 c1 ls A2 ts A3 us A4 os) (hb : Below W.heap.size W W') : LawSo w W' X bs A1 c1 ls A2 ts A3 us A4 os :=
  ⟨h.bel.trans (hb.mono h.bel.size), h.net.keep hb, h.row.below hb, h.tr.below hb, h.bu.below hb, h.oh.below hb⟩
end
theorem holdO {w w' : World} {X : Nat} {u v : Value} (p0 : w.cell? ⟨X, 0, none⟩ = some u) (p1 : w.cell? ⟨X, 1, none⟩ = some v) (hX : X < w.heap.size) (hb : Below w.heap.size w w') :
    Below w.heap.size w w' ∧ w'.cell? ⟨X, 0, none⟩ = some u ∧ w'.cell? ⟨X, 1, none⟩ = some v :=
  ⟨hb, (hb.cell (p := ⟨X, 0, none⟩) hX).trans p0, (hb.cell (p := ⟨X, 1, none⟩) hX).trans p1⟩
theorem lawSo_start {w w1 : World} {bs : Int} {A1 : Option Addr} {c1 : Nat} {ls : List L3} {A2 : Option Addr} {ts : List Bool} {A3 : Option Addr} {us : List U2} {A4 : Option Addr} {os : List Int} (h : RowsO w w1 bs A1 ls A2 ts A3 us A4 os) :
    LawSo w (w1.alloc (.cells #[.int .i64 bs, .slice A1 ls.length c1] 25)) w1.heap.size bs A1 c1 ls A2 ts A3 us A4 os ∧ ls.length ≤ 1048576 ∧ ts.length ≤ 1048576 ∧ us.length ≤ 1048576 ∧ os.length ≤ 1048576 := by
  obtain ⟨hrow, hls, _, _, hrt, hts, hru, hus, hro, hol, a1⟩ := h
  have hbx := below_bx w1 (.cells #[.int .i64 bs, .slice A1 ls.length c1] 25)
  exact ⟨⟨a1.alloc a1.size _, IsBlk.new w1 25 #[.int .i64 bs, .slice A1 ls.length c1], hrow.below hbx, hrt.below hbx, hru.below hbx, hro.below hbx⟩, by omega, by omega, by omega, by omega⟩

set_option maxRecDepth 100000 in
set_option maxHeartbeats 1000000 in
/-- A row of buses with one more load at one. -/
theorem oneMoreO_any (U : Option Addr) (q r : Nat) (us : List U2) (k : Nat) (w : World) (hq : q ≤ 1048576) (hu : RowU w U q us) (hk : k < q) (h0 : 0 ≤ ld us k ∧ ld us k ≤ 999) :
    Calls Tryd.prog 11 #[.slice U q r, .int .i64 (k : Int)] w fun e w' => ∃ v, e = .returned v ∧ OwnU w' w.heap.size v (moreU us k 1) ∧ Below w.heap.size w w' := by
  obtain ⟨i0, hi, hz0, hz1, hz2⟩ := info_parts busInfo8
  have HI0 := Lib.hid hi
  have HL := hu.1
  have HO0 := Lib.hid (World.ownsRow_lit (base := w.heap.size) (size := 2) (e := 34) w #[] 0 (by omega) (by decide) rfl)
  clear hi
  have hkl : us[k]? = some (us[k]'(by omega)) := List.getElem?_eq_getElem _
  obtain ⟨bU, offU, _, hU, _⟩ := hu.at_ hk
  subst hU
  have HC := Lib.hid (src_cellsU (hu.below (below_bx w (.cells #[] 34))))
  have HL1 := Lib.hid (show (us.flatMap fU).length = q * 2 by rw [flat_len fU_len, HL])
  have HKL := Lib.hid hkl
  have hld := ld_at hkl
  have hfd := fd_at hkl
  rw [hld] at h0
  have HLD := Lib.hid hld
  have HFD := Lib.hid hfd
  generalize us[k]'(by omega) = u at *
  clear hu hkl hld hfd
  have ii0 : (0 : Int) ≤ (k : Int) := by omega
  have ii1 : (k : Int) < (q : Int) := by omega
  go_enter Tryd.func11, Tryd.ntmps11
  go_upto_region 2 with (
    at_builtin
    refine wpList_append_own _ rfl _ _ _ rfl w.heap.size 34 i0 (.agg #[.int .i64 0, .int .i64 0]) 2 16 Tryd.underlying27 HI0.out hz0 hz1 hz2 rfl (by decide) _ _ _ rfl HO0.out ⟨bU, offU, none⟩ q r (us.flatMap fU) rfl HL1.out ?c1 ?c2 ?c3 ?c4 ?c5 ?_
    case c1 => exact HC.out
    case c2 => exact int_oneU us
    case c3 => simp only [maxLen]; omega
    case c4 => omega
    case c5 => simp
    intro v' w3 hown' hgrow _
    have hb3 : Below w.heap.size w w3 := (below_bx w _).grown hgrow (by simp) (fun q hq => (World.ownsRow.lt HO0.out q hq).1))
  have hO3 : OwnU w3 w.heap.size v' us := by
    show World.ownsRow _ _ _ _ _ us.length _
    rw [HL]
    simpa using hown'
  obtain ⟨x, y⟩ := u
  simp only at h0
  obtain ⟨g, cap, rfl, hg, hgl, hfr, _, hput⟩ := OwnU.put (u' := (x, y + 1)) (x := .int .i64 (y + 1)) hO3 HKL.out (show 1 < 2 by decide) rfl
  obtain ⟨A3, c3, e3, hU3⟩ := hO3.row
  injection e3 with e31 _ e33
  subst e31 e33
  obtain ⟨b4, off4, u4, e4, _, hku, _, c1⟩ := hU3.at_ (show k < us.length by omega)
  injection e4 with e4
  injection e4 with e41 e42
  subst e41 e42
  rw [HKL.out] at hku
  injection hku with hku
  subst hku
  rw [Nat.zero_add] at c1
  have HP := Lib.hid hput
  have HM := Lib.hid (show moreU us k 1 = us.set k (x, y + 1) by rw [moreU, HFD.out, HLD.out])
  have hwr : IntKind.i64.wrap (y + 1) = y + 1 := IntWalk.i64_in _ (by omega)
  rw [HL]
  clear hown' hgrow hO3 hU3 hput
  go_wp2
  go_ret
  exact ⟨_, rfl, by rw [HM.out]; simpa [HL] using HP.out, hb3.setCell hg _⟩
theorem oneMore_any (U : Option Addr) (q r : Nat) (us : List U2) (k : Nat) (w : World) (hq : q ≤ 1048576) (hu : RowU w U q us) (hk : k < q) (h0 : 0 ≤ ld us k ∧ ld us k ≤ 999) :
    Calls Tryd.prog 11 #[.slice U q r, .int .i64 (k : Int)] w fun e w' => ∃ A' c', e = .returned (.slice A' q c') ∧ RowU w' A' q (moreU us k 1) ∧ Below w.heap.size w w' := by
  refine (oneMoreO_any U q r us k w hq hu hk h0).mono ?_
  rintro e w' ⟨v, rfl, hO, hb⟩
  obtain ⟨A', c', rfl, hU⟩ := hO.row
  rw [moreU_len, hu.len] at hU ⊢
  exact ⟨A', c', rfl, hU, hb⟩
end Go.Proofs.YtpmkeagdoehbhaaDoor
