/- Texts joined: The drawing of inputs (the model's own): a reader of bytes; each draw stays in its range; The drawing of a network: whatever the bytes, it is some network, in new memory. -/
import Derived.Test.YtafgfhjlkdjngaaDoorChecked
import Derived.Test.YtafgfhjlkdjngaaDoorBPA
import Derived.ProofKit
import Derived.Deep.QuietTactic
import Derived.BigQuiet
import Derived.Deep.DeepCutAuto
import Derived.Outline
import Derived.Laws.BitsAllLaws
import Derived.Laws.BitsLemmas
import Derived.Maps.AppendAt
import Derived.OwnWalk
import Derived.Deep.RegionWith
import Derived.Deep.LoopGhost
import Derived.Deep.AppendLies
import Derived.Deep.RegionLaw
import Derived.Deep.CutBlock

/- The drawing of inputs (the model's own): a reader of bytes; each draw stays in its range. -/
namespace Go.Proofs.YtafgfhjlkdjngaaDoor
open Go.ChangeShapes Go.WideShapes Go.ChangeAt Go.RowKit

/-- A slice of bytes that is read. -/
def RowB (w : World) (A : Option Addr) (n : Nat) (bs : List Int) : Prop :=
  bs.length = n ∧ (0 < n → ∃ b off, A = some ⟨b, off, none⟩ ∧ b < w.heap.size ∧ ∀ k x, bs[k]? = some x → w.cell? ⟨b, off + k, none⟩ = some (.int .u8 x)) ∧ ∀ x ∈ bs, 0 ≤ x ∧ x ≤ 255
/-- A reader at block R: at most 2000 bytes, and so many draws at most. -/
def Rd (w : World) (R : Nat) (lim : Int) : Prop :=
  ∃ (A : Option Addr) (n c : Nat) (bs : List Int) (p : Int), RowB w A n bs ∧ n ≤ 2000 ∧ 0 ≤ p ∧ p ≤ lim ∧ IsBlk w R 121 #[.slice A n c, .int .i64 p] ∧ (0 < n → ∀ b off, A = some ⟨b, off, none⟩ → b < R)

theorem rd_step {w : World} {R m c : Nat} {lim : Int} {A : Option Addr} {bs : List Int} {k : Nat} (hr : RowB w A m bs) (hm : m ≤ 2000) (hk : (k : Int) ≤ lim) (hb : IsBlk w R 121 #[.slice A m c, .int .i64 k]) (hne : 0 < m → ∀ b off, A = some ⟨b, off, none⟩ → b < R) :
    Rd (w.setCell ⟨R, 1, none⟩ (.int .i64 ((k : Int) + 1))) R (lim + 1) ∧ w.grownBy (w.setCell ⟨R, 1, none⟩ (.int .i64 ((k : Int) + 1))) (some R) := by
  refine ⟨⟨A, m, c, bs, (k : Int) + 1, ⟨hr.1, fun h0 => ?_, hr.2.2⟩, hm, by omega, by omega, hb.put 1 _, hne⟩, grown_put _ _ _ _⟩
  obtain ⟨b, off, e, hlt, hc⟩ := hr.2.1 h0
  refine ⟨b, off, e, by simpa [World.setCell] using hlt, fun j x hj => ?_⟩
  rw [World.cell?_setCell_other _ _ _ _ (fun e2 => by have := hne h0 b off e; injection e2 with e3; omega)]
  exact hc j x hj
theorem emod_lt_of (x n : Int) (h0 : 0 ≤ x) (h1 : ¬ n < 1) : 0 ≤ x.tmod n ∧ x.tmod n < n := by
  rw [Int.tmod_eq_emod_of_nonneg h0]
  exact ⟨Int.emod_nonneg _ (by omega), Int.emod_lt_of_pos _ (by omega)⟩

theorem xor_pos (v : Int) (h0 : 0 ≤ v) (h1 : v ≤ 9223372036854775807) : 0 ≤ bits .xor .i64 v (v / 64) := by
  obtain ⟨a, rfl⟩ := Int.eq_ofNat_of_zero_le h0
  have e : ((a : Int) / 64) = ((a / 64 : Nat) : Int) := by omega
  rw [e]
  have ha : a < 2 ^ 63 := by omega
  have hx : a ^^^ (a / 64) < 2 ^ 63 := Nat.xor_lt_two_pow ha (by omega)
  have ea : a % 2 ^ 64 = a := by omega
  have eb : (a / 64) % 2 ^ 64 = a / 64 := by omega
  show 0 ≤ IntKind.i64.wrap ((BitVec.ofInt 64 (a : Int) ^^^ BitVec.ofInt 64 ((a / 64 : Nat) : Int)).toNat : Int)
  rw [BitVec.toNat_xor, BitVec.ofInt_natCast, BitVec.ofInt_natCast, BitVec.toNat_ofNat, BitVec.toNat_ofNat, ea, eb, IntWalk.i64_in _ (by omega)]
  omega

set_option maxRecDepth 100000 in
set_option maxHeartbeats 2000000 in
theorem pick_any (R : Nat) (n : Int) (lim : Int) (hlim : lim ≤ 1000000) (hn : n ≤ 1000000) (w : World) (hr : Rd w R lim) :
    Calls Tryd.prog 58 #[.pointer (some ⟨R, 0, none⟩), .int .i64 n] w fun e w' => ∃ v : Int, e = .returned (.int .i64 v) ∧ 0 ≤ v ∧ (1 ≤ n → v < n) ∧ (n < 1 → v = 0) ∧ Rd w' R (lim + 1) ∧ w.grownBy w' (some R) := by
  obtain ⟨A, m, c, bs, p, hrow, hm, hp0, hp1, hblk, hne⟩ := hr
  obtain ⟨k, rfl⟩ := Int.eq_ofNat_of_zero_le hp0
  obtain ⟨c0, c1, f0, f1⟩ := hblk.two
  have HR := Lib.hid hrow
  have HB := Lib.hid hblk
  have HE := Lib.hid hne
  clear hrow hblk hne
  by_cases hn1 : n < 1
  · go_enter Tryd.func58, Tryd.ntmps58
    go_wp2
    go_ret
    exact ⟨0, rfl, by omega, by omega, fun _ => rfl, (rd_step HR.out hm hp1 HB.out HE.out).1, (rd_step HR.out hm hp1 HB.out HE.out).2⟩
  · by_cases hm0 : m = 0
    · subst hm0
      go_enter Tryd.func58, Tryd.ntmps58
      go_wp2
      go_ret
      exact ⟨0, rfl, by omega, by omega, fun _ => rfl, (rd_step HR.out hm hp1 HB.out HE.out).1, (rd_step HR.out hm hp1 HB.out HE.out).2⟩
    · by_cases hkm : k < m
      · obtain ⟨b, off, rfl, hb, hc⟩ := HR.out.2.1 (by omega)
        have hkl : bs[k]? = some (bs[k]'(by have := HR.out.1; omega)) := List.getElem?_eq_getElem _
        have hx := HR.out.2.2 (bs[k]'(by have := HR.out.1; omega)) (List.getElem_mem _)
        generalize (bs[k]'(by have := HR.out.1; omega)) = x at hkl hx
        have g0 := hc k x hkl
        have hbR : b ≠ R := Nat.ne_of_lt (HE.out (by omega) b off rfl)
        clear hkl hc
        have HS := Lib.hid (World.cell?_setCell_other w ⟨R, 1, none⟩ ⟨b, off + k, none⟩ (.int .i64 ((k : Int) + 1)) (fun e => hbR (by injection e with e1; exact e1.symm)))
        have g1 := HS.out.trans g0
        go_enter Tryd.func58, Tryd.ntmps58
        go_wp2
        go_ret
        refine ⟨_, rfl, ?_, ?_, ?_, (rd_step HR.out hm hp1 HB.out HE.out).1, (rd_step HR.out hm hp1 HB.out HE.out).2⟩
        · exact Int.emod_nonneg _ (by omega)
        · exact Int.emod_lt_of_pos _ (by omega)
        · intro h; omega
      · have hm1 : 0 < m := by omega
        obtain ⟨b, off, rfl, hb, hc⟩ := HR.out.2.1 hm1
        have hbR : b ≠ R := Nat.ne_of_lt (HE.out (by omega) b off rfl)
        have hkm' : ¬ ((k : Int) < (m : Int)) := by omega
        have one : ∀ j, j < m → ∃ x, 0 ≤ x ∧ x ≤ 255 ∧ (w.setCell ⟨R, 1, none⟩ (.int .i64 ((k : Int) + 1))).cell? ⟨b, off + j, none⟩ = some (.int .u8 x) := by
          intro j hj
          have hl : j < bs.length := by have := HR.out.1; omega
          have hx := HR.out.2.2 (bs[j]'hl) (List.getElem_mem _)
          exact ⟨bs[j]'hl, hx.1, hx.2, (World.cell?_setCell_other w ⟨R, 1, none⟩ ⟨b, off + j, none⟩ _ (fun e => hbR (by injection e with e1; exact e1.symm))).trans (hc j _ (List.getElem?_eq_getElem hl))⟩
        obtain ⟨x, hx0, hx1, hxc⟩ := one (k % m) (Nat.mod_lt _ hm1)
        obtain ⟨y, hy0, hy1, hyc⟩ := one ((k * 7 + 3) % m) (Nat.mod_lt _ hm1)
        have t1 : ((k : Int)).tmod (m : Int) = ((k % m : Nat) : Int) := by rw [Int.tmod_eq_emod_of_nonneg (by omega)]; rfl
        have t2 : ((k : Int) * 7 + 3).tmod (m : Int) = (((k * 7 + 3) % m : Nat) : Int) := by rw [Int.tmod_eq_emod_of_nonneg (by omega)]; rfl
        have l1 : ((k % m : Nat) : Int) < (m : Int) := by have := Nat.mod_lt k hm1; omega
        have l2 : (((k * 7 + 3) % m : Nat) : Int) < (m : Int) := by have := Nat.mod_lt (k * 7 + 3) hm1; omega
        have l3 : (0 : Int) ≤ ((k % m : Nat) : Int) := Int.natCast_nonneg _
        have l4 : (0 : Int) ≤ (((k * 7 + 3) % m : Nat) : Int) := Int.natCast_nonneg _
        generalize k % m = i1 at *
        generalize (k * 7 + 3) % m = i2 at *
        have wk1 : IntKind.i64.wrap ((k : Int) * 7) = (k : Int) * 7 := by rw [IntKind.wrap_i64]; omega
        have wk2 : IntKind.i64.wrap ((k : Int) * 7 + 3) = (k : Int) * 7 + 3 := by rw [IntKind.wrap_i64]; omega
        have hmz : ((m : Int) == 0) = false := by simp; omega
        have T1 := Lib.hid t1
        have T2 := Lib.hid t2
        have K1 := Lib.hid wk1
        have K2 := Lib.hid wk2
        clear one hc t1 t2 wk1 wk2
        go_enter Tryd.func58, Tryd.ntmps58
        go_wp2
        go_cut [6] (fun s wx => (∃ v : Int, s = .int .i64 v ∧ 0 ≤ v ∧ v ≤ 9223372036854775807) ∧ ∃ nq, wx = (w.setCell ⟨R, 1, none⟩ (.int .i64 ((k : Int) + 1))).drewN nq)
        case first =>
          have t1 := T1.out
          have t2 := T2.out
          have wk1 := K1.out
          have wk2 := K2.out
          go_quiet (fail)
          clear t1 t2 wk1 wk2
          go_wp2_with fail
          go_meet
          refine ⟨⟨_, rfl, ?_⟩, _, rfl⟩
          have hq0 : 0 ≤ (k : Int) / (m : Int) := Int.ediv_nonneg (by omega) (by omega)
          have hq1 : (k : Int) / (m : Int) ≤ (k : Int) := Int.ediv_le_self _ (by omega)
          generalize (k : Int) / (m : Int) = q at *
          rw [IntWalk.wrap64_in q (by omega), IntWalk.wrap64_in (q * 53) (by omega), IntWalk.wrap64_in _ (by omega)]
          omega
        case rest =>
          obtain ⟨⟨v, rfl, hv0, hv1⟩, nq, rfl⟩ := hcut
          go_wp2
          go_ret
          have hx := xor_pos v hv0 hv1
          generalize bits BinOp.xor IntKind.i64 v (v / 64) = z at *
          have ht := emod_lt_of z n hx (by omega)
          have hst := rd_step HR.out hm hp1 HB.out HE.out
          exact ⟨_, rfl, ht.1, fun _ => ht.2, fun h => by omega, hst.1, hst.2.os, hst.2.tape, hst.2.output, hst.2.size, hst.2.block⟩

theorem Rd.mono {w : World} {R : Nat} {l l' : Int} (h : Rd w R l) (hl : l ≤ l') : Rd w R l' := by
  obtain ⟨A, n, c, bs, p, h1, h2, h3, h4, h5, h6⟩ := h
  exact ⟨A, n, c, bs, p, h1, h2, h3, by omega, h5, h6⟩
/-- What turns neither the reader's block nor an older one leaves the reader as it was. -/
theorem Rd.keep {w w' : World} {R : Nat} {l : Int} (h : Rd w R l) (hb : Below w.heap.size w w') : Rd w' R l := by
  obtain ⟨A, n, c, bs, p, ⟨h0, h1, h2⟩, h3, h4, h5, h6, h7⟩ := h
  refine ⟨A, n, c, bs, p, ⟨h0, fun hp => ?_, h2⟩, h3, h4, h5, h6.keep hb, h7⟩
  obtain ⟨b, off, e, hlt, hc⟩ := h1 hp
  exact ⟨b, off, e, Nat.lt_of_lt_of_le hlt hb.size, fun k x hk => (hb.cell (p := ⟨b, off + k, none⟩) hlt).trans (hc k x hk)⟩
/-- A store into a younger block leaves the reader as it was. -/
theorem Rd.far {w w' : World} {R X : Nat} {l : Int} (h : Rd w R l) (hX : R < X) (hg : w.grownBy w' (some X)) : Rd w' R l := by
  obtain ⟨A, n, c, bs, p, ⟨h0, h1, h2⟩, h3, h4, h5, h6, h7⟩ := h
  refine ⟨A, n, c, bs, p, ⟨h0, fun hp => ?_, h2⟩, h3, h4, h5, (hg.block _ h6.lt (by simp; omega)).trans h6, h7⟩
  obtain ⟨b, off, e, hlt, hc⟩ := h1 hp
  have hbR := h7 hp b off e
  exact ⟨b, off, e, Nat.lt_of_lt_of_le hlt hg.size, fun k x hk => (World.cell?_of_block (a := ⟨b, off + k, none⟩) (hg.block b hlt (by simp; omega))).trans (hc k x hk)⟩
theorem Rd.grown {w w' : World} {R : Nat} {l : Int} {row : Option Nat} (h : Rd w R l) (hg : w.grownBy w' row) (hrow : ∀ q, row = some q → R < q) : Rd w' R l := by
  rcases row with _ | q
  · exact h.keep ⟨hg.os, hg.tape, hg.output, hg.size, fun k hk => hg.block k hk (by simp)⟩
  · exact h.far (hrow q rfl) hg
theorem Rd.lt {w : World} {R : Nat} {l : Int} (h : Rd w R l) : R < w.heap.size := by
  obtain ⟨A, n, c, bs, p, h1, h2, h3, h4, h5, h6⟩ := h
  exact h5.lt
theorem Rd.alloc {w : World} {R : Nat} {l : Int} (h : Rd w R l) (o : Obj) : Rd (w.alloc o) R l := h.keep (below_bx w o)

theorem odd_any (R : Nat) (n : Int) (lim : Int) (hlim : lim ≤ 1000000) (hn : n ≤ 1000000) (w : World) (hr : Rd w R lim) :
    Calls Tryd.prog 96 #[.pointer (some ⟨R, 0, none⟩), .int .i64 n] w fun e w' => ∃ v : Bool, e = .returned (.bool v) ∧ (n ≤ 0 → v = false) ∧ Rd w' R (lim + 1) ∧ w.grownBy w' (some R) := by
  by_cases h0 : 0 < n
  · go_enter Tryd.func96, Tryd.ntmps96
    go_wp2_with fail
    refine (pick_any R n lim hlim hn _ hr).mono ?_
    rintro e w1 ⟨v, rfl, hv0, hv1, _, hr1, hg1⟩
    go_wp2
    go_ret
    exact ⟨_, rfl, by omega, hr1, hg1⟩
  · go_enter Tryd.func96, Tryd.ntmps96
    go_wp2_with fail
    go_ret
    first | exact ⟨_, rfl, fun _ => rfl, hr.mono (by omega), World.grownBy.refl _ _⟩ | exact ⟨rfl, hr.mono (by omega), World.grownBy.refl _ _⟩

theorem open_any (A : Option Addr) (n c : Nat) (bs : List Int) (w : World) (hr : RowB w A n bs) (hnc : n ≤ c) (hc : c ≤ 9223372036854775807) :
    Calls Tryd.prog 56 #[.slice A n c] w fun e w' => e = .returned (.pointer (some ⟨w.heap.size, 0, none⟩)) ∧ Below w.heap.size w w' ∧ Rd w' w.heap.size 0 ∧ w'.heap.size = w.heap.size + 1 := by
  have HR := Lib.hid hr
  have fin : ∀ (n' c' : Nat) (bs' : List Int), n' ≤ 2000 → RowB w A n' bs' → Below w.heap.size w (w.alloc (.cells #[.slice A n' c', .int .i64 0] 121)) ∧ Rd (w.alloc (.cells #[.slice A n' c', .int .i64 0] 121)) w.heap.size 0 := by
    intro n' c' bs' hn' hr'
    refine ⟨below_bx w _, A, n', c', bs', 0, ⟨hr'.1, fun hp => ?_, hr'.2.2⟩, hn', by omega, by omega, IsBlk.new w _ _, fun hp b off e => ?_⟩
    · obtain ⟨b, off, e, hlt, hcl⟩ := hr'.2.1 hp
      exact ⟨b, off, e, by simp; omega, fun k x hk => by rw [World.cell?_alloc_lt _ _ _ hlt]; exact hcl k x hk⟩
    · obtain ⟨b', off', e', hlt, _⟩ := hr'.2.1 hp
      rw [e'] at e; injection e with e; injection e with e1; omega
  by_cases h : n ≤ 2000
  · have HF := Lib.hid (fin n c bs h hr)
    clear fin hr
    go_enter Tryd.func56, Tryd.ntmps56
    go_wp2
    go_ret
    exact ⟨rfl, HF.out.1, HF.out.2, by simp⟩
  · obtain ⟨b, off, rfl, hlt, hcl⟩ := hr.2.1 (by omega)
    have hr2 : RowB w (some ⟨b, off, none⟩) 2000 (bs.take 2000) := by
      refine ⟨by rw [List.length_take]; have := hr.1; omega, fun _ => ⟨b, off, rfl, hlt, fun k x hk => ?_⟩, fun x hx => hr.2.2 x (List.mem_of_mem_take hx)⟩
      rw [List.getElem?_take] at hk
      split at hk
      · exact hcl k x hk
      · cases hk
    have HF := Lib.hid (fin 2000 c (bs.take 2000) (by omega) hr2)
    clear fin hr hr2 hcl
    go_enter Tryd.func56, Tryd.ntmps56
    go_wp2
    go_ret
    exact ⟨rfl, HF.out.1, HF.out.2, by simp⟩
end Go.Proofs.YtafgfhjlkdjngaaDoor

/- The drawing of a network: whatever the bytes, it is some network, in new memory. -/
namespace Go.Proofs.YtafgfhjlkdjngaaDoor
open Go.ChangeShapes Go.WideShapes Go.ChangeAt Go.RowKit

/-- A slice of lines of the call's own. -/
def OwnL (w : World) (base : Nat) (v : Value) (ls : List L3) : Prop := w.ownsRow base 93 3 v ls.length (ls.flatMap fL)
theorem OwnL.keep {w w' : World} {base : Nat} {v : Value} {xs : List L3} (h : OwnL w base v xs) (hb : Below w.heap.size w w') : OwnL w' base v xs :=
  World.ownsRow.kept (row := none) h ⟨hb.os, hb.tape, hb.output, hb.size, fun i hi _ => hb.block i hi⟩ (Classical.em _)
theorem OwnL.far {w w' : World} {base : Nat} {v : Value} {xs : List L3} {row : Option Nat} (h : OwnL w base v xs) (hg : w.grownBy w' row) (hne : ∀ q, v.ownBlock = some q → row ≠ some q) : OwnL w' base v xs := by
  refine World.ownsRow.kept h hg ?_
  rcases hq : v.ownBlock with _ | q
  · exact .inl rfl
  · exact .inr (fun e => hne q hq e.symm)
theorem OwnL.row {w : World} {base : Nat} {v : Value} {ls : List L3} (h : OwnL w base v ls) : ∃ A c, v = .slice A ls.length c ∧ RowL w A ls.length ls := by
  rcases h.2 with ⟨rfl, h0⟩ | ⟨g, cap, cur, rfl, hb, hg, hn, hc, hsz, ht⟩
  · exact ⟨none, 0, by rw [h0], rfl, fun hp => absurd hp (by omega)⟩
  · refine ⟨some ⟨g, 0, none⟩, cap, rfl, rfl, fun _ => ⟨g, 0, rfl, (Array.getElem?_eq_some_iff.1 hg).1, fun k l hk => ?_⟩⟩
    have hlt : k < ls.length := (List.getElem?_eq_some_iff.1 hk).1
    have one : ∀ j, j < 3 → w.cell? ⟨g, 0 + k * 3 + j, none⟩ = (fL l)[j]? := by
      intro j hj
      rw [cell_of_row w g _ cur 93 (0, 0) hg, Nat.zero_add, ← Array.getElem?_toList]
      have e := flat_get (f := fL) fL_len ls k l j hk hj
      rw [← ht, List.getElem?_take_of_lt (by omega)] at e
      exact e
    exact ⟨one 0 (by omega), one 1 (by omega), one 2 (by omega)⟩

/-- While a network is drawn: the result's block, the variable's block, its lines, the reader. -/
structure NetSt (w0 w : World) (R X : Nat) (lim : Int) (bs : Int) (v : Value) (ls : List L3) : Prop where
  ret : IsBlk w w0.heap.size 96 #[.int .i64 0, .slice none 0 0]
  far : w0.heap.size < X
  var : IsBlk w X 96 #[.int .i64 bs, v]
  own : OwnL w (X + 1) v ls
  rd : Rd w R lim
  grown : w0.grownBy w (some R)
section
variable {w0 w w' : World} {R X : Nat} {lim lim' : Int} {bs : Int} {v : Value} {ls : List L3}
theorem NetSt.pick (hR : R < w0.heap.size) (h : NetSt w0 w R X lim bs v ls) (hr : Rd w' R lim') (hg : w.grownBy w' (some R)) : NetSt w0 w' R X lim' bs v ls := by
  have hf := h.far
  exact ⟨(hg.block _ h.ret.lt (by simp; omega)).trans h.ret, h.far, (hg.block _ h.var.lt (by simp; omega)).trans h.var,
    h.own.far hg (fun q hq e => by injection e with e; have := (World.ownsRow.lt h.own q hq).1; omega), hr, grown_then h.grown hg⟩
theorem NetSt.keep (h : NetSt w0 w R X lim bs v ls) (hb : Below w.heap.size w w') : NetSt w0 w' R X lim bs v ls :=
  ⟨h.ret.keep hb, h.far, h.var.keep hb, h.own.keep hb, h.rd.keep hb, grown_then h.grown ⟨hb.os, hb.tape, hb.output, hb.size, fun k hk _ => hb.block k hk⟩⟩
theorem NetSt.drew (h : NetSt w0 w R X lim bs v ls) : NetSt w0 w.drew R X lim bs v ls := ⟨h.ret, h.far, h.var, h.own, h.rd, h.grown.os, h.grown.tape, h.grown.output, h.grown.size, h.grown.block⟩
theorem NetSt.mono (h : NetSt w0 w R X lim bs v ls) (hl : lim ≤ lim') : NetSt w0 w R X lim' bs v ls := ⟨h.ret, h.far, h.var, h.own, h.rd.mono hl, h.grown⟩
/-- A line is appended. -/
theorem NetSt.push (hR : R < w0.heap.size) (h : NetSt w0 w R X lim bs v ls) (o : Obj) {w8 : World} {v' : Value} {l : L3} (hown : w8.ownsRow (X + 1) 93 3 v' (ls.length + 1) (ls.flatMap fL ++ fL l)) (hg : (w.alloc o).grownBy w8 v.ownBlock) :
    NetSt w0 (w8.setCell ⟨X, 1, none⟩ v') R X lim bs v' (ls ++ [l]) ∧ IsBlk w8 X 96 #[.int .i64 bs, v] := by
  have hf := h.far
  have hq : ∀ q, v.ownBlock = some q → X + 1 ≤ q := fun q e => (World.ownsRow.lt h.own q e).1
  have hx : X < w.heap.size := h.var.lt
  have hr : w0.heap.size < w.heap.size := h.ret.lt
  have keep : ∀ k, k < w.heap.size → k ≤ X → w8.heap[k]? = w.heap[k]? := fun k hk hkX => (hg.block k (by simp; omega) (fun e => by have := hq k e.symm; omega)).trans (Below.heap_alloc w o k hk)
  have var8 : IsBlk w8 X 96 #[.int .i64 bs, v] := (keep X hx (Nat.le_refl _)).trans h.var
  have hgp : w8.grownBy (w8.setCell ⟨X, 1, none⟩ v') (some X) := grown_put _ _ _ _
  have own8 : OwnL w8 (X + 1) v' (ls ++ [l]) := by
    show World.ownsRow _ _ _ _ _ (ls ++ [l]).length _
    rw [List.length_append, List.flatMap_append, List.flatMap_singleton]; exact hown
  refine ⟨⟨IsBlk.far ((keep _ hr (by omega)).trans h.ret) (by simp; omega) _, hf, var8.put 1 _, own8.far hgp (fun q e e2 => by injection e2 with e2; have := (World.ownsRow.lt own8 q e).1; omega), ((h.rd.alloc o).grown hg (fun q e => by have := hq q e; omega)).far (by omega) hgp, ?_⟩, var8⟩
  have hsz : w.heap.size ≤ w8.heap.size := by have := hg.size; simp at this; omega
  refine ⟨hgp.os.trans (hg.os.trans h.grown.os), hgp.tape.trans (hg.tape.trans h.grown.tape), hgp.output.trans (hg.output.trans h.grown.output), Nat.le_trans h.grown.size (Nat.le_trans hsz hgp.size), fun k hk hne => ?_⟩
  have := h.grown.size
  exact (hgp.block k (by omega) (by simp; omega)).trans ((keep k (by omega) (by omega)).trans (h.grown.block k hk hne))
/-- Fresh lines are stored. -/
theorem NetSt.fresh (hR : R < w0.heap.size) (h : NetSt w0 w R X lim bs v ls) (ls' : List L3) (hm : ls'.length ≤ maxLen) (n : Nat) (hn : ls'.length = n) :
    NetSt w0 ((w.alloc (.cells (rowArr fL ls') 93)).setCell ⟨X, 1, none⟩ (.slice (some ⟨w.heap.size, 0, none⟩) n n)) R X lim bs (.slice (some ⟨w.heap.size, 0, none⟩) n n) ls' := by
  subst hn
  have hf := h.far
  have hx : X < w.heap.size := h.var.lt
  have k := h.keep (below_bx w (.cells (rowArr fL ls') 93))
  have hgp : (w.alloc (.cells (rowArr fL ls') 93)).grownBy ((w.alloc (.cells (rowArr fL ls') 93)).setCell ⟨X, 1, none⟩ (.slice (some ⟨w.heap.size, 0, none⟩) ls'.length ls'.length)) (some X) := grown_put _ _ _ _
  have own8 : OwnL (w.alloc (.cells (rowArr fL ls') 93)) (X + 1) (.slice (some ⟨w.heap.size, 0, none⟩) ls'.length ls'.length) ls' := by
    have hs : (rowArr fL ls').size = ls'.length * 3 := by rw [rowArr, List.size_toArray, flat_len fL_len]
    have := World.ownsRow_lit (base := X + 1) (size := 3) (e := 93) w (rowArr fL ls') ls'.length (by omega) hm hs
    exact this
  refine ⟨IsBlk.far k.ret (by simp; omega) _, hf, k.var.put 1 _, own8.far hgp (fun q e e2 => by injection e2 with e2; have := (World.ownsRow.lt own8 q e).1; omega), k.rd.far (by omega) hgp, ?_⟩
  have := k.grown.size
  exact ⟨hgp.os.trans k.grown.os, hgp.tape.trans k.grown.tape, hgp.output.trans k.grown.output, Nat.le_trans k.grown.size hgp.size, fun q hk hne => (hgp.block q (by omega) (by simp; omega)).trans (k.grown.block q hk hne)⟩
/-- A store into the variable. -/
theorem NetSt.store (hR : R < w0.heap.size) (h : NetSt w0 w R X lim bs v ls) (b' : Int) : NetSt w0 (w.setCell ⟨X, 0, none⟩ (.int .i64 b')) R X lim b' v ls := by
  have hf := h.far
  have hx : X < w.heap.size := h.var.lt
  have hg : w.grownBy (w.setCell ⟨X, 0, none⟩ (.int .i64 b')) (some X) := grown_put _ _ _ _
  refine ⟨h.ret.far (by simp; omega) _, h.far, h.var.put 0 _, h.own.far hg (fun q hq e => by injection e with e; have := (World.ownsRow.lt h.own q hq).1; omega), h.rd.far (by omega) hg, ?_⟩
  · exact ⟨hg.os.trans h.grown.os, hg.tape.trans h.grown.tape, hg.output.trans h.grown.output, Nat.le_trans h.grown.size hg.size, fun k hk hne => (hg.block k (by have := h.grown.size; omega) (by simp; omega)).trans (h.grown.block k hk hne)⟩
end

theorem news_new (w : World) (l : L3) (t : TypeId) : ∀ j u, (fL l)[j]? = some u → (w.alloc (.cells (fL l).toArray t)).cell? ((⟨w.heap.size, 0, none⟩ : Addr).add j) = some u := by
  intro j u hj
  have h := (IsBlk.new w t (fL l).toArray).cell j
  have ha : (⟨w.heap.size, 0, none⟩ : Addr).add j = ⟨w.heap.size, j, none⟩ := by unfold Addr.add; split <;> simp_all
  rw [ha, h, ← hj]; simp
theorem news_at (_n : Nat) (w : World) {o : Obj} (l : L3) (t : TypeId) : ∀ j u, (fL l)[j]? = some u → ((w.alloc o).alloc (.cells (fL l).toArray t)).cell? ((⟨w.heap.size + 1, 0, none⟩ : Addr).add j) = some u := by
  have h := news_new (w.alloc o) l t
  simp only [World.size_alloc] at h
  exact h
theorem two_at {w : World} {g : Nat} {t : TypeId} {x y : Int} (h : w.heap[g]? = some (.cells #[.int .i64 x, .int .i64 y] t (0, 0))) {j : Int} (h0 : 0 ≤ j) (h1 : j < 2) : ∃ z, w.cell? ⟨g, j.toNat, none⟩ = some (.int .i64 z) := by
  rcases (show j = 0 ∨ j = 1 by omega) with rfl | rfl
  · exact ⟨x, IsBlk.cell h 0⟩
  · exact ⟨y, IsBlk.cell h 1⟩
theorem lineInfo : (Tryd.prog.info? 93).map (fun i => (i.zero, i.size, i.bytes)) = some (some (.agg #[.int .i64 0, .int .i64 0, .int .i64 0]), 3, 24) := by kernel_rfl
def lines11 : Array Value := rowArr fL (List.replicate 11 (0, 0, 0))
theorem make11 (w : World) : (Instr.makeSlice 94 (.int .i64 11) (.int .i64 11)).run Tryd.prog w = .ok (.slice (some ⟨w.heap.size, 0, none⟩) 11 11) (w.alloc (.cells lines11 93)) := by
  obtain ⟨i0, hi, hz0, hz1, hz2⟩ := info_parts lineInfo
  have := run_make (P := Tryd.prog) w 94 93 i0 _ Tryd.underlying94 hi hz0 .i64 .i64 11 11 (by omega) (by omega) (by rw [hz2]; omega) (by omega)
  rw [this]
  show Result.ok _ (w.alloc (.cells (madeCells (Value.agg #[.int .i64 0, .int .i64 0, .int .i64 0]).cells (11 * i0.size)) _)) = _
  rw [hz1, madeCells_row (f := fL) fL_len (Value.agg #[.int .i64 0, .int .i64 0, .int .i64 0]).cells (0, 0, 0) rfl (by omega)]
  rfl
theorem other_bus {bs va vc : Int} (h1 : 2 ≤ bs) (h2 : bs ≤ 8) (_h3 : 0 ≤ va) (h4 : va < bs) (h5 : 0 ≤ vc) (h6 : vc < bs - 1) :
    0 ≤ (va + 1 + vc) % bs ∧ (va + 1 + vc) % bs < bs ∧ (va != (va + 1 + vc) % bs) = true := by
  refine ⟨Int.emod_nonneg _ (by omega), Int.emod_lt_of_pos _ (by omega), ?_⟩
  rw [bne_iff_ne]
  rcases (show bs = 2 ∨ bs = 3 ∨ bs = 4 ∨ bs = 5 ∨ bs = 6 ∨ bs = 7 ∨ bs = 8 by omega) with rfl | rfl | rfl | rfl | rfl | rfl | rfl <;> omega
theorem lineOk_mk {bs a b m : Int} (h0 : 0 ≤ a) (h1 : a < bs) (h2 : 0 ≤ b) (h3 : b < bs) (h4 : (a != b) = true) (h5 : 1 ≤ m) (h6 : m ≤ 999) : lineOk bs (a, b, m) = true := by
  simp only [lineOk, inB, Bool.and_eq_true, decide_eq_true_eq]
  exact ⟨⟨⟨⟨h0, by omega⟩, ⟨h2, by omega⟩⟩, h4⟩, ⟨h5, h6⟩⟩
theorem all_snoc {bs : Int} {ls : List L3} {l : L3} (h : ls.all (lineOk bs) = true) (hl : lineOk bs l = true) : (ls ++ [l]).all (lineOk bs) = true := by
  rw [List.all_append, h, List.all_cons, hl]; rfl
theorem netOk_mk {bs : Int} {ls : List L3} (h1 : 1 ≤ bs) (h2 : bs ≤ 8) (h3 : ls.length ≤ 10) (h : ls.all (lineOk bs) = true) : netOk bs ls = true := by
  simp only [netOk, inB, Bool.and_eq_true, decide_eq_true_eq]; exact ⟨⟨⟨h1, h2⟩, h3⟩, h⟩
end Go.Proofs.YtafgfhjlkdjngaaDoor
