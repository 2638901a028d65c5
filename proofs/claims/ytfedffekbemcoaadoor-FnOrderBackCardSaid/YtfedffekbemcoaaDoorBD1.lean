/- Texts joined: The drawing of inputs (the model's own): a reader of bytes; each draw stays in its range; The drawing of a network: whatever the bytes, it is some network, in new memory. -/
import Derived.Test.YtfedffekbemcoaaDoorChecked
import Derived.Test.YtfedffekbemcoaaDoorBPA
import Derived.ProofKit
import Derived.Deep.QuietTactic
import Derived.BigQuiet
import Derived.Deep.DeepCutAuto
import Derived.Outline
import Derived.Laws.BitsAllLaws
import Derived.Laws.BitsLemmas
import Derived.Maps.AppendAt
import Derived.OwnWalk
import Derived.Deep.RegionWith
import Derived.Deep.LoopGhost
import Derived.Deep.AppendLies
import Derived.Deep.RegionLaw
import Derived.Deep.CutBlock

/- The drawing of inputs (the model's own): a reader of bytes; each draw stays in its range. -/
namespace Go.Proofs.YtfedffekbemcoaaDoor
open Go.ChangeShapes Go.WideShapes Go.ChangeAt Go.RowKit

/-- A slice of bytes that is read. -/
def RowB (w : World) (A : Option Addr) (n : Nat) (bs : List Int) : Prop :=
  bs.length = n ∧ (0 < n → ∃ b off, A = some ⟨b, off, none⟩ ∧ b < w.heap.size ∧ ∀ k x, bs[k]? = some x → w.cell? ⟨b, off + k, none⟩ = some (.int .u8 x)) ∧ ∀ x ∈ bs, 0 ≤ x ∧ x ≤ 255
/-- A reader at block R: at most 2000 bytes, and so many draws at most. -/
def Rd (w : World) (R : Nat) (lim : Int) : Prop :=
  ∃ (A : Option Addr) (n c : Nat) (bs : List Int) (p : Int), RowB w A n bs ∧ n ≤ 2000 ∧ 0 ≤ p ∧ p ≤ lim ∧ IsBlk w R 88 #[.slice A n c, .int .i64 p] ∧ (0 < n → ∀ b off, A = some ⟨b, off, none⟩ → b < R)

theorem rd_step {w : World} {R m c : Nat} {lim : Int} {A : Option Addr} {bs : List Int} {k : Nat} (hr : RowB w A m bs) (hm : m ≤ 2000) (hk : (k : Int) ≤ lim) (hb : IsBlk w R 88 #[.slice A m c, .int .i64 k]) (hne : 0 < m → ∀ b off, A = some ⟨b, off, none⟩ → b < R) :
    Rd (w.setCell ⟨R, 1, none⟩ (.int .i64 ((k : Int) + 1))) R (lim + 1) ∧ w.grownBy (w.setCell ⟨R, 1, none⟩ (.int .i64 ((k : Int) + 1))) (some R) := by
  refine ⟨⟨A, m, c, bs, (k : Int) + 1, ⟨hr.1, fun h0 => ?_, hr.2.2⟩, hm, by omega, by omega, hb.put 1 _, hne⟩, grown_put _ _ _ _⟩
  obtain ⟨b, off, e, hlt, hc⟩ := hr.2.1 h0
  refine ⟨b, off, e, by simpa [World.setCell] using hlt, fun j x hj => ?_⟩
  rw [World.cell?_setCell_other _ _ _ _ (fun e2 => by have := hne h0 b off e; injection e2 with e3; omega)]
  exact hc j x hj
theorem emod_lt_of (x n : Int) (h0 : 0 ≤ x) (h1 : ¬ n < 1) : 0 ≤ x.tmod n ∧ x.tmod n < n := by
  rw [Int.tmod_eq_emod_of_nonneg h0]
  exact ⟨Int.emod_nonneg _ (by omega), Int.emod_lt_of_pos _ (by omega)⟩

theorem xor_pos (v : Int) (h0 : 0 ≤ v) (h1 : v ≤ 9223372036854775807) : 0 ≤ bits .xor .i64 v (v / 64) := by
  obtain ⟨a, rfl⟩ := Int.eq_ofNat_of_zero_le h0
  have e : ((a : Int) / 64) = ((a / 64 : Nat) : Int) := by omega
  rw [e]
  have ha : a < 2 ^ 63 := by omega
  have hx : a ^^^ (a / 64) < 2 ^ 63 := Nat.xor_lt_two_pow ha (by omega)
  have ea : a % 2 ^ 64 = a := by omega
  have eb : (a / 64) % 2 ^ 64 = a / 64 := by omega
  show 0 ≤ IntKind.i64.wrap ((BitVec.ofInt 64 (a : Int) ^^^ BitVec.ofInt 64 ((a / 64 : Nat) : Int)).toNat : Int)
  rw [BitVec.toNat_xor, BitVec.ofInt_natCast, BitVec.ofInt_natCast, BitVec.toNat_ofNat, BitVec.toNat_ofNat, ea, eb, IntWalk.i64_in _ (by omega)]
  omega

set_option maxRecDepth 100000 in
set_option maxHeartbeats 2000000 in
theorem pick_any (R : Nat) (n : Int) (lim : Int) (hlim : lim ≤ 1000000) (hn : n ≤ 1000000) (w : World) (hr : Rd w R lim) :
    Calls Tryd.prog 50 #[.pointer (some ⟨R, 0, none⟩), .int .i64 n] w fun e w' => ∃ v : Int, e = .returned (.int .i64 v) ∧ 0 ≤ v ∧ (1 ≤ n → v < n) ∧ (n < 1 → v = 0) ∧ Rd w' R (lim + 1) ∧ w.grownBy w' (some R) := by
  obtain ⟨A, m, c, bs, p, hrow, hm, hp0, hp1, hblk, hne⟩ := hr
  obtain ⟨k, rfl⟩ := Int.eq_ofNat_of_zero_le hp0
  obtain ⟨c0, c1, f0, f1⟩ := hblk.two
  have HR := Lib.hid hrow
  have HB := Lib.hid hblk
  have HE := Lib.hid hne
  clear hrow hblk hne
  by_cases hn1 : n < 1
  · go_enter Tryd.func50, Tryd.ntmps50
    go_wp2
    go_ret
    exact ⟨0, rfl, by omega, by omega, fun _ => rfl, (rd_step HR.out hm hp1 HB.out HE.out).1, (rd_step HR.out hm hp1 HB.out HE.out).2⟩
  · by_cases hm0 : m = 0
    · subst hm0
      go_enter Tryd.func50, Tryd.ntmps50
      go_wp2
      go_ret
      exact ⟨0, rfl, by omega, by omega, fun _ => rfl, (rd_step HR.out hm hp1 HB.out HE.out).1, (rd_step HR.out hm hp1 HB.out HE.out).2⟩
    · by_cases hkm : k < m
      · obtain ⟨b, off, rfl, hb, hc⟩ := HR.out.2.1 (by omega)
        have hkl : bs[k]? = some (bs[k]'(by have := HR.out.1; omega)) := List.getElem?_eq_getElem _
        have hx := HR.out.2.2 (bs[k]'(by have := HR.out.1; omega)) (List.getElem_mem _)
        generalize (bs[k]'(by have := HR.out.1; omega)) = x at hkl hx
        have g0 := hc k x hkl
        have hbR : b ≠ R := Nat.ne_of_lt (HE.out (by omega) b off rfl)
        clear hkl hc
        have HS := Lib.hid (World.cell?_setCell_other w ⟨R, 1, none⟩ ⟨b, off + k, none⟩ (.int .i64 ((k : Int) + 1)) (fun e => hbR (by injection e with e1; exact e1.symm)))
        have g1 := HS.out.trans g0
        go_enter Tryd.func50, Tryd.ntmps50
        go_wp2
        go_ret
        refine ⟨_, rfl, ?_, ?_, ?_, (rd_step HR.out hm hp1 HB.out HE.out).1, (rd_step HR.out hm hp1 HB.out HE.out).2⟩
        · exact Int.emod_nonneg _ (by omega)
        · exact Int.emod_lt_of_pos _ (by omega)
        · intro h; omega
      · have hm1 : 0 < m := by omega
        obtain ⟨b, off, rfl, hb, hc⟩ := HR.out.2.1 hm1
        have hbR : b ≠ R := Nat.ne_of_lt (HE.out (by omega) b off rfl)
        have hkm' : ¬ ((k : Int) < (m : Int)) := by omega
        have one : ∀ j, j < m → ∃ x, 0 ≤ x ∧ x ≤ 255 ∧ (w.setCell ⟨R, 1, none⟩ (.int .i64 ((k : Int) + 1))).cell? ⟨b, off + j, none⟩ = some (.int .u8 x) := by
          intro j hj
          have hl : j < bs.length := by have := HR.out.1; omega
          have hx := HR.out.2.2 (bs[j]'hl) (List.getElem_mem _)
          exact ⟨bs[j]'hl, hx.1, hx.2, (World.cell?_setCell_other w ⟨R, 1, none⟩ ⟨b, off + j, none⟩ _ (fun e => hbR (by injection e with e1; exact e1.symm))).trans (hc j _ (List.getElem?_eq_getElem hl))⟩
        obtain ⟨x, hx0, hx1, hxc⟩ := one (k % m) (Nat.mod_lt _ hm1)
        obtain ⟨y, hy0, hy1, hyc⟩ := one ((k * 7 + 3) % m) (Nat.mod_lt _ hm1)
        have t1 : ((k : Int)).tmod (m : Int) = ((k % m : Nat) : Int) := by rw [Int.tmod_eq_emod_of_nonneg (by omega)]; rfl
        have t2 : ((k : Int) * 7 + 3).tmod (m : Int) = (((k * 7 + 3) % m : Nat) : Int) := by rw [Int.tmod_eq_emod_of_nonneg (by omega)]; rfl
        have l1 : ((k % m : Nat) : Int) < (m : Int) := by have := Nat.mod_lt k hm1; omega
        have l2 : (((k * 7 + 3) % m : Nat) : Int) < (m : Int) := by have := Nat.mod_lt (k * 7 + 3) hm1; omega
        have l3 : (0 : Int) ≤ ((k % m : Nat) : Int) := Int.natCast_nonneg _
        have l4 : (0 : Int) ≤ (((k * 7 + 3) % m : Nat) : Int) := Int.natCast_nonneg _
        generalize k % m = i1 at *
        generalize (k * 7 + 3) % m = i2 at *
        have wk1 : IntKind.i64.wrap ((k : Int) * 7) = (k : Int) * 7 := by rw [IntKind.wrap_i64]; omega
        have wk2 : IntKind.i64.wrap ((k : Int) * 7 + 3) = (k : Int) * 7 + 3 := by rw [IntKind.wrap_i64]; omega
        have hmz : ((m : Int) == 0) = false := by simp; omega
        have T1 := Lib.hid t1
        have T2 := Lib.hid t2
        have K1 := Lib.hid wk1
        have K2 := Lib.hid wk2
        clear one hc t1 t2 wk1 wk2
        go_enter Tryd.func50, Tryd.ntmps50
        go_wp2
        go_cut [6] (fun s wx => (∃ v : Int, s = .int .i64 v ∧ 0 ≤ v ∧ v ≤ 9223372036854775807) ∧ ∃ nq, wx = (w.setCell ⟨R, 1, none⟩ (.int .i64 ((k : Int) + 1))).drewN nq)
        case first =>
          have t1 := T1.out
          have t2 := T2.out
          have wk1 := K1.out
          have wk2 := K2.out
          go_quiet (fail)
          clear t1 t2 wk1 wk2
          go_wp2_with fail
          go_meet
          refine ⟨⟨_, rfl, ?_⟩, _, rfl⟩
          have hq0 : 0 ≤ (k : Int) / (m : Int) := Int.ediv_nonneg (by omega) (by omega)
          have hq1 : (k : Int) / (m : Int) ≤ (k : Int) := Int.ediv_le_self _ (by omega)
          generalize (k : Int) / (m : Int) = q at *
          rw [IntWalk.wrap64_in q (by omega), IntWalk.wrap64_in (q * 53) (by omega), IntWalk.wrap64_in _ (by omega)]
          omega
        case rest =>
          obtain ⟨⟨v, rfl, hv0, hv1⟩, nq, rfl⟩ := hcut
          go_wp2
          go_ret
          have hx := xor_pos v hv0 hv1
          generalize bits BinOp.xor IntKind.i64 v (v / 64) = z at *
          have ht := emod_lt_of z n hx (by omega)
          have hst := rd_step HR.out hm hp1 HB.out HE.out
          exact ⟨_, rfl, ht.1, fun _ => ht.2, fun h => by omega, hst.1, hst.2.os, hst.2.tape, hst.2.output, hst.2.size, hst.2.block⟩

theorem Rd.mono {w : World} {R : Nat} {l l' : Int} (h : Rd w R l) (hl : l ≤ l') : Rd w R l' := by
  obtain ⟨A, n, c, bs, p, h1, h2, h3, h4, h5, h6⟩ := h
  exact ⟨A, n, c, bs, p, h1, h2, h3, by omega, h5, h6⟩
/-- What turns neither the reader's block nor an older one leaves the reader as it was. -/
theorem Rd.keep {w w' : World} {R : Nat} {l : Int} (h : Rd w R l) (hb : Below w.heap.size w w') : Rd w' R l := by
  obtain ⟨A, n, c, bs, p, ⟨h0, h1, h2⟩, h3, h4, h5, h6, h7⟩ := h
  refine ⟨A, n, c, bs, p, ⟨h0, fun hp => ?_, h2⟩, h3, h4, h5, h6.keep hb, h7⟩
  obtain ⟨b, off, e, hlt, hc⟩ := h1 hp
  exact ⟨b, off, e, Nat.lt_of_lt_of_le hlt hb.size, fun k x hk => (hb.cell (p := ⟨b, off + k, none⟩) hlt).trans (hc k x hk)⟩
/-- A store into a younger block leaves the reader as it was. -/
theorem Rd.far {w w' : World} {R X : Nat} {l : Int} (h : Rd w R l) (hX : R < X) (hg : w.grownBy w' (some X)) : Rd w' R l := by
  obtain ⟨A, n, c, bs, p, ⟨h0, h1, h2⟩, h3, h4, h5, h6, h7⟩ := h
  refine ⟨A, n, c, bs, p, ⟨h0, fun hp => ?_, h2⟩, h3, h4, h5, (hg.block _ h6.lt (by simp; omega)).trans h6, h7⟩
  obtain ⟨b, off, e, hlt, hc⟩ := h1 hp
  have hbR := h7 hp b off e
  exact ⟨b, off, e, Nat.lt_of_lt_of_le hlt hg.size, fun k x hk => (World.cell?_of_block (a := ⟨b, off + k, none⟩) (hg.block b hlt (by simp; omega))).trans (hc k x hk)⟩
theorem Rd.grown {w w' : World} {R : Nat} {l : Int} {row : Option Nat} (h : Rd w R l) (hg : w.grownBy w' row) (hrow : ∀ q, row = some q → R < q) : Rd w' R l := by
  rcases row with _ | q
  · exact h.keep ⟨hg.os, hg.tape, hg.output, hg.size, fun k hk => hg.block k hk (by simp)⟩
  · exact h.far (hrow q rfl) hg
theorem Rd.lt {w : World} {R : Nat} {l : Int} (h : Rd w R l) : R < w.heap.size := by
  obtain ⟨A, n, c, bs, p, h1, h2, h3, h4, h5, h6⟩ := h
  exact h5.lt
theorem Rd.alloc {w : World} {R : Nat} {l : Int} (h : Rd w R l) (o : Obj) : Rd (w.alloc o) R l := h.keep (below_bx w o)

theorem odd_any (R : Nat) (n : Int) (lim : Int) (hlim : lim ≤ 1000000) (hn : n ≤ 1000000) (w : World) (hr : Rd w R lim) :
    Calls Tryd.prog 53 #[.pointer (some ⟨R, 0, none⟩), .int .i64 n] w fun e w' => ∃ v : Bool, e = .returned (.bool v) ∧ (n ≤ 0 → v = false) ∧ Rd w' R (lim + 1) ∧ w.grownBy w' (some R) := by
  by_cases h0 : 0 < n
  · go_enter Tryd.func53, Tryd.ntmps53
    go_wp2_with fail
    refine (pick_any R n lim hlim hn _ hr).mono ?_
    rintro e w1 ⟨v, rfl, hv0, hv1, _, hr1, hg1⟩
    go_wp2
    go_ret
    exact ⟨_, rfl, by omega, hr1, hg1⟩
  · go_enter Tryd.func53, Tryd.ntmps53
    go_wp2_with fail
    go_ret
    first | exact ⟨_, rfl, fun _ => rfl, hr.mono (by omega), World.grownBy.refl _ _⟩ | exact ⟨rfl, hr.mono (by omega), World.grownBy.refl _ _⟩

theorem open_any (A : Option Addr) (n c : Nat) (bs : List Int) (w : World) (hr : RowB w A n bs) (hnc : n ≤ c) (hc : c ≤ 9223372036854775807) :
    Calls Tryd.prog 40 #[.slice A n c] w fun e w' => e = .returned (.pointer (some ⟨w.heap.size, 0, none⟩)) ∧ Below w.heap.size w w' ∧ Rd w' w.heap.size 0 ∧ w'.heap.size = w.heap.size + 1 := by
  have HR := Lib.hid hr
  have fin : ∀ (n' c' : Nat) (bs' : List Int), n' ≤ 2000 → RowB w A n' bs' → Below w.heap.size w (w.alloc (.cells #[.slice A n' c', .int .i64 0] 88)) ∧ Rd (w.alloc (.cells #[.slice A n' c', .int .i64 0] 88)) w.heap.size 0 := by
    intro n' c' bs' hn' hr'
    refine ⟨below_bx w _, A, n', c', bs', 0, ⟨hr'.1, fun hp => ?_, hr'.2.2⟩, hn', by omega, by omega, IsBlk.new w _ _, fun hp b off e => ?_⟩
    · obtain ⟨b, off, e, hlt, hcl⟩ := hr'.2.1 hp
      exact ⟨b, off, e, by simp; omega, fun k x hk => by rw [World.cell?_alloc_lt _ _ _ hlt]; exact hcl k x hk⟩
    · obtain ⟨b', off', e', hlt, _⟩ := hr'.2.1 hp
      rw [e'] at e; injection e with e; injection e with e1; omega
  by_cases h : n ≤ 2000
  · have HF := Lib.hid (fin n c bs h hr)
    clear fin hr
    go_enter Tryd.func40, Tryd.ntmps40
    go_wp2
    go_ret
    exact ⟨rfl, HF.out.1, HF.out.2, by simp⟩
  · obtain ⟨b, off, rfl, hlt, hcl⟩ := hr.2.1 (by omega)
    have hr2 : RowB w (some ⟨b, off, none⟩) 2000 (bs.take 2000) := by
      refine ⟨by rw [List.length_take]; have := hr.1; omega, fun _ => ⟨b, off, rfl, hlt, fun k x hk => ?_⟩, fun x hx => hr.2.2 x (List.mem_of_mem_take hx)⟩
      rw [List.getElem?_take] at hk
      split at hk
      · exact hcl k x hk
      · cases hk
    have HF := Lib.hid (fin 2000 c (bs.take 2000) (by omega) hr2)
    clear fin hr hr2 hcl
    go_enter Tryd.func40, Tryd.ntmps40
    go_wp2
    go_ret
    exact ⟨rfl, HF.out.1, HF.out.2, by simp⟩
end Go.Proofs.YtfedffekbemcoaaDoor

/- The drawing of a network: whatever the bytes, it is some network, in new memory. -/
namespace Go.Proofs.YtfedffekbemcoaaDoor
open Go.ChangeShapes Go.WideShapes Go.ChangeAt Go.RowKit

/-- A slice of lines of the call's own. -/
def OwnL (w : World) (base : Nat) (v : Value) (ls : List L3) : Prop := w.ownsRow base 43 3 v ls.length (ls.flatMap fL)
theorem OwnL.keep {w w' : World} {base : Nat} {v : Value} {xs : List L3} (h : OwnL w base v xs) (hb : Below w.heap.size w w') : OwnL w' base v xs :=
  World.ownsRow.kept (row := none) h ⟨hb.os, hb.tape, hb.output, hb.size, fun i hi _ => hb.block i hi⟩ (Classical.em _)
theorem OwnL.far {w w' : World} {base : Nat} {v : Value} {xs : List L3} {row : Option Nat} (h : OwnL w base v xs) (hg : w.grownBy w' row) (hne : ∀ q, v.ownBlock = some q → row ≠ some q) : OwnL w' base v xs := by
  refine World.ownsRow.kept h hg ?_
  rcases hq : v.ownBlock with _ | q
  · exact .inl rfl
  · exact .inr (fun e => hne q hq e.symm)
theorem OwnL.row {w : World} {base : Nat} {v : Value} {ls : List L3} (h : OwnL w base v ls) : ∃ A c, v = .slice A ls.length c ∧ RowL w A ls.length ls := by
  rcases h.2 with ⟨rfl, h0⟩ | ⟨g, cap, cur, rfl, hb, hg, hn, hc, hsz, ht⟩
  · exact ⟨none, 0, by rw [h0], rfl, fun hp => absurd hp (by omega)⟩
  · refine ⟨some ⟨g, 0, none⟩, cap, rfl, rfl, fun _ => ⟨g, 0, rfl, (Array.getElem?_eq_some_iff.1 hg).1, fun k l hk => ?_⟩⟩
    have hlt : k < ls.length := (List.getElem?_eq_some_iff.1 hk).1
    have one : ∀ j, j < 3 → w.cell? ⟨g, 0 + k * 3 + j, none⟩ = (fL l)[j]? := by
      intro j hj
      rw [cell_of_row w g _ cur 43 (0, 0) hg, Nat.zero_add, ← Array.getElem?_toList]
      have e := flat_get (f := fL) fL_len ls k l j hk hj
      rw [← ht, List.getElem?_take_of_lt (by omega)] at e
      exact e
    exact ⟨one 0 (by omega), one 1 (by omega), one 2 (by omega)⟩

/-- While a network is drawn: the result's block, the variable's block, its lines, the reader. -/
structure NetSt (w0 w : World) (R X : Nat) (lim : Int) (bs : Int) (v : Value) (ls : List L3) : Prop where
  ret : IsBlk w w0.heap.size 41 #[.int .i64 0, .slice none 0 0]
  far : w0.heap.size < X
  var : IsBlk w X 41 #[.int .i64 bs, v]
  own : OwnL w (X + 1) v ls
  rd : Rd w R lim
  grown : w0.grownBy w (some R)
section
variable {w0 w w' : World} {R X : Nat} {lim lim' : Int} {bs : Int} {v : Value} {ls : List L3}
theorem NetSt.pick (hR : R < w0.heap.size) (h : NetSt w0 w R X lim bs v ls) (hr : Rd w' R lim') (hg : w.grownBy w' (some R)) : NetSt w0 w' R X lim' bs v ls := by
  have hf := h.far
  exact ⟨(hg.block _ h.ret.lt (by simp; omega)).trans h.ret, h.far, (hg.block _ h.var.lt (by simp; omega)).trans h.var,
    h.own.far hg (fun q hq e => by injection e with e; have := (World.ownsRow.lt h.own q hq).1; omega), hr, grown_then h.grown hg⟩
theorem NetSt.keep (h : NetSt w0 w R X lim bs v ls) (hb : Below w.heap.size w w') : NetSt w0 w' R X lim bs v ls :=
  ⟨h.ret.keep hb, h.far, h.var.keep hb, h.own.keep hb, h.rd.keep hb, grown_then h.grown ⟨hb.os, hb.tape, hb.output, hb.size, fun k hk _ => hb.block k hk⟩⟩
theorem NetSt.drew (h : NetSt w0 w R X lim bs v ls) : NetSt w0 w.drew R X lim bs v ls := ⟨h.ret, h.far, h.var, h.own, h.rd, h.grown.os, h.grown.tape, h.grown.output, h.grown.size, h.grown.block⟩
theorem NetSt.mono (h : NetSt w0 w R X lim bs v ls) (hl : lim ≤ lim') : NetSt w0 w R X lim' bs v ls := ⟨h.ret, h.far, h.var, h.own, h.rd.mono hl, h.grown⟩
/-- A line is appended. -/
theorem NetSt.push (hR : R < w0.heap.size) (h : NetSt w0 w R X lim bs v ls) (o : Obj) {w8 : World} {v' : Value} {l : L3} (hown : w8.ownsRow (X + 1) 43 3 v' (ls.length + 1) (ls.flatMap fL ++ fL l)) (hg : (w.alloc o).grownBy w8 v.ownBlock) :
    NetSt w0 (w8.setCell ⟨X, 1, none⟩ v') R X lim bs v' (ls ++ [l]) ∧ IsBlk w8 X 41 #[.int .i64 bs, v] := by
  have hf := h.far
  have hq : ∀ q, v.ownBlock = some q → X + 1 ≤ q := fun q e => (World.ownsRow.lt h.own q e).1
  have hx : X < w.heap.size := h.var.lt
  have hr : w0.heap.size < w.heap.size := h.ret.lt
  have keep : ∀ k, k < w.heap.size → k ≤ X → w8.heap[k]? = w.heap[k]? := fun k hk hkX => (hg.block k (by simp; omega) (fun e => by have := hq k e.symm; omega)).trans (Below.heap_alloc w o k hk)
  have var8 : IsBlk w8 X 41 #[.int .i64 bs, v] := (keep X hx (Nat.le_refl _)).trans h.var
  have hgp : w8.grownBy (w8.setCell ⟨X, 1, none⟩ v') (some X) := grown_put _ _ _ _
  have own8 : OwnL w8 (X + 1) v' (ls ++ [l]) := by
    show World.ownsRow _ _ _ _ _ (ls ++ [l]).length _
    rw [List.length_append, List.flatMap_append, List.flatMap_singleton]; exact hown
  refine ⟨⟨IsBlk.far ((keep _ hr (by omega)).trans h.ret) (by simp; omega) _, hf, var8.put 1 _, own8.far hgp (fun q e e2 => by injection e2 with e2; have := (World.ownsRow.lt own8 q e).1; omega), ((h.rd.alloc o).grown hg (fun q e => by have := hq q e; omega)).far (by omega) hgp, ?_⟩, var8⟩
  have hsz : w.heap.size ≤ w8.heap.size := by have := hg.size; simp at this; omega
  refine ⟨hgp.os.trans (hg.os.trans h.grown.os), hgp.tape.trans (hg.tape.trans h.grown.tape), hgp.output.trans (hg.output.trans h.grown.output), Nat.le_trans h.grown.size (Nat.le_trans hsz hgp.size), fun k hk hne => ?_⟩
  have := h.grown.size
  exact (hgp.block k (by omega) (by simp; omega)).trans ((keep k (by omega) (by omega)).trans (h.grown.block k hk hne))
/-- Fresh lines are stored. -/
theorem NetSt.fresh (hR : R < w0.heap.size) (h : NetSt w0 w R X lim bs v ls) (ls' : List L3) (hm : ls'.length ≤ maxLen) (n : Nat) (hn : ls'.length = n) :
    NetSt w0 ((w.alloc (.cells (rowArr fL ls') 43)).setCell ⟨X, 1, none⟩ (.slice (some ⟨w.heap.size, 0, none⟩) n n)) R X lim bs (.slice (some ⟨w.heap.size, 0, none⟩) n n) ls' := by
  subst hn
  have hf := h.far
  have hx : X < w.heap.size := h.var.lt
  have k := h.keep (below_bx w (.cells (rowArr fL ls') 43))
  have hgp : (w.alloc (.cells (rowArr fL ls') 43)).grownBy ((w.alloc (.cells (rowArr fL ls') 43)).setCell ⟨X, 1, none⟩ (.slice (some ⟨w.heap.size, 0, none⟩) ls'.length ls'.length)) (some X) := grown_put _ _ _ _
  have own8 : OwnL (w.alloc (.cells (rowArr fL ls') 43)) (X + 1) (.slice (some ⟨w.heap.size, 0, none⟩) ls'.length ls'.length) ls' := by
    have hs : (rowArr fL ls').size = ls'.length * 3 := by rw [rowArr, List.size_toArray, flat_len fL_len]
    have := World.ownsRow_lit (base := X + 1) (size := 3) (e := 43) w (rowArr fL ls') ls'.length (by omega) hm hs
    exact this
  refine ⟨IsBlk.far k.ret (by simp; omega) _, hf, k.var.put 1 _, own8.far hgp (fun q e e2 => by injection e2 with e2; have := (World.ownsRow.lt own8 q e).1; omega), k.rd.far (by omega) hgp, ?_⟩
  have := k.grown.size
  exact ⟨hgp.os.trans k.grown.os, hgp.tape.trans k.grown.tape, hgp.output.trans k.grown.output, Nat.le_trans k.grown.size hgp.size, fun q hk hne => (hgp.block q (by omega) (by simp; omega)).trans (k.grown.block q hk hne)⟩
/-- A store into the variable. -/
theorem NetSt.store (hR : R < w0.heap.size) (h : NetSt w0 w R X lim bs v ls) (b' : Int) : NetSt w0 (w.setCell ⟨X, 0, none⟩ (.int .i64 b')) R X lim b' v ls := by
  have hf := h.far
  have hx : X < w.heap.size := h.var.lt
  have hg : w.grownBy (w.setCell ⟨X, 0, none⟩ (.int .i64 b')) (some X) := grown_put _ _ _ _
  refine ⟨h.ret.far (by simp; omega) _, h.far, h.var.put 0 _, h.own.far hg (fun q hq e => by injection e with e; have := (World.ownsRow.lt h.own q hq).1; omega), h.rd.far (by omega) hg, ?_⟩
  · exact ⟨hg.os.trans h.grown.os, hg.tape.trans h.grown.tape, hg.output.trans h.grown.output, Nat.le_trans h.grown.size hg.size, fun k hk hne => (hg.block k (by have := h.grown.size; omega) (by simp; omega)).trans (h.grown.block k hk hne)⟩
end

theorem news_new (w : World) (l : L3) (t : TypeId) : ∀ j u, (fL l)[j]? = some u → (w.alloc (.cells (fL l).toArray t)).cell? ((⟨w.heap.size, 0, none⟩ : Addr).add j) = some u := by
  intro j u hj
  have h := (IsBlk.new w t (fL l).toArray).cell j
  have ha : (⟨w.heap.size, 0, none⟩ : Addr).add j = ⟨w.heap.size, j, none⟩ := by unfold Addr.add; split <;> simp_all
  rw [ha, h, ← hj]; simp
theorem news_at (_n : Nat) (w : World) {o : Obj} (l : L3) (t : TypeId) : ∀ j u, (fL l)[j]? = some u → ((w.alloc o).alloc (.cells (fL l).toArray t)).cell? ((⟨w.heap.size + 1, 0, none⟩ : Addr).add j) = some u := by
  have h := news_new (w.alloc o) l t
  simp only [World.size_alloc] at h
  exact h
theorem two_at {w : World} {g : Nat} {t : TypeId} {x y : Int} (h : w.heap[g]? = some (.cells #[.int .i64 x, .int .i64 y] t (0, 0))) {j : Int} (h0 : 0 ≤ j) (h1 : j < 2) : ∃ z, w.cell? ⟨g, j.toNat, none⟩ = some (.int .i64 z) := by
  rcases (show j = 0 ∨ j = 1 by omega) with rfl | rfl
  · exact ⟨x, IsBlk.cell h 0⟩
  · exact ⟨y, IsBlk.cell h 1⟩
theorem lineInfo : (Tryd.prog.info? 43).map (fun i => (i.zero, i.size, i.bytes)) = some (some (.agg #[.int .i64 0, .int .i64 0, .int .i64 0]), 3, 24) := by kernel_rfl
def lines11 : Array Value := rowArr fL (List.replicate 11 (0, 0, 0))
theorem make11 (w : World) : (Instr.makeSlice 39 (.int .i64 11) (.int .i64 11)).run Tryd.prog w = .ok (.slice (some ⟨w.heap.size, 0, none⟩) 11 11) (w.alloc (.cells lines11 43)) := by
  obtain ⟨i0, hi, hz0, hz1, hz2⟩ := info_parts lineInfo
  have := run_make (P := Tryd.prog) w 39 43 i0 _ Tryd.underlying39 hi hz0 .i64 .i64 11 11 (by omega) (by omega) (by rw [hz2]; omega) (by omega)
  rw [this]
  show Result.ok _ (w.alloc (.cells (madeCells (Value.agg #[.int .i64 0, .int .i64 0, .int .i64 0]).cells (11 * i0.size)) _)) = _
  rw [hz1, madeCells_row (f := fL) fL_len (Value.agg #[.int .i64 0, .int .i64 0, .int .i64 0]).cells (0, 0, 0) rfl (by omega)]
  rfl
theorem other_bus {bs va vc : Int} (h1 : 2 ≤ bs) (h2 : bs ≤ 8) (_h3 : 0 ≤ va) (h4 : va < bs) (h5 : 0 ≤ vc) (h6 : vc < bs - 1) :
    0 ≤ (va + 1 + vc) % bs ∧ (va + 1 + vc) % bs < bs ∧ (va != (va + 1 + vc) % bs) = true := by
  refine ⟨Int.emod_nonneg _ (by omega), Int.emod_lt_of_pos _ (by omega), ?_⟩
  rw [bne_iff_ne]
  rcases (show bs = 2 ∨ bs = 3 ∨ bs = 4 ∨ bs = 5 ∨ bs = 6 ∨ bs = 7 ∨ bs = 8 by omega) with rfl | rfl | rfl | rfl | rfl | rfl | rfl <;> omega
theorem lineOk_mk {bs a b m : Int} (h0 : 0 ≤ a) (h1 : a < bs) (h2 : 0 ≤ b) (h3 : b < bs) (h4 : (a != b) = true) (h5 : 1 ≤ m) (h6 : m ≤ 999) : lineOk bs (a, b, m) = true := by
  simp only [lineOk, inB, Bool.and_eq_true, decide_eq_true_eq]
  exact ⟨⟨⟨⟨h0, by omega⟩, ⟨h2, by omega⟩⟩, h4⟩, ⟨h5, h6⟩⟩
theorem all_snoc {bs : Int} {ls : List L3} {l : L3} (h : ls.all (lineOk bs) = true) (hl : lineOk bs l = true) : (ls ++ [l]).all (lineOk bs) = true := by
  rw [List.all_append, h, List.all_cons, hl]; rfl
theorem netOk_mk {bs : Int} {ls : List L3} (h1 : 1 ≤ bs) (h2 : bs ≤ 8) (h3 : ls.length ≤ 10) (h : ls.all (lineOk bs) = true) : netOk bs ls = true := by
  simp only [netOk, inB, Bool.and_eq_true, decide_eq_true_eq]; exact ⟨⟨⟨h1, h2⟩, h3⟩, h⟩
set_option maxRecDepth 100000 in
set_option maxHeartbeats 4000000 in
theorem net_full (R : Nat) (n : Int) (lim : Int) (hlim : lim ≤ 900000) (hn : n ≤ 1000) (w : World) (hR : R < w.heap.size) (hr : Rd w R lim) :
    Calls Tryd.prog 54 #[.pointer (some ⟨R, 0, none⟩), .int .i64 n] w fun e w' => ∃ bs v ls, e = .returned (.agg #[.int .i64 bs, v]) ∧ OwnL w' (w.heap.size + 1) v ls ∧ ls.length ≤ 12 ∧ -1 ≤ bs ∧ bs ≤ 9 ∧ Rd w' R (lim + 100) ∧ w.grownBy w' (some R) ∧ (n ≤ 0 → netOk bs ls = true) := by
  obtain ⟨i0, hi, hz0, hz1, hz2⟩ := info_parts lineInfo
  have I0 := Lib.hid hi
  clear hi
  go_enter Tryd.func54, Tryd.ntmps54
  go_wp2_with fail
  refine (pick_any R 8 lim (by omega) (by omega) _ (hr.alloc _)).mono ?_
  rintro e w1 ⟨v1, rfl, hv0, hv1, _, hr1, hg1⟩
  have hs1 : w.heap.size + 1 ≤ w1.heap.size := by have := hg1.size; simpa using this
  have S1 := Lib.hid (show NetSt w (w1.alloc (.cells #[.int .i64 (1 + v1), .slice none 0 0] 41)) R w1.heap.size (lim + 1) (1 + v1) (.slice none 0 0) [] from
    ⟨IsBlk.alloc ((hg1.block _ (by simp) (by simp; omega)).trans (IsBlk.new w 41 #[.int .i64 0, .slice none 0 0])) _, by omega, IsBlk.new _ _ _, World.ownsRow_nil _ _ _ _, hr1.alloc _, grown_then (grown_then (grown_alloc w _ _) hg1) (grown_alloc _ _ _)⟩)
  go_wp2_with fail
  refine (pick_any R 3 _ (by omega) (by omega) _ S1.out.rd).mono ?_
  rintro e w2 ⟨v2, rfl, hu0, hu1, _, hr2, hg2⟩
  have S2 := Lib.hid (S1.out.pick hR hr2 hg2)
  go_upto_if 15 with fail
  generalize w1.heap.size = X at *
  have hX : w.heap.size < X := by omega
  go_cut [] (fun wx => ∃ bs, 1 ≤ bs ∧ bs ≤ 8 ∧ NetSt w wx R X (lim + 3) bs (.slice none 0 0) [])
  case first =>
    by_cases hc : 0 < v2
    · go_wp2_with fail
      refine (pick_any R 4 _ (by omega) (by omega) _ S2.out.rd).mono ?_
      rintro e w3 ⟨v3, rfl, ht0, ht1, _, hr3, hg3⟩
      have S3 := Lib.hid (S2.out.pick hR hr3 hg3)
      obtain ⟨p0, p1, p2, p3⟩ := S3.out.var.two
      go_wp2_with fail
      go_meet
      have S4 := S3.out.store hR (4 + v3)
      exact ⟨4 + v3, by omega, by omega, S4.ret, S4.far, S4.var, S4.own, S4.rd.mono (by omega), S4.grown⟩
    · go_wp2_with fail
      go_meet
      have S4 := S2.out
      exact ⟨1 + v1, by omega, by omega, S4.ret, S4.far, S4.var, S4.own, S4.rd.mono (by omega), S4.grown⟩
  case rest =>
    obtain ⟨bs, hb0, hb1, hS⟩ := hcut
    have S5 := Lib.hid hS
    clear hS S1 S2
    go_wp2_with fail
    refine (pick_any R 11 _ (by omega) (by omega) _ S5.out.rd).mono ?_
    rintro e w4 ⟨v4, rfl, hk0, hk1, _, hr4, hg4⟩
    have S6 := Lib.hid (S5.out.pick hR hr4 hg4)
    obtain ⟨m, rfl⟩ := Int.eq_ofNat_of_zero_le hk0
    clear S5 hr4 hg4
    go_upto_block 0 with fail
    go_cut [6, 7, 8] (fun s6 s7 s8 wx => ∃ v ls, NetSt w wx R X (lim + 34) bs v ls ∧ ls.length ≤ 10 ∧ ls.all (lineOk bs) = true)
    case first =>
     go_wp2_with fail
     go_loopg [6] m (fun g s6 wx => s6 = .int .i64 (g : Int) ∧ g ≤ 10 ∧ ∃ v ls, NetSt w wx R X (lim + 4 + 3 * (10 - (g : Int))) bs v ls ∧ ls.length + g ≤ 10 ∧ ls.all (lineOk bs) = true)
     case atStart =>
       have S7 := S6.out
       exact ⟨rfl, by omega, _, [], ⟨S7.ret, S7.far, S7.var, S7.own, S7.rd.mono (by omega), S7.grown⟩, by simp; omega, rfl⟩
     case round =>
       obtain ⟨rfl, hg10, v, ls, hS, hlen, hall⟩ := hrel
       have HAll := Lib.hid hall
       clear hall
       have S7 := Lib.hid hS
       obtain ⟨p0, p1, p2, p3⟩ := S7.out.var.two
       have HLen := Lib.hid hlen
       clear hS hlen
       by_cases hgo : 0 < gk ∧ 1 < bs
       · obtain ⟨h1, h2⟩ := hgo
         have h3 : (0 : Int) < (gk : Int) := by omega
         go_wp2_with fail
         refine (pick_any R bs _ (by omega) (by omega) _ S7.out.rd).mono ?_
         rintro e w5 ⟨va, rfl, ha0, ha1, _, hr5, hg5⟩
         have S8 := Lib.hid (S7.out.pick hR hr5 hg5)
         clear p0 p1 p2 p3 hr5 hg5
         go_upto_region 8 with fail
         obtain ⟨p0, p1, p2, p3⟩ := S8.out.var.two
         have hva1 : va < bs := ha1 (by omega)
         go_cut [8] (fun s wx => (∃ z : Int, s = .int .i64 z ∧ 0 ≤ z ∧ z < bs ∧ (va != z) = true) ∧ NetSt w wx R X (lim + 4 + 3 * (10 - (gk : Int)) + 2) bs v ls)
         case first =>
           have D8 := Lib.hid S8.out.drew
           have hbz : (bs == 0) = false := by simp; omega
           have E1 := Lib.hid (show lim + 4 + 3 * (10 - (gk : Int)) + 1 ≤ 1000000 by omega)
           have E2 := Lib.hid (show bs - 1 ≤ 1000000 by omega)
           have wb1 : IntKind.i64.wrap (bs - 1) = bs - 1 := IntWalk.i64_in _ (by omega)
           go_region_with (go_at_call 50; refine (pick_any R (bs - 1) _ E1.out E2.out _ D8.out.rd).mono ?_; rintro e w6 ⟨vc, rfl, hc0, hc1, _, hr6, hg6⟩; have S8' := Lib.hid (D8.out.pick hR hr6 hg6); obtain ⟨q0, q1, q2, q3⟩ := S8'.out.var.two)
           all_goals go_wp2_with fail
           all_goals go_meet
           all_goals clear wb1
           all_goals exact ⟨⟨_, rfl, other_bus (by omega) (by omega) (by omega) (by omega) (by omega) (hc1 (by omega))⟩, S8'.out.mono (by omega)⟩
         case rest =>
           obtain ⟨⟨vb, rfl, hvb0, hvb1, hvn⟩, hS⟩ := hcut
           have HVN := Lib.hid hvn
           clear hvn
           have S9 := Lib.hid hS
           clear hS p0 p1 p2 p3
           go_upto_region 9 with fail
           obtain ⟨p0, p1, p2, p3⟩ := S9.out.var.two
           have D9 := Lib.hid S9.out.drew
           have LH : ls.length ≤ 10 := by have := HLen.out; omega
           have E3 := Lib.hid (show lim + 4 + 3 * (10 - (gk : Int)) + 2 ≤ 1000000 by omega)
           go_region_law (first
             | (refine step_append_lies _ rfl (.tmp 47) (.tmp 54) 39 rfl (X + 1) 43 i0 (.agg #[.int .i64 0, .int .i64 0, .int .i64 0]) 3 24 Tryd.underlying39 I0.out hz0 hz1 hz2 rfl (by decide) v ls.length (ls.flatMap fL) rfl (World.ownsRow.alloc S10.out.own _) ⟨w7.heap.size, 0, none⟩ 1 1 (fL (va, vb, 1 + vd)) rfl rfl ?c1 ?c2 (by decide) ?c3 ?c4 ?c5 _ rfl ?_
                case c1 => exact news_new w7 (va, vb, 1 + vd) _
                case c2 => intro u hu; simp [fL] at hu; rcases hu with rfl | rfl | rfl <;> rfl
                case c3 => clear wd; simp only [maxLen]; omega
                case c4 => clear wd; omega
                case c5 => clear wd; have := S10.out.var.lt; simp; omega
                intro g cap w8 hown8 hgrow8 hat8 hlt8
                have S11 := Lib.hid (S10.out.push hR _ hown8 hgrow8)
                obtain ⟨t0, t1, t2, t3⟩ := S11.out.2.two)
             | (go_simp; go_at_call 50; refine (pick_any R 40 _ E3.out (by decide) _ D9.out.rd).mono ?_; rintro e w7 ⟨vd, rfl, hd0, hd1, _, hr7, hg7⟩; have S10 := Lib.hid (D9.out.pick hR hr7 hg7); obtain ⟨q0, q1, q2, q3⟩ := S10.out.var.two; have hX7 := S10.out.var.lt; have hX8 : ¬ w7.heap.size = X := (by omega); have hX9 : ¬ X = w7.heap.size := (by omega); have wd : IntKind.i64.wrap (1 + vd) = 1 + vd := IntWalk.i64_in _ (by omega)))
           all_goals clear wd
           all_goals go_wp2_with fail
           all_goals
             go_roundg (gk - 1)
             case measure => omega
             case rel => exact ⟨by first | rfl | go_num | (congr 1; omega), by omega, _, _, S11.out.1.mono (by omega), by have := HLen.out; simp; omega, all_snoc HAll.out (lineOk_mk (by omega) (by omega) (by omega) (by omega) HVN.out (by omega) (by have := hd1 (by omega); omega))⟩
       · have hgx : gk = 0 ∨ (0 < gk ∧ ¬ 1 < bs) := by omega
         rcases hgx with rfl | ⟨h1, h2⟩
         · go_wp2_with fail
           go_meet
           exact ⟨v, ls, S7.out.mono (by omega), by have := HLen.out; omega, HAll.out⟩
         · have h3 : (0 : Int) < (gk : Int) := by omega
           go_wp2_with fail
           go_meet
           exact ⟨v, ls, S7.out.mono (by omega), by have := HLen.out; omega, HAll.out⟩
    case rest =>
      obtain ⟨v, ls, hS, hlen, hall⟩ := hcut
      have HOk := Lib.hid (netOk_mk hb0 hb1 hlen hall)
      clear hall
      have T1 := Lib.hid hS
      have TL := Lib.hid hlen
      clear hS hlen
      go_wp2_with fail
      refine (odd_any R n _ (by omega) (by omega) _ T1.out.rd).mono ?_
      rintro e w5 ⟨vo, rfl, hvo, hr5, hg5⟩
      have HVo := Lib.hid hvo
      clear hvo
      have T2 := Lib.hid (T1.out.pick hR hr5 hg5)
      have HLs : ls.length ≤ 10 := TL.out
      clear hr5 hg5 T1
      go_upto_if 59 with fail
      go_cut [64, 72, 82, 90] (fun _ _ _ _ wx => ∃ bs v ls, NetSt w wx R X (lim + 60) bs v ls ∧ ls.length ≤ 12 ∧ -1 ≤ bs ∧ bs ≤ 9 ∧ (n ≤ 0 → netOk bs ls = true))
      case first =>
        cases vo
        · go_wp2_with fail
          go_meet
          exact ⟨bs, v, ls, T2.out.mono (by omega), by omega, by omega, by omega, fun _ => HOk.out⟩
        · have hn1 : 0 < n := by
            rcases Int.lt_or_le 0 n with h | h
            · exact h
            · exact absurd (HVo.out h) (by decide)
          have HN1 := Lib.hid (fun (bs : Int) (ls : List L3) (h : n ≤ 0) => (by omega : netOk bs ls = true))
          clear hn1
          go_wp2_with fail
          refine (pick_any R 5 _ (by omega) (by omega) _ T2.out.rd).mono ?_
          rintro e w6 ⟨t, rfl, ht0, ht1, _, hr6, hg6⟩
          have T3 := Lib.hid (T2.out.pick hR hr6 hg6)
          clear hr6 hg6 T2
          obtain ⟨p0, p1, p2, p3⟩ := T3.out.var.two
          have hX6 := T3.out.var.lt
          rcases (show t = 0 ∨ t = 1 ∨ t = 2 ∨ t = 3 ∨ t = 4 by omega) with rfl | rfl | rfl | rfl | rfl
          · go_wp2_with fail
            have T4 := Lib.hid (T3.out.keep (below_bx w6 (.cells #[.int .i64 0, .int .i64 (-1), .int .i64 9] 3)))
            refine (pick_any R 3 _ (by omega) (by omega) _ T4.out.rd).mono ?_
            rintro e w7 ⟨j, rfl, hj0, hj1, _, hr7, hg7⟩
            have T5 := Lib.hid (T4.out.pick hR hr7 hg7)
            have hRlt : R < w6.heap.size := T3.out.rd.lt
            have hB : IsBlk w7 w6.heap.size 3 #[.int .i64 0, .int .i64 (-1), .int .i64 9] := (hg7.block _ (by simp) (by simp; omega)).trans (IsBlk.new w6 3 _)
            obtain ⟨b0, b1, b2, _, _, _⟩ := hB.three
            clear p0 p1 p2 p3 hB hr7 hg7
            obtain ⟨p0, p1, p2, p3⟩ := T5.out.var.two
            rcases (show j = 0 ∨ j = 1 ∨ j = 2 by omega) with rfl | rfl | rfl
            all_goals
              go_wp2_with fail
              go_meet
              exact ⟨_, v, ls, (T5.out.store hR _).mono (by omega), by omega, by omega, by omega, HN1.out _ _⟩
          · go_wp2_with (
              at_builtin
              refine wpList_append_lies _ rfl (.tmp 75) (.tmp 79) 39 rfl (X + 1) 43 i0 (.agg #[.int .i64 0, .int .i64 0, .int .i64 0]) 3 24 Tryd.underlying39 I0.out hz0 hz1 hz2 rfl (by decide) v ls.length (ls.flatMap fL) rfl (World.ownsRow.alloc T3.out.own _) ⟨w6.heap.size, 0, none⟩ 1 1 (fL (0, bs, 5)) rfl rfl ?c1 ?c2 (by decide) ?c3 ?c4 ?c5 _ rfl ?_
              case c1 => exact news_new w6 (0, bs, 5) _
              case c2 => intro u hu; simp [fL] at hu; rcases hu with rfl | rfl | rfl <;> rfl
              case c3 => simp only [maxLen]; omega
              case c4 => omega
              case c5 => simp; omega
              intro g cap w8 hown8 hgrow8 hat8 hlt8
              have S11 := Lib.hid (T3.out.push hR _ hown8 hgrow8)
              obtain ⟨t0, t1, t2, t3⟩ := S11.out.2.two)
            go_meet
            exact ⟨_, _, _, S11.out.1.mono (by omega), by simp; omega, by omega, by omega, HN1.out _ _⟩
          · go_wp2_with (
              at_builtin
              refine wpList_append_lies _ rfl (.tmp 85) (.tmp 87) 39 rfl (X + 1) 43 i0 (.agg #[.int .i64 0, .int .i64 0, .int .i64 0]) 3 24 Tryd.underlying39 I0.out hz0 hz1 hz2 rfl (by decide) v ls.length (ls.flatMap fL) rfl (World.ownsRow.alloc T3.out.own _) ⟨w6.heap.size, 0, none⟩ 1 1 (fL (0, 0, 5)) rfl rfl ?c1 ?c2 (by decide) ?c3 ?c4 ?c5 _ rfl ?_
              case c1 => exact news_new w6 (0, 0, 5) _
              case c2 => intro u hu; simp [fL] at hu; rcases hu with rfl | rfl | rfl <;> rfl
              case c3 => simp only [maxLen]; omega
              case c4 => omega
              case c5 => simp; omega
              intro g cap w8 hown8 hgrow8 hat8 hlt8
              have S11 := Lib.hid (T3.out.push hR _ hown8 hgrow8)
              obtain ⟨t0, t1, t2, t3⟩ := S11.out.2.two)
            go_meet
            exact ⟨_, _, _, S11.out.1.mono (by omega), by simp; omega, by omega, by omega, HN1.out _ _⟩
          · go_upto_region 20 with fail
            have T4 := Lib.hid ((T3.out.keep (below_bx w6 (.cells #[.int .i64 0, .int .i64 1000] 3))).drew)
            have E4 := Lib.hid (show lim + 34 + 1 + 1 ≤ 1000000 by omega)
            have hRlt : R < w6.heap.size := T3.out.rd.lt
            have hB := Lib.hid (show IsBlk (w6.alloc (.cells #[.int .i64 0, .int .i64 1000] 3)).drew w6.heap.size 3 #[.int .i64 0, .int .i64 1000] from IsBlk.new w6 3 _)
            have T4b := Lib.hid T3.out.drew
            go_region_law (first
              | (refine step_append_lies _ rfl (.tmp 93) (.tmp 100) 39 rfl (X + 1) 43 i0 (.agg #[.int .i64 0, .int .i64 0, .int .i64 0]) 3 24 Tryd.underlying39 I0.out hz0 hz1 hz2 rfl (by decide) v ls.length (ls.flatMap fL) rfl (World.ownsRow.alloc S10.out.own _) ⟨w7.heap.size, 0, none⟩ 1 1 (fL (0, 1, z)) rfl rfl ?c1 ?c2 (by decide) ?c3 ?c4 ?c5 _ rfl ?_
                 case c1 => exact news_new w7 (0, 1, z) _
                 case c2 => intro u hu; simp [fL] at hu; rcases hu with rfl | rfl | rfl <;> rfl
                 case c3 => simp only [maxLen]; omega
                 case c4 => omega
                 case c5 => simp; omega
                 intro g cap w8 hown8 hgrow8 hat8 hlt8
                 have S11 := Lib.hid (S10.out.push hR _ hown8 hgrow8)
                 obtain ⟨t0, t1, t2, t3⟩ := S11.out.2.two)
              | (refine step_append_lies _ rfl (.tmp 93) (.tmp 100) 39 rfl (X + 1) 43 i0 (.agg #[.int .i64 0, .int .i64 0, .int .i64 0]) 3 24 Tryd.underlying39 I0.out hz0 hz1 hz2 rfl (by decide) v ls.length (ls.flatMap fL) rfl (World.ownsRow.alloc S10b.out.own _) ⟨w7b.heap.size + 1, 0, none⟩ 1 1 (fL (0, 1, zb)) rfl rfl ?c1 ?c2 (by decide) ?c3 ?c4 ?c5 _ rfl ?_
                 case c1 => exact news_at 0 w7b (0, 1, zb) _
                 case c2 => intro u hu; simp [fL] at hu; rcases hu with rfl | rfl | rfl <;> rfl
                 case c3 => simp only [maxLen]; omega
                 case c4 => omega
                 case c5 => simp; omega
                 intro g cap w8 hown8 hgrow8 hat8 hlt8
                 have S11 := Lib.hid (S10b.out.push hR _ hown8 hgrow8)
                 obtain ⟨t0, t1, t2, t3⟩ := S11.out.2.two)
              | (go_simp; go_at_call 50; (with_reducible refine (pick_any R 2 _ E4.out (by decide) _ T4.out.rd).mono ?_); rintro e w7 ⟨j, rfl, hj0, hj1', _, hr7, hg7⟩; have hj1 : j < 2 := hj1' (by decide); have S10 := Lib.hid (T4.out.pick hR hr7 hg7); obtain ⟨q0, q1, q2, q3⟩ := S10.out.var.two; have hX7 := S10.out.var.lt; have hX8 : ¬ w7.heap.size = X := (by omega); have hX9 : ¬ X = w7.heap.size := (by omega); obtain ⟨z, hz⟩ := two_at ((hg7.block _ (by simp) (by simp; omega)).trans hB.out) hj0 hj1)
              | (go_simp; go_at_call 50; (with_reducible refine (pick_any R 2 _ E4.out (by decide) _ T4b.out.rd).mono ?_); rintro e w7b ⟨j, rfl, hj0, hj1', _, hr7, hg7⟩; have hj1 : j < 2 := hj1' (by decide); have S9b := Lib.hid (T4b.out.pick hR hr7 hg7); obtain ⟨q0, q1, q2, q3⟩ := S9b.out.var.two; have S10b := Lib.hid (S9b.out.keep (below_bx w7b (.cells #[.int .i64 0, .int .i64 1000] 3))); have hX7 := S9b.out.var.lt; have hX8 : ¬ w7b.heap.size = X := (by omega); have hX9 : ¬ X = w7b.heap.size := (by omega); have hX10 : ¬ w7b.heap.size + 1 = X := (by omega); obtain ⟨zb, hzb⟩ := two_at (IsBlk.new w7b 3 #[.int .i64 0, .int .i64 1000]) hj0 hj1))
            all_goals go_wp2_with fail
            all_goals go_meet
            all_goals exact ⟨_, _, _, S11.out.1.mono (by omega), by simp; omega, by omega, by omega, HN1.out _ _⟩
          · have hmk := make11
            go_wp2_with fail
            go_meet
            have hF := T3.out.fresh hR (List.replicate 11 (0, 0, 0)) (by decide) 11 (by simp)
            rw [World.setCell_alloc_past _ _ _ _ hX6] at hF
            exact ⟨_, _, List.replicate 11 (0, 0, 0), hF.mono (by omega), by simp, by omega, by omega, HN1.out _ _⟩
      case rest =>
        obtain ⟨bs', v', ls', hS, hl', hb0', hb1', hok'⟩ := hcut
        have HOk' := Lib.hid hok'
        clear hok'
        obtain ⟨A', c', rfl, _⟩ := hS.own.row
        have T6 := Lib.hid hS
        clear hS
        obtain ⟨p0, p1, p2, p3⟩ := T6.out.var.two
        obtain ⟨q0, q1, q2, q3⟩ := T6.out.ret.two
        have hne : ¬ w.heap.size = X := by omega
        go_wp2_with fail
        refine bodyPost_ret (v := .agg #[.int .i64 bs', .slice A' ls'.length c']) (by simp [results, Tryd.results54, go_sem, q0, q1]) rfl ⟨bs', _, ls', rfl, ?_⟩
        have T7 := T6.out
        have g1 : wc.grownBy (wc.setCell ⟨w.heap.size, 0, none⟩ (.int .i64 bs')) (some w.heap.size) := grown_put _ _ _ _
        have g2 : wc.grownBy ((wc.setCell ⟨w.heap.size, 0, none⟩ (.int .i64 bs')).setCell ⟨w.heap.size, 1, none⟩ (.slice A' ls'.length c')) (some w.heap.size) := grown_then g1 (grown_put _ _ _ _)
        have o2 := T7.own.far g2 (fun q hq e => by injection e with e; have := (World.ownsRow.lt T7.own q hq).1; omega)
        refine ⟨⟨o2.1, ?_⟩, hl', hb0', hb1', (T7.rd.far hR g2).mono (by omega), ?_, HOk'.out⟩
        · rcases o2.2 with h | ⟨g, cap, cur, h1, h2, h3⟩
          · exact .inl h
          · exact .inr ⟨g, cap, cur, h1, by omega, h3⟩
        · exact ⟨g2.os.trans T7.grown.os, g2.tape.trans T7.grown.tape, g2.output.trans T7.grown.output, Nat.le_trans T7.grown.size g2.size, fun k hk hne => (g2.block k (by have := T7.grown.size; omega) (by simp; omega)).trans (T7.grown.block k hk hne)⟩
theorem net_any (R : Nat) (n : Int) (lim : Int) (hlim : lim ≤ 900000) (hn : n ≤ 1000) (w : World) (hR : R < w.heap.size) (hr : Rd w R lim) :
    Calls Tryd.prog 54 #[.pointer (some ⟨R, 0, none⟩), .int .i64 n] w fun e w' => ∃ bs v ls, e = .returned (.agg #[.int .i64 bs, v]) ∧ OwnL w' (w.heap.size + 1) v ls ∧ ls.length ≤ 12 ∧ -1 ≤ bs ∧ bs ≤ 9 ∧ Rd w' R (lim + 100) ∧ w.grownBy w' (some R) :=
  (net_full R n lim hlim hn w hR hr).mono fun _ _ ⟨bs, v, ls, h1, h2, h3, h4, h5, h6, h7, _⟩ => ⟨bs, v, ls, h1, h2, h3, h4, h5, h6, h7⟩
end Go.Proofs.YtfedffekbemcoaaDoor
