/- The drawing of inputs (the model's own): a reader of bytes; each draw stays in its range. -/
import Derived.Test.YtbhlkcnkijihcaaDoorChecked
import Derived.Test.YtbhlkcnkijihcaaDoorBPA
import Derived.ProofKit
import Derived.Deep.QuietTactic
import Derived.BigQuiet
import Derived.Deep.DeepCutAuto
import Derived.Outline
import Derived.Laws.BitsAllLaws
import Derived.Laws.BitsLemmas
namespace Go.Proofs.YtbhlkcnkijihcaaDoor
open Go.ChangeShapes Go.WideShapes Go.ChangeAt Go.RowKit

/-- A slice of bytes that is read. -/
def RowB (w : World) (A : Option Addr) (n : Nat) (bs : List Int) : Prop :=
  bs.length = n ∧ (0 < n → ∃ b off, A = some ⟨b, off, none⟩ ∧ b < w.heap.size ∧ ∀ k x, bs[k]? = some x → w.cell? ⟨b, off + k, none⟩ = some (.int .u8 x)) ∧ ∀ x ∈ bs, 0 ≤ x ∧ x ≤ 255
/-- A reader at block R: at most 2000 bytes, and so many draws at most. -/
def Rd (w : World) (R : Nat) (lim : Int) : Prop :=
  ∃ (A : Option Addr) (n c : Nat) (bs : List Int) (p : Int), RowB w A n bs ∧ n ≤ 2000 ∧ 0 ≤ p ∧ p ≤ lim ∧ IsBlk w R 83 #[.slice A n c, .int .i64 p] ∧ (0 < n → ∀ b off, A = some ⟨b, off, none⟩ → b < R)

theorem rd_step {w : World} {R m c : Nat} {lim : Int} {A : Option Addr} {bs : List Int} {k : Nat} (hr : RowB w A m bs) (hm : m ≤ 2000) (hk : (k : Int) ≤ lim) (hb : IsBlk w R 83 #[.slice A m c, .int .i64 k]) (hne : 0 < m → ∀ b off, A = some ⟨b, off, none⟩ → b < R) :
    Rd (w.setCell ⟨R, 1, none⟩ (.int .i64 ((k : Int) + 1))) R (lim + 1) ∧ w.grownBy (w.setCell ⟨R, 1, none⟩ (.int .i64 ((k : Int) + 1))) (some R) := by
  refine ⟨⟨A, m, c, bs, (k : Int) + 1, ⟨hr.1, fun h0 => ?_, hr.2.2⟩, hm, by omega, by omega, hb.put 1 _, hne⟩, grown_put _ _ _ _⟩
  obtain ⟨b, off, e, hlt, hc⟩ := hr.2.1 h0
  refine ⟨b, off, e, by simpa [World.setCell] using hlt, fun j x hj => ?_⟩
  rw [World.cell?_setCell_other _ _ _ _ (fun e2 => by have := hne h0 b off e; injection e2 with e3; omega)]
  exact hc j x hj
theorem emod_lt_of (x n : Int) (h0 : 0 ≤ x) (h1 : ¬ n < 1) : 0 ≤ x.tmod n ∧ x.tmod n < n := by
  rw [Int.tmod_eq_emod_of_nonneg h0]
  exact ⟨Int.emod_nonneg _ (by omega), Int.emod_lt_of_pos _ (by omega)⟩

theorem xor_pos (v : Int) (h0 : 0 ≤ v) (h1 : v ≤ 9223372036854775807) : 0 ≤ bits .xor .i64 v (v / 64) := by
  obtain ⟨a, rfl⟩ := Int.eq_ofNat_of_zero_le h0
  have e : ((a : Int) / 64) = ((a / 64 : Nat) : Int) := by omega
  rw [e]
  have ha : a < 2 ^ 63 := by omega
  have hx : a ^^^ (a / 64) < 2 ^ 63 := Nat.xor_lt_two_pow ha (by omega)
  have ea : a % 2 ^ 64 = a := by omega
  have eb : (a / 64) % 2 ^ 64 = a / 64 := by omega
  show 0 ≤ IntKind.i64.wrap ((BitVec.ofInt 64 (a : Int) ^^^ BitVec.ofInt 64 ((a / 64 : Nat) : Int)).toNat : Int)
  rw [BitVec.toNat_xor, BitVec.ofInt_natCast, BitVec.ofInt_natCast, BitVec.toNat_ofNat, BitVec.toNat_ofNat, ea, eb, IntWalk.i64_in _ (by omega)]
  omega

set_option maxRecDepth 100000 in
set_option maxHeartbeats 2000000 in
theorem pick_any (R : Nat) (n : Int) (lim : Int) (hlim : lim ≤ 1000000) (hn : n ≤ 1000000) (w : World) (hr : Rd w R lim) :
    Calls Tryd.prog 65 #[.pointer (some ⟨R, 0, none⟩), .int .i64 n] w fun e w' => ∃ v : Int, e = .returned (.int .i64 v) ∧ 0 ≤ v ∧ (1 ≤ n → v < n) ∧ (n < 1 → v = 0) ∧ Rd w' R (lim + 1) ∧ w.grownBy w' (some R) := by
  obtain ⟨A, m, c, bs, p, hrow, hm, hp0, hp1, hblk, hne⟩ := hr
  obtain ⟨k, rfl⟩ := Int.eq_ofNat_of_zero_le hp0
  obtain ⟨c0, c1, f0, f1⟩ := hblk.two
  have HR := Lib.hid hrow
  have HB := Lib.hid hblk
  have HE := Lib.hid hne
  clear hrow hblk hne
  by_cases hn1 : n < 1
  · go_enter Tryd.func65, Tryd.ntmps65
    go_wp2
    go_ret
    exact ⟨0, rfl, by omega, by omega, fun _ => rfl, (rd_step HR.out hm hp1 HB.out HE.out).1, (rd_step HR.out hm hp1 HB.out HE.out).2⟩
  · by_cases hm0 : m = 0
    · subst hm0
      go_enter Tryd.func65, Tryd.ntmps65
      go_wp2
      go_ret
      exact ⟨0, rfl, by omega, by omega, fun _ => rfl, (rd_step HR.out hm hp1 HB.out HE.out).1, (rd_step HR.out hm hp1 HB.out HE.out).2⟩
    · by_cases hkm : k < m
      · obtain ⟨b, off, rfl, hb, hc⟩ := HR.out.2.1 (by omega)
        have hkl : bs[k]? = some (bs[k]'(by have := HR.out.1; omega)) := List.getElem?_eq_getElem _
        have hx := HR.out.2.2 (bs[k]'(by have := HR.out.1; omega)) (List.getElem_mem _)
        generalize (bs[k]'(by have := HR.out.1; omega)) = x at hkl hx
        have g0 := hc k x hkl
        have hbR : b ≠ R := Nat.ne_of_lt (HE.out (by omega) b off rfl)
        clear hkl hc
        have HS := Lib.hid (World.cell?_setCell_other w ⟨R, 1, none⟩ ⟨b, off + k, none⟩ (.int .i64 ((k : Int) + 1)) (fun e => hbR (by injection e with e1; exact e1.symm)))
        have g1 := HS.out.trans g0
        go_enter Tryd.func65, Tryd.ntmps65
        go_wp2
        go_ret
        refine ⟨_, rfl, ?_, ?_, ?_, (rd_step HR.out hm hp1 HB.out HE.out).1, (rd_step HR.out hm hp1 HB.out HE.out).2⟩
        · exact Int.emod_nonneg _ (by omega)
        · exact Int.emod_lt_of_pos _ (by omega)
        · intro h; omega
      · have hm1 : 0 < m := by omega
        obtain ⟨b, off, rfl, hb, hc⟩ := HR.out.2.1 hm1
        have hbR : b ≠ R := Nat.ne_of_lt (HE.out (by omega) b off rfl)
        have hkm' : ¬ ((k : Int) < (m : Int)) := by omega
        have one : ∀ j, j < m → ∃ x, 0 ≤ x ∧ x ≤ 255 ∧ (w.setCell ⟨R, 1, none⟩ (.int .i64 ((k : Int) + 1))).cell? ⟨b, off + j, none⟩ = some (.int .u8 x) := by
          intro j hj
          have hl : j < bs.length := by have := HR.out.1; omega
          have hx := HR.out.2.2 (bs[j]'hl) (List.getElem_mem _)
          exact ⟨bs[j]'hl, hx.1, hx.2, (World.cell?_setCell_other w ⟨R, 1, none⟩ ⟨b, off + j, none⟩ _ (fun e => hbR (by injection e with e1; exact e1.symm))).trans (hc j _ (List.getElem?_eq_getElem hl))⟩
        obtain ⟨x, hx0, hx1, hxc⟩ := one (k % m) (Nat.mod_lt _ hm1)
        obtain ⟨y, hy0, hy1, hyc⟩ := one ((k * 7 + 3) % m) (Nat.mod_lt _ hm1)
        have t1 : ((k : Int)).tmod (m : Int) = ((k % m : Nat) : Int) := by rw [Int.tmod_eq_emod_of_nonneg (by omega)]; rfl
        have t2 : ((k : Int) * 7 + 3).tmod (m : Int) = (((k * 7 + 3) % m : Nat) : Int) := by rw [Int.tmod_eq_emod_of_nonneg (by omega)]; rfl
        have l1 : ((k % m : Nat) : Int) < (m : Int) := by have := Nat.mod_lt k hm1; omega
        have l2 : (((k * 7 + 3) % m : Nat) : Int) < (m : Int) := by have := Nat.mod_lt (k * 7 + 3) hm1; omega
        have l3 : (0 : Int) ≤ ((k % m : Nat) : Int) := Int.natCast_nonneg _
        have l4 : (0 : Int) ≤ (((k * 7 + 3) % m : Nat) : Int) := Int.natCast_nonneg _
        generalize k % m = i1 at *
        generalize (k * 7 + 3) % m = i2 at *
        have wk1 : IntKind.i64.wrap ((k : Int) * 7) = (k : Int) * 7 := by rw [IntKind.wrap_i64]; omega
        have wk2 : IntKind.i64.wrap ((k : Int) * 7 + 3) = (k : Int) * 7 + 3 := by rw [IntKind.wrap_i64]; omega
        have hmz : ((m : Int) == 0) = false := by simp; omega
        have T1 := Lib.hid t1
        have T2 := Lib.hid t2
        have K1 := Lib.hid wk1
        have K2 := Lib.hid wk2
        clear one hc t1 t2 wk1 wk2
        go_enter Tryd.func65, Tryd.ntmps65
        go_wp2
        go_cut [6] (fun s wx => (∃ v : Int, s = .int .i64 v ∧ 0 ≤ v ∧ v ≤ 9223372036854775807) ∧ ∃ nq, wx = (w.setCell ⟨R, 1, none⟩ (.int .i64 ((k : Int) + 1))).drewN nq)
        case first =>
          have t1 := T1.out
          have t2 := T2.out
          have wk1 := K1.out
          have wk2 := K2.out
          go_quiet (fail)
          clear t1 t2 wk1 wk2
          go_wp2_with fail
          go_meet
          refine ⟨⟨_, rfl, ?_⟩, _, rfl⟩
          have hq0 : 0 ≤ (k : Int) / (m : Int) := Int.ediv_nonneg (by omega) (by omega)
          have hq1 : (k : Int) / (m : Int) ≤ (k : Int) := Int.ediv_le_self _ (by omega)
          generalize (k : Int) / (m : Int) = q at *
          rw [IntWalk.wrap64_in q (by omega), IntWalk.wrap64_in (q * 53) (by omega), IntWalk.wrap64_in _ (by omega)]
          omega
        case rest =>
          obtain ⟨⟨v, rfl, hv0, hv1⟩, nq, rfl⟩ := hcut
          go_wp2
          go_ret
          have hx := xor_pos v hv0 hv1
          generalize bits BinOp.xor IntKind.i64 v (v / 64) = z at *
          have ht := emod_lt_of z n hx (by omega)
          have hst := rd_step HR.out hm hp1 HB.out HE.out
          exact ⟨_, rfl, ht.1, fun _ => ht.2, fun h => by omega, hst.1, hst.2.os, hst.2.tape, hst.2.output, hst.2.size, hst.2.block⟩

theorem Rd.mono {w : World} {R : Nat} {l l' : Int} (h : Rd w R l) (hl : l ≤ l') : Rd w R l' := by
  obtain ⟨A, n, c, bs, p, h1, h2, h3, h4, h5, h6⟩ := h
  exact ⟨A, n, c, bs, p, h1, h2, h3, by omega, h5, h6⟩
/-- What turns neither the reader's block nor an older one leaves the reader as it was. -/
theorem Rd.keep {w w' : World} {R : Nat} {l : Int} (h : Rd w R l) (hb : Below w.heap.size w w') : Rd w' R l := by
  obtain ⟨A, n, c, bs, p, ⟨h0, h1, h2⟩, h3, h4, h5, h6, h7⟩ := h
  refine ⟨A, n, c, bs, p, ⟨h0, fun hp => ?_, h2⟩, h3, h4, h5, h6.keep hb, h7⟩
  obtain ⟨b, off, e, hlt, hc⟩ := h1 hp
  exact ⟨b, off, e, Nat.lt_of_lt_of_le hlt hb.size, fun k x hk => (hb.cell (p := ⟨b, off + k, none⟩) hlt).trans (hc k x hk)⟩
/-- A store into a younger block leaves the reader as it was. -/
theorem Rd.far {w w' : World} {R X : Nat} {l : Int} (h : Rd w R l) (hX : R < X) (hg : w.grownBy w' (some X)) : Rd w' R l := by
  obtain ⟨A, n, c, bs, p, ⟨h0, h1, h2⟩, h3, h4, h5, h6, h7⟩ := h
  refine ⟨A, n, c, bs, p, ⟨h0, fun hp => ?_, h2⟩, h3, h4, h5, (hg.block _ h6.lt (by simp; omega)).trans h6, h7⟩
  obtain ⟨b, off, e, hlt, hc⟩ := h1 hp
  have hbR := h7 hp b off e
  exact ⟨b, off, e, Nat.lt_of_lt_of_le hlt hg.size, fun k x hk => (World.cell?_of_block (a := ⟨b, off + k, none⟩) (hg.block b hlt (by simp; omega))).trans (hc k x hk)⟩
theorem Rd.grown {w w' : World} {R : Nat} {l : Int} {row : Option Nat} (h : Rd w R l) (hg : w.grownBy w' row) (hrow : ∀ q, row = some q → R < q) : Rd w' R l := by
  rcases row with _ | q
  · exact h.keep ⟨hg.os, hg.tape, hg.output, hg.size, fun k hk => hg.block k hk (by simp)⟩
  · exact h.far (hrow q rfl) hg
theorem Rd.lt {w : World} {R : Nat} {l : Int} (h : Rd w R l) : R < w.heap.size := by
  obtain ⟨A, n, c, bs, p, h1, h2, h3, h4, h5, h6⟩ := h
  exact h5.lt
theorem Rd.alloc {w : World} {R : Nat} {l : Int} (h : Rd w R l) (o : Obj) : Rd (w.alloc o) R l := h.keep (below_bx w o)

theorem odd_any (R : Nat) (n : Int) (lim : Int) (hlim : lim ≤ 1000000) (hn : n ≤ 1000000) (w : World) (hr : Rd w R lim) :
    Calls Tryd.prog 89 #[.pointer (some ⟨R, 0, none⟩), .int .i64 n] w fun e w' => ∃ v : Bool, e = .returned (.bool v) ∧ (n ≤ 0 → v = false) ∧ Rd w' R (lim + 1) ∧ w.grownBy w' (some R) := by
  by_cases h0 : 0 < n
  · go_enter Tryd.func89, Tryd.ntmps89
    go_wp2_with fail
    refine (pick_any R n lim hlim hn _ hr).mono ?_
    rintro e w1 ⟨v, rfl, hv0, hv1, _, hr1, hg1⟩
    go_wp2
    go_ret
    exact ⟨_, rfl, by omega, hr1, hg1⟩
  · go_enter Tryd.func89, Tryd.ntmps89
    go_wp2_with fail
    go_ret
    first | exact ⟨_, rfl, fun _ => rfl, hr.mono (by omega), World.grownBy.refl _ _⟩ | exact ⟨rfl, hr.mono (by omega), World.grownBy.refl _ _⟩

theorem open_any (A : Option Addr) (n c : Nat) (bs : List Int) (w : World) (hr : RowB w A n bs) (hnc : n ≤ c) (hc : c ≤ 9223372036854775807) :
    Calls Tryd.prog 49 #[.slice A n c] w fun e w' => e = .returned (.pointer (some ⟨w.heap.size, 0, none⟩)) ∧ Below w.heap.size w w' ∧ Rd w' w.heap.size 0 ∧ w'.heap.size = w.heap.size + 1 := by
  have HR := Lib.hid hr
  have fin : ∀ (n' c' : Nat) (bs' : List Int), n' ≤ 2000 → RowB w A n' bs' → Below w.heap.size w (w.alloc (.cells #[.slice A n' c', .int .i64 0] 83)) ∧ Rd (w.alloc (.cells #[.slice A n' c', .int .i64 0] 83)) w.heap.size 0 := by
    intro n' c' bs' hn' hr'
    refine ⟨below_bx w _, A, n', c', bs', 0, ⟨hr'.1, fun hp => ?_, hr'.2.2⟩, hn', by omega, by omega, IsBlk.new w _ _, fun hp b off e => ?_⟩
    · obtain ⟨b, off, e, hlt, hcl⟩ := hr'.2.1 hp
      exact ⟨b, off, e, by simp; omega, fun k x hk => by rw [World.cell?_alloc_lt _ _ _ hlt]; exact hcl k x hk⟩
    · obtain ⟨b', off', e', hlt, _⟩ := hr'.2.1 hp
      rw [e'] at e; injection e with e; injection e with e1; omega
  by_cases h : n ≤ 2000
  · have HF := Lib.hid (fin n c bs h hr)
    clear fin hr
    go_enter Tryd.func49, Tryd.ntmps49
    go_wp2
    go_ret
    exact ⟨rfl, HF.out.1, HF.out.2, by simp⟩
  · obtain ⟨b, off, rfl, hlt, hcl⟩ := hr.2.1 (by omega)
    have hr2 : RowB w (some ⟨b, off, none⟩) 2000 (bs.take 2000) := by
      refine ⟨by rw [List.length_take]; have := hr.1; omega, fun _ => ⟨b, off, rfl, hlt, fun k x hk => ?_⟩, fun x hx => hr.2.2 x (List.mem_of_mem_take hx)⟩
      rw [List.getElem?_take] at hk
      split at hk
      · exact hcl k x hk
      · cases hk
    have HF := Lib.hid (fin 2000 c (bs.take 2000) (by omega) hr2)
    clear fin hr hr2 hcl
    go_enter Tryd.func49, Tryd.ntmps49
    go_wp2
    go_ret
    exact ⟨rfl, HF.out.1, HF.out.2, by simp⟩
end Go.Proofs.YtbhlkcnkijihcaaDoor
