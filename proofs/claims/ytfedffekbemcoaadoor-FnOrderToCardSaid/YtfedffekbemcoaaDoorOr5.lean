/- Switching orders: OrderTo, of the model. -/
import Derived.Test.YtfedffekbemcoaaDoorOr3
import Derived.Test.YtfedffekbemcoaaDoorB7
import Derived.RegionTactic
namespace Go.Proofs.YtfedffekbemcoaaDoor
open Go.ChangeShapes Go.WideShapes Go.ChangeAt Go.RowKit

/-- A list of steps in the making beside a row of numbers that is read. -/
structure OneSt (w wr : World) (v : Value) (us : List TP) (Z : Option Addr) (zs : List Int) : Prop where
  own : OwnP wr w.heap.size v us
  row : RowZ wr Z zs.length zs
  ne : ∀ b off, Z = some ⟨b, off, none⟩ → b < wr.heap.size ∧ v.ownBlock ≠ some b
  bel : Below w.heap.size w wr
theorem OneSt.push {w wr w' : World} {v v' : Value} {us us' : List TP} {Z : Option Addr} {zs : List Int} (h : OneSt w wr v us Z zs) (o : Obj) (hv : OwnP w' w.heap.size v' us') (hg : (wr.alloc o).grownBy w' v.ownBlock) (hat : v'.ownBlock = v.ownBlock ∨ v'.ownBlock = some (wr.alloc o).heap.size) : OneSt w w' v' us' Z zs := by
  have hg2 := grown_low h.own hg
  refine ⟨hv, RowV.grown h.row hg2 (fun b off e => (h.ne b off e).2), fun b off e => ⟨Nat.lt_of_lt_of_le (h.ne b off e).1 hg2.size, fun e2 => ?_⟩, h.bel.grown hg2 h.bel.size (fun q hq => (h.own.lt q hq).1)⟩
  rcases hat with h1 | h1
  · exact (h.ne b off e).2 (h1 ▸ e2)
  · rw [h1] at e2; injection e2 with e2; have := (h.ne b off e).1; simp at e2; omega

set_option maxRecDepth 100000 in
set_option maxHeartbeats 4000000 in
theorem specOrderTo_any (A : Option Addr) (n c : Nat) (xs : List Bool) (B : Option Addr) (m d : Nat) (ys : List Bool) (w : World) (hn : n ≤ 1048576) (hr : RowT w A n xs) (hm : m ≤ 1048576) (hr' : RowT w B m ys) :
    Calls Tryd.prog 24 #[.slice A n c, .slice B m d] w fun e w' => ∃ v, e = .returned v ∧ OwnP w' w.heap.size v (toO xs ys) ∧ Below w.heap.size w w' := by
  have b0 := below_bx w (.cells #[] 27)
  have O0 := Lib.hid (ownP_lit w)
  have HX := Lib.hid hr
  have HY := Lib.hid hr'
  have HLX := Lib.hid hr.len
  have HLY := Lib.hid hr'.len
  have HX0 := hr.below b0
  have HY0 := hr'.below b0
  clear hr hr'
  have HF := Lib.hid (show toO xs ys = if n ≤ 10 then offL ys (chF xs ys) ++ onL ys (chF xs ys) else [] by rw [toO, HLX.out])
  have HAt := Lib.hid (fun z (h : z ∈ chF xs ys) => chF_at h)
  have HCL := Lib.hid (chF_len xs ys)
  generalize toO xs ys = res at *
  go_enter Tryd.func24, Tryd.ntmps24
  go_wp2_with fail
  refine (specChanges_any A n c xs B m d ys _ hn HX0 hm HY0).mono ?_
  rintro e w1 ⟨v, rfl, hO, hb1⟩
  obtain ⟨Z, cz, rfl, hz⟩ := OwnI.formR hO
  have hb1' := b0.trans (hb1.mono b0.size)
  have S0 := Lib.hid (show OneSt w w1 (.slice (some ⟨w.heap.size, 0, none⟩) 0 0) [] Z (chF xs ys) from
    ⟨O0.out.keep hb1, hz, fun b off e => by have := OwnI.lt hO b (by rw [e]; rfl); exact ⟨this.2, fun e2 => by have e3 : w.heap.size = b := Option.some.inj e2; have := this.1; rw [World.size_alloc] at this; omega⟩, hb1'⟩)
  clear hO hz hb1 HX0 HY0 b0 O0 hb1'
  generalize chF xs ys = zs at *
  by_cases h10 : n ≤ 10
  rotate_left
  · have h10' : (10 : Int) < (n : Int) := by omega
    rw [if_neg h10] at HF
    go_wp2
    go_ret
    exact ⟨_, rfl, by rw [HF.out]; exact S0.out.own, S0.out.bel⟩
  have h10' : ¬ (10 : Int) < (n : Int) := by omega
  rw [if_pos h10] at HF
  have hzl : zs.length ≤ 10 := by have := HCL.out; have := HLX.out; omega
  go_wp2
  go_loopw [5, 7] (fun v i wr => ∃ k : Nat, k ≤ zs.length ∧ i = .int .i64 (k : Int) ∧ OneSt w wr v (offL ys (zs.take k)) Z zs) (fun _ i _ => zs.length - (intOf i).toNat)
  case atStart => exact ⟨0, by omega, rfl, S0.out⟩
  case round =>
    obtain ⟨k, hk, rfl, hst⟩ := hrel
    have S := Lib.hid hst
    clear hst
    by_cases hlt : k < zs.length
    · obtain ⟨b, off, z, rfl, hb, hkz, g0⟩ := S.out.row.at_ hlt
      obtain ⟨hxy, j, rfl, hj, hne⟩ := HAt.out z (List.mem_of_getElem? hkz)
      have hjn : j < n := by have := HLX.out; omega
      obtain ⟨b', off', t, rfl, hb', hjt, g1⟩ := HX.out.at_ hjn
      rw [← S.out.bel.cell (p := ⟨b', off' + j, none⟩) hb'] at g1
      have ht : onB ys (j : Int) = !t := by
        rw [onB, Int.toNat_natCast]
        rw [List.getD_eq_getElem?_getD, hjt] at hne
        revert hne
        cases ys.getD j false <;> cases t <;> simp
      have HT1 := Lib.hid (take_snoc hkz)
      have hl1 := offL_len ys (zs.take k)
      rw [List.length_take] at hl1
      have L1 := Lib.hid (show (offL ys (zs.take k)).length ≤ 10 by omega)
      have ho := offL_snoc ys (zs.take k) (j : Int)
      rw [ht, ← HT1.out] at ho
      have HO := Lib.hid ho
      clear hkz hjt ht hl1 ho hxy hj HT1 hne
      generalize offL ys (zs.take k) = us at *
      have hjn' : (j : Int) < (n : Int) := by omega
      cases t
      · go_wp2
        go_roundw
        case rel =>
          refine ⟨k + 1, by omega, by go_num, ?_⟩
          have h := S.out
          rw [HO.out]; exact h
        case measure => simp [intOf]; omega
      · go_wp2_with (
          at_builtin
          refine wpList_append_step rfl (.tmp 30) (.tmp 36) rfl w.heap.size wr.heap.size _ us ((j : Int), false) rfl rfl (S.out.own.alloc _) (newP wr ((j : Int), false) _) (by have := L1.out; omega) (by have := S.out.bel.size; simp; omega) ?_
          intro v' w8 hown hgrow hat
          have S2 := Lib.hid (S.out.push _ hown hgrow hat))
        go_roundw
        case rel =>
          refine ⟨k + 1, by omega, by go_num, ?_⟩
          have h := S2.out
          rw [HO.out]; exact h
        case measure => simp [intOf]; omega
    · obtain rfl : k = zs.length := by omega
      rw [List.take_length] at S
      have L0 := Lib.hid (toO_len2 ys zs)
      generalize offL ys zs = xs1 at *
      go_wp2
      go_loopw [5, 8] (fun v i wr => ∃ k : Nat, k ≤ zs.length ∧ i = .int .i64 (k : Int) ∧ OneSt w wr v (xs1 ++ onL ys (zs.take k)) Z zs) (fun _ i _ => zs.length - (intOf i).toNat)
      case atStart => exact ⟨0, by omega, rfl, by simpa [onL] using S.out⟩
      case round =>
        obtain ⟨k, hk, rfl, hst⟩ := hrel
        have S := Lib.hid hst
        clear hst
        by_cases hlt : k < zs.length
        · obtain ⟨b, off, z, rfl, hb, hkz, g0⟩ := S.out.row.at_ hlt
          obtain ⟨hxy, j, rfl, hj, hne⟩ := HAt.out z (List.mem_of_getElem? hkz)
          have hjm : j < m := by have := HLY.out; omega
          obtain ⟨b', off', t, rfl, hb', hjt, g1⟩ := HY.out.at_ hjm
          rw [← S.out.bel.cell (p := ⟨b', off' + j, none⟩) hb'] at g1
          have ht : onB ys (j : Int) = t := by rw [onB, Int.toNat_natCast, List.getD_eq_getElem?_getD, hjt]; rfl
          have HT1 := Lib.hid (take_snoc hkz)
          have hl1 := onL_len ys (zs.take k)
          rw [List.length_take] at hl1
          have L1 := Lib.hid (show (xs1 ++ onL ys (zs.take k)).length ≤ 20 by rw [List.length_append]; have := L0.out; omega)
          have ho := onL_snoc ys (zs.take k) (j : Int)
          rw [ht, ← HT1.out] at ho
          have HO := Lib.hid (show xs1 ++ onL ys (zs.take (k + 1)) = if t = true then (xs1 ++ onL ys (zs.take k)) ++ [((j : Int), true)] else xs1 ++ onL ys (zs.take k) by rw [ho]; cases t <;> simp)
          clear hkz hjt ht hl1 ho hxy hj HT1 hne
          generalize xs1 ++ onL ys (zs.take k) = us at *
          have hjm' : (j : Int) < (m : Int) := by omega
          cases t
          · go_wp2
            go_roundw
            case rel =>
              refine ⟨k + 1, by omega, by go_num, ?_⟩
              have h := S.out
              rw [HO.out]; exact h
            case measure => simp [intOf]; omega
          · go_wp2_with (
              at_builtin
              refine wpList_append_step rfl (.tmp 51) (.tmp 57) rfl w.heap.size wr.heap.size _ us ((j : Int), true) rfl rfl (S.out.own.alloc _) (newP wr ((j : Int), true) _) (by have := L1.out; omega) (by have := S.out.bel.size; simp; omega) ?_
              intro v' w8 hown hgrow hat
              have S2 := Lib.hid (S.out.push _ hown hgrow hat))
            go_roundw
            case rel =>
              refine ⟨k + 1, by omega, by go_num, ?_⟩
              have h := S2.out
              rw [HO.out]; exact h
            case measure => simp [intOf]; omega
        · obtain rfl : k = zs.length := by omega
          rw [List.take_length] at S
          go_wp2
          go_ret
          exact ⟨_, rfl, by rw [HF.out]; exact S.out.own, S.out.bel⟩
end Go.Proofs.YtfedffekbemcoaaDoor
