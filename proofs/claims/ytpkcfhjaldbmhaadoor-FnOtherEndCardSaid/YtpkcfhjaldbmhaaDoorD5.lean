/- FnLineBetween: lines have no direction: the walk. -/
import Derived.Test.YtpkcfhjaldbmhaaDoorD3
import Derived.Test.YtpkcfhjaldbmhaaDoorD4
import Derived.OpenShut
namespace Go.Proofs.YtpkcfhjaldbmhaaDoor
open Go.ChangeShapes Go.WideShapes Go.ChangeAt Go.RowKit

theorem rowB_of_ints {W : World} {x : Addr} {n c : Nat} {zs : List Int} (hl : n ≤ c) (hz : zs.length = c) (hcell : ∀ i, i < zs.length → W.cell? (x.add i) = some (.int .u8 (zs.getD i 0))) (hwz : ∀ z ∈ zs, (Lit.int .u8 z).wf = true) : RowB W (some x) n (zs.take n) := by
  refine ⟨by rw [List.length_take]; omega, fun hp => ?_, fun z hzm => ?_⟩
  · obtain ⟨b, off, spot⟩ := x
    have h0 := hcell 0 (by omega)
    have hspot : spot = none := by simpa [Addr.add] using World.cell?_spot h0
    subst hspot
    refine ⟨b, off, rfl, ?_, fun k y hk => ?_⟩
    · have := World.block_lt_of_cell? W _ h0
      simpa [Addr.add] using this
    · have hkn : k < n := by
        rw [List.getElem?_take] at hk
        by_cases h : k < n
        · exact h
        · rw [if_neg h] at hk; cases hk
      rw [List.getElem?_take_of_lt hkn] at hk
      have hkl := (List.getElem?_eq_some_iff.1 hk).1
      have h1 := hcell k hkl
      have e : (Addr.mk b off none).add k = ⟨b, off + k, none⟩ := by unfold Addr.add; split <;> simp_all
      rw [e, List.getD_eq_getElem?_getD, hk] at h1
      exact h1
  · have := hwz z (List.mem_of_mem_take hzm)
    exact bounds_u8 this

theorem joins_comm (a b : Int) (l : L3) : joins a b l = joins b a l := by
  rw [Bool.eq_iff_iff]; simp only [joins, Bool.or_eq_true, Bool.and_eq_true, beq_iff_eq]; omega
theorem between_comm (bs : Int) (ls : List L3) (a b : Int) : betweenF bs ls b a = betweenF bs ls a b := by
  rw [betweenF, betweenF, show joins b a = joins a b from funext fun l => (joins_comm a b l).symm]
theorem between_cases (bs : Int) (ls : List L3) (a b : Int) : betweenF bs ls a b = -1 ∨ ∃ (k : Nat) (l : L3), betweenF bs ls a b = (k : Int) ∧ netOk bs ls = true ∧ ls[k]? = some l ∧ joins a b l = true ∧ ∀ j, j < k → ∀ x, ls[j]? = some x → joins a b x = false := by
  rw [betweenF]
  by_cases hv : netOk bs ls = true
  · rw [if_pos hv, firstF]
    rcases hf : ls.findIdx? (joins a b) with _ | k
    · exact .inl rfl
    · rw [List.findIdx?_eq_some_iff_getElem] at hf
      obtain ⟨hlt, hp, hb⟩ := hf
      refine .inr ⟨k, ls[k], rfl, hv, List.getElem?_eq_getElem hlt, hp, fun j hj x hx => ?_⟩
      have := hb j hj
      obtain ⟨hjl, he⟩ := List.getElem?_eq_some_iff.1 hx
      rw [he] at this; simpa using this
  · rw [if_neg hv]; exact .inl rfl
theorem other_of {bs : Int} {ls : List L3} {k : Nat} {l : L3} (hv : netOk bs ls = true) (hk : ls[k]? = some l) (a : Int) : otherF bs ls (k : Int) a = if l.1 = a then l.2.1 else if l.2.1 = a then l.1 else -1 := by
  have hlt := (List.getElem?_eq_some_iff.1 hk).1
  have hgd : ls.getD k (0, 0, 0) = l := by rw [List.getD_eq_getElem?_getD, hk]; rfl
  simp only [otherF, Int.toNat_natCast, hgd]
  rw [if_pos ⟨hv, by omega, by omega⟩]
theorem other_joins {bs : Int} {ls : List L3} {k : Nat} {l : L3} (hv : netOk bs ls = true) (hk : ls[k]? = some l) {a b : Int} (hj : joins a b l = true) : otherF bs ls (k : Int) a = b := by
  have hne := lineOk_ne (netOk_line hv hk)
  rw [other_of hv hk]
  simp only [joins, Bool.or_eq_true, Bool.and_eq_true, beq_iff_eq] at hj
  split
  · omega
  · split <;> omega
theorem other_not {bs : Int} {ls : List L3} {k : Nat} {l : L3} (hv : netOk bs ls = true) (hk : ls[k]? = some l) {a b : Int} (hb : 0 ≤ b) (hj : joins a b l = false) : (otherF bs ls (k : Int) a == b) = false := by
  rw [other_of hv hk, beq_eq_false_iff_ne]
  have hj' : ¬ (joins a b l = true) := by rw [hj]; simp
  simp only [joins, Bool.or_eq_true, Bool.and_eq_true, beq_iff_eq] at hj'
  split
  · omega
  · split <;> omega

set_option maxHeartbeats 1000000 in
theorem lineBetween_walk (A : Option Addr) (n c : Nat) (code : List Int) (w : World) (hr : RowB w A n code) (hnc : n ≤ c) (hc : c ≤ 9223372036854775807) :
    Calls Tryd.prog 6 #[.slice A n c] w fun e w' => e = .returned (.bool true) ∧ Below w.heap.size w w' := by
  by_cases hlen : n ≤ 1048576
  · go_enter Tryd.func6, Tryd.ntmps6
    go_wp2_with fail
    refine (drawLineBetween_any A n c code _ hr hnc hc).mono ?_
    rintro e w1 ⟨bs, A1, c1, ls, a, b, rfl, hrow, hl, hb0, a1⟩
    have HR1 := Lib.hid (hrow.below (below_bx w1 (.cells #[.int .i64 bs, .slice A1 ls.length c1] 25)))
    have k1 := Lib.hid (IsBlk.new w1 25 #[.int .i64 bs, .slice A1 ls.length c1])
    have b1 : Below w.heap.size w (w1.alloc (.cells #[.int .i64 bs, .slice A1 ls.length c1] 25)) := a1.alloc a1.size _
    clear hrow hr
    generalize hlen' : ls.length = m at *
    clear hlen'
    rcases between_cases bs ls a b with hB | ⟨k, l, hB, hv, hk, hj, hno⟩
    · have HB := Lib.hid hB
      have HC := Lib.hid ((between_comm bs ls a b).trans hB)
      clear hB
      go_wp2_with fail
      refine (lineBetween_any bs A1 m c1 ls a b _ (by omega) HR1.out).mono ?_
      rintro e w2 ⟨rfl, hb2⟩
      rw [HB.out]
      have b2 : Below w.heap.size w w2 := b1.trans (hb2.mono b1.size)
      have HR2 := Lib.hid (HR1.out.below hb2)
      have k2 := Lib.hid (k1.out.keep hb2)
      obtain ⟨p0, p1, _, _⟩ := k2.out.two
      clear b1
      go_wp2_with fail
      refine (specLineBetween_any bs A1 m c1 ls a b _ (by omega) HR2.out).mono ?_
      rintro e w3 ⟨rfl, hb3⟩
      rw [HB.out]
      have b3 : Below w.heap.size w w3 := b2.trans (hb3.mono b2.size)
      have HR3 := Lib.hid (HR2.out.below hb3)
      have k3 := Lib.hid (k2.out.keep hb3)
      clear p0 p1
      obtain ⟨p0, p1, _, _⟩ := k3.out.two
      go_wp2_with fail
      refine (lineBetween_any bs A1 m c1 ls b a _ (by omega) HR3.out).mono ?_
      rintro e w4 ⟨rfl, hb4⟩
      rw [HC.out]
      have b4 : Below w.heap.size w w4 := b3.trans (hb4.mono b3.size)
      go_wp2_with fail
      refine (alive_any _).mono ?_
      rintro e w5 ⟨rfl, hb5⟩
      go_wp2
      go_ret
      exact ⟨rfl, b4.trans (hb5.mono b4.size)⟩
    · have HB := Lib.hid hB
      have HC := Lib.hid ((between_comm bs ls a b).trans hB)
      have hkm : k < m := by have := (List.getElem?_eq_some_iff.1 hk).1; have := HR1.out.1; omega
      have HO := Lib.hid (other_joins hv hk hj)
      have HN := Lib.hid (fun j (hj2 : j < k) => (show (otherF bs ls (j : Int) a == b) = false from other_not hv (List.getElem?_eq_getElem (by have := HR1.out.1; omega)) hb0 (hno j hj2 _ (List.getElem?_eq_getElem (by have := HR1.out.1; omega)))))
      clear hB hv hk hj hno
      go_wp2_with fail
      refine (lineBetween_any bs A1 m c1 ls a b _ (by omega) HR1.out).mono ?_
      rintro e w2 ⟨rfl, hb2⟩
      rw [HB.out]
      have b2 : Below w.heap.size w w2 := b1.trans (hb2.mono b1.size)
      have HR2 := Lib.hid (HR1.out.below hb2)
      have k2 := Lib.hid (k1.out.keep hb2)
      obtain ⟨p0, p1, _, _⟩ := k2.out.two
      clear b1
      go_wp2_with fail
      refine (specLineBetween_any bs A1 m c1 ls a b _ (by omega) HR2.out).mono ?_
      rintro e w3 ⟨rfl, hb3⟩
      rw [HB.out]
      have b3 : Below w.heap.size w w3 := b2.trans (hb3.mono b2.size)
      have HR3 := Lib.hid (HR2.out.below hb3)
      have k3 := Lib.hid (k2.out.keep hb3)
      clear p0 p1
      obtain ⟨p0, p1, _, _⟩ := k3.out.two
      have hk0 : ¬ ((k : Int) < 0) := by omega
      go_wp2_with fail
      go_loopw [7] (fun i wr => ∃ j : Nat, j ≤ k ∧ i = .int .i64 j ∧ Below w.heap.size w wr ∧ RowL wr A1 m ls ∧ IsBlk wr w1.heap.size 25 #[.int .i64 bs, .slice A1 m c1]) (fun i _ => k - (intOf i).toNat)
      case atStart => exact ⟨0, by omega, rfl, b3, HR3.out, k3.out⟩
      case round =>
        obtain ⟨j, hj, rfl, hbel, hrow, hblk⟩ := hrel
        have HR4 := Lib.hid hrow
        have k4 := Lib.hid hblk
        clear hrow hblk p0 p1
        obtain ⟨p0, p1, _, _⟩ := k4.out.two
        by_cases hlt : j < k
        · have HN2 := Lib.hid (HN.out j hlt)
          go_wp2_with fail
          refine (otherEnd_any bs A1 m c1 ls j a _ (by omega) HR4.out).mono ?_
          rintro e w4 ⟨rfl, hb4⟩
          have hn2 := HN2.out
          generalize otherF bs ls (j : Int) a = y at *
          go_wp2
          go_roundw
          case rel => exact ⟨j + 1, by omega, by go_num, hbel.trans (hb4.mono hbel.size), HR4.out.below hb4, k4.out.keep hb4⟩
          case measure => simp [intOf]; omega
        · obtain rfl : j = k := by omega
          go_wp2_with fail
          refine (lineBetween_any bs A1 m c1 ls b a _ (by omega) HR4.out).mono ?_
          rintro e w4 ⟨rfl, hb4⟩
          rw [HC.out]
          have b4 : Below w.heap.size w w4 := hbel.trans (hb4.mono hbel.size)
          have HR5 := Lib.hid (HR4.out.below hb4)
          have k5 := Lib.hid (k4.out.keep hb4)
          clear p0 p1
          obtain ⟨p0, p1, _, _⟩ := k5.out.two
          go_wp2_with fail
          refine (otherEnd_any bs A1 m c1 ls j a _ (by omega) HR5.out).mono ?_
          rintro e w5 ⟨rfl, hb5⟩
          rw [HO.out]
          go_wp2
          go_ret
          exact ⟨rfl, b4.trans (hb5.mono b4.size)⟩
  · have hl2 : (1048576 : Int) < (n : Int) := by omega
    go_enter Tryd.func6, Tryd.ntmps6
    go_wp2
    go_ret
    exact ⟨rfl, Below.refl _ _⟩
end Go.Proofs.YtpkcfhjaldbmhaaDoor
