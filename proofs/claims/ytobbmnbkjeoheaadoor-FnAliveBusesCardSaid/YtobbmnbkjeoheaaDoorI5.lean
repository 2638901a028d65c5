/- Reached and SameIsland, of the program. -/
import Derived.Test.YtobbmnbkjeoheaaDoorI4
namespace Go.Proofs.YtobbmnbkjeoheaaDoor
open Go.ChangeShapes Go.WideShapes Go.ChangeAt Go.RowKit

theorem OwnI.sl {e : TypeId} {w : World} {base : Nat} {v : Value} {zs : List Int} (h : OwnI e w base v zs) : ∃ A c, v = .slice A zs.length c ∧ RowZ w A zs.length zs := by
  rcases h.2 with ⟨rfl, h0⟩ | ⟨g, cap, cur, rfl, hb, hg, hn, hc, hsz, ht⟩
  · exact ⟨none, 0, by rw [h0], by
      have hz : zs = [] := List.eq_nil_of_length_eq_zero h0
      subst hz; exact RowZ.none_⟩
  · exact ⟨_, cap, rfl, OwnI.rowZ h⟩
theorem OwnI.more {e : TypeId} {w : World} {base base' : Nat} {v : Value} {zs : List Int} (h : OwnI e w base v zs) (hb : base' ≤ base) : OwnI e w base' v zs := by
  refine ⟨h.1, ?_⟩
  rcases h.2 with h2 | ⟨g, cap, cur, h1, h2, h3⟩
  · exact .inl h2
  · exact .inr ⟨g, cap, cur, h1, Nat.le_trans hb h2, h3⟩
theorem RowZ.keepB {w w' : World} {A : Option Addr} {n : Nat} {zs : List Int} (h : RowZ w A n zs) (hb : Below w.heap.size w w') : RowZ w' A n zs := h.below hb
theorem least_beq (es : List E2) (a b : Nat) : (((leastF es a : Nat) : Int) == ((leastF es b : Nat) : Int)) = connB es a b := by
  rw [Bool.eq_iff_iff, beq_iff_eq, connB_iff, ← leastF_eq]; omega
theorem rchTo_next (es : List E2) (bus k : Nat) : ofN (rchTo es bus (k + 1)) = ofN (rchTo es bus k) ++ (if connB es bus k = true then [(k : Int)] else []) := by
  cases h : connB es bus k
  · rw [rchTo_no h]; simp
  · rw [rchTo_yes h]; simp [ofN]

set_option maxRecDepth 100000 in
set_option maxHeartbeats 400000 in
theorem rch_any (bs : Int) (A : Option Addr) (n c : Nat) (ls : List L3) (B : Option Addr) (m d : Nat) (ts : List Bool) (bus : Int) (w : World) (hn : n ≤ 1048576) (hr : RowL w A n ls) (hm : m ≤ 1048576) (hrt : RowT w B m ts) :
    Calls Tryd.prog 49 #[.agg #[.int .i64 bs, .slice A n c], .slice B m d, .int .i64 bus] w fun e w' => ∃ v, e = .returned v ∧ OwnI 3 w' w.heap.size v (rchF bs ls ts bus) ∧ Below w.heap.size w w' := by
  obtain ⟨i0, hi, hz0, hz1, hz2⟩ := info_parts intInfo6
  have HI := Lib.hid hi
  have HR := Lib.hid hr
  have HT := Lib.hid hrt
  have HL := Lib.hid hrt.len
  clear hr hrt hi
  go_enter Tryd.func49, Tryd.ntmps49
  go_wp2_with fail
  refine (isl_any bs _ n c ls _ m d ts _ hn (HR.out.below (below_bx w _)) hm (HT.out.below (below_bx w _))).mono ?_
  rintro e w1 ⟨v, rfl, hO, hb1⟩
  have a1 : Below w.heap.size w w1 := (below_bx w _).trans (hb1.mono (by simp))
  obtain ⟨A1, c1, rfl, hz⟩ := hO.sl
  have HZ := Lib.hid hz
  clear hz hO
  by_cases hs : stOk bs ls m = true
  · have hbs := stOk_bs hs
    obtain ⟨nb, rfl⟩ := Int.eq_ofNat_of_zero_le (show 0 ≤ bs by omega)
    have hnb : nb ≤ 8 := by omega
    have HF := Lib.hid (show islF nb ls ts = ofN (islL (edgesOn ls ts) nb) by rw [islF, HL.out, if_pos hs]; rfl)
    have hlen : (islF nb ls ts).length = nb := by rw [HF.out, ofN_len, islL_len]
    rw [hlen] at HZ ⊢
    clear hlen
    by_cases hin : inB bus 0 ((nb : Int) - 1) = true
    · have hin2 := hin
      simp [inB] at hin2
      obtain ⟨a, rfl⟩ := Int.eq_ofNat_of_zero_le hin2.1
      have ha : a < nb := by omega
      have HA := Lib.hid (show rchF nb ls ts a = ofN (rchTo (edgesOn ls ts) a nb) by rw [rchF, HL.out, if_pos ⟨hs, hin⟩, rchTo_all]; rfl)
      have HIN := Lib.hid hin
      clear hin hin2 hs
      go_wp2_with fail
      refine (within_any _ _ _ _).mono ?_
      rintro e w' ⟨rfl, rfl⟩
      rw [HIN.out]
      go_wp2
      have q0 : (0 : Int) ≤ (a : Int) := by omega
      have q1 : (a : Int) < (nb : Int) := by omega
      go_loopw [8, 22] (fun v i wr => ∃ k : Nat, k ≤ nb ∧ i = .int .i64 k ∧ OwnI 3 wr w1.heap.size v (ofN (rchTo (edgesOn ls ts) a k)) ∧ Below w1.heap.size w1 wr) (fun _ i _ => nb - (intOf i).toNat)
      case atStart => exact ⟨0, by omega, rfl, World.ownsRow_nil _ _ _ _, Below.refl _ _⟩
      case round =>
        obtain ⟨k, hk, rfl, hown, hbel⟩ := hrel
        have HO := Lib.hid hown
        clear hown
        by_cases hlt : k < nb
        · obtain ⟨b, off, x, rfl, hb, hkx, g0⟩ := HZ.out.at_ hlt
          obtain ⟨b2, off2, y, hA, hb2, hay, g1⟩ := HZ.out.at_ ha
          injection hA with hA
          obtain ⟨rfl, rfl⟩ : b = b2 ∧ off = off2 := by injection hA with e1 e2; exact ⟨e1, e2⟩
          rw [← hbel.cell (p := ⟨b, off + k, none⟩) hb] at g0
          rw [← hbel.cell (p := ⟨b, off + a, none⟩) hb] at g1
          rw [HF.out, ofN_get (islL_get hlt)] at hkx
          rw [HF.out, ofN_get (islL_get ha)] at hay
          injection hkx with hkx
          injection hay with hay
          subst hkx hay
          have hc := least_beq (edgesOn ls ts) k a
          rw [connB_symm] at hc
          have HN := Lib.hid (rchTo_next (edgesOn ls ts) a k)
          have hle := rchTo_len (edgesOn ls ts) a k
          have hle2 : (ofN (rchTo (edgesOn ls ts) a k)).length ≤ k := by rw [ofN_len]; exact hle
          have hzw := hbel.size
          clear hA hle
          cases hcb : connB (edgesOn ls ts) a k
          · rw [hcb] at hc HN
            clear hcb
            go_wp2
            go_roundw
            case rel => exact ⟨k + 1, by omega, by go_num, by rw [HN.out]; simpa using HO.out, hbel⟩
            case measure => simp [intOf]; omega
          · rw [hcb] at hc HN
            clear hcb
            go_wp2_with (
              at_builtin
              refine wpList_append_own _ rfl _ _ _ rfl w1.heap.size 3 i0 (.int .i64 0) 1 8 Tryd.underlying42 HI.out hz0 hz1 hz2 rfl (by decide) _ _ _ rfl (World.ownsRow.alloc HO.out _) ⟨wr.heap.size, 0, none⟩ 1 1 [.int .i64 (k : Int)] rfl rfl ?c1 ?c2 ?c3 ?c4 ?c5 ?_
              case c1 => exact cell_one_new _ _ _
              case c2 => intro u hu; simp at hu; subst hu; rfl
              case c3 => simp only [maxLen]; omega
              case c4 => omega
              case c5 => have := hbel.size; simp; omega
              intro v' w3 hown' hgrow _
              have hb3 : Below w1.heap.size w1 w3 := (hbel.alloc hbel.size _).grown hgrow (by have := hbel.size; simp; omega) (fun q hq => (World.ownsRow.lt HO.out q hq).1))
            go_roundw
            case rel => exact ⟨k + 1, by omega, by go_num, by rw [HN.out]; simpa [OwnI] using hown', hb3⟩
            case measure => simp [intOf]; omega
        · go_wp2
          go_ret
          obtain rfl : k = nb := by omega
          exact ⟨_, rfl, by rw [HA.out]; exact OwnI.more HO.out (by have := a1.size; omega), a1.trans (hbel.mono a1.size)⟩
    · have HA := Lib.hid (show rchF nb ls ts bus = [] by rw [rchF, HL.out, if_neg (by rintro ⟨_, h⟩; exact hin h)])
      rw [Bool.not_eq_true] at hin
      have HIN := Lib.hid hin
      clear hin hs
      go_wp2_with fail
      refine (within_any _ _ _ _).mono ?_
      rintro e w' ⟨rfl, rfl⟩
      rw [HIN.out]
      go_wp2
      go_ret
      exact ⟨_, rfl, by rw [HA.out]; exact OwnI.nil, a1⟩
  · have hs' : stOk bs ls m = false := by rwa [Bool.not_eq_true] at hs
    have HF := Lib.hid (show islF bs ls ts = [] by rw [islF, HL.out, if_neg (by rw [hs']; decide)])
    have HA := Lib.hid (show rchF bs ls ts bus = [] by rw [rchF, HL.out, if_neg (by rintro ⟨h, _⟩; rw [hs'] at h; cases h)])
    have hlen : (islF bs ls ts).length = 0 := by rw [HF.out]; rfl
    rw [hlen] at HZ ⊢
    have HIN := Lib.hid (show inB bus 0 (-1) = false by rw [Bool.eq_false_iff]; intro h; simp [inB] at h; omega)
    clear hs hs' hlen
    go_wp2_with fail
    refine (within_any _ _ _ _).mono ?_
    rintro e w' ⟨rfl, rfl⟩
    rw [HIN.out]
    go_wp2
    go_ret
    exact ⟨_, rfl, by rw [HA.out]; exact OwnI.nil, a1⟩
end Go.Proofs.YtobbmnbkjeoheaaDoor
