/- Permits: who has a permit, of the program and of the model. -/
import Derived.Test.YtafgfhjlkdjngaaWk5
import Derived.Test.YtafgfhjlkdjngaaWk6
namespace Go.Proofs.Ytafgfhjlkdjngaa
open Go.ChangeShapes Go.WideShapes Go.ChangeAt Go.RowKit

theorem OwnI.moreW {e : TypeId} {w : World} {base base' : Nat} {v : Value} {zs : List Int} (h : OwnI e w base v zs) (hb : base' ≤ base) : OwnI e w base' v zs := by
  refine ⟨h.1, ?_⟩
  rcases h.2 with h | ⟨g, cap, cur, h1, h2, h3⟩
  · exact .inl h
  · exact .inr ⟨g, cap, cur, h1, Nat.le_trans hb h2, h3⟩
/-- A box that stays, beside a list of numbers in the making. -/
structure HeldSt (w wr : World) (cs : Array Value) (t : TypeId) (v : Value) (zs : List Int) : Prop where
  own : OwnI 3 wr (w.heap.size + 1) v zs
  bel : Below w.heap.size w wr
  box : IsBlk wr w.heap.size t cs
section
variable {w wr w' : World} {cs : Array Value} {t : TypeId} {v v' : Value} {zs zs' : List Int}
theorem HeldSt.next (h : HeldSt w wr cs t v zs) (hb : Below wr.heap.size wr w') : HeldSt w w' cs t v zs := ⟨OwnI.keep h.own hb, h.bel.trans (hb.mono h.bel.size), h.box.keep hb⟩
theorem HeldSt.alloc (h : HeldSt w wr cs t v zs) (o : Obj) : HeldSt w (wr.alloc o) cs t v zs := h.next (below_bx _ _)
theorem HeldSt.push (h : HeldSt w wr cs t v zs) (hv : OwnI 3 w' (w.heap.size + 1) v' zs') (hg : wr.grownBy w' v.ownBlock) : HeldSt w w' cs t v' zs' :=
  ⟨hv, h.bel.grown hg h.bel.size (fun q hq => by have := (OwnI.lt h.own q hq).1; omega), h.box.farG hg (fun e => by have := (OwnI.lt h.own _ e).1; omega)⟩
end
theorem wpList_append_int {ops : Array Oper} {rest : List Oper} {o : Oper} {a : Act} {w : World} {Q : Exit → Act → World → Prop} (hgd : o.guard = none) (s x : Operand)
    (ho : o.op = .call { callee := .builtin .append, args := #[s, x], argTypes := #[22, 22] })
    (base g : Nat) (v : Value) (us : List Int) (p : Int) (hs : a.eval s = v) (hx : a.eval x = .slice (some ⟨g, 0, none⟩) 1 1) (hv : OwnI 3 w base v us)
    (hg : w.cell? ⟨g, 0, none⟩ = some (.int .i64 p)) (hl : us.length ≤ 1000000) (hb : base ≤ w.heap.size)
    (h : ∀ v' w', OwnI 3 w' base v' (us ++ [p]) → w.grownBy w' v.ownBlock → (v'.ownBlock = v.ownBlock ∨ v'.ownBlock = some w.heap.size) → wpList Try.prog ops Q rest (a.put o.dst v') w') : wpList Try.prog ops Q (o :: rest) a w := by
  obtain ⟨i0, hi, hz0, hz1, hz2⟩ := info_parts intInfo6
  refine wpList_append_own_at w hgd s x 22 ho base 3 i0 (.int .i64 0) 1 8 Try.underlying22 hi hz0 hz1 hz2 rfl (by decide) v _ _ hs hv ⟨g, 0, none⟩ 1 1 [.int .i64 p] hx rfl (fun j u hj => ?_) (fun u hu => by simp at hu; subst hu; rfl) (by simp only [maxLen]; omega) (by omega) hb ?_
  · rcases j with _ | j
    · simp at hj; subst hj
      have ha : (⟨g, 0, none⟩ : Addr).add 0 = ⟨g, 0, none⟩ := by unfold Addr.add; split <;> simp_all
      rw [ha]; exact hg
    · simp at hj
  · intro v' w' hown hgrow _ hat
    exact h v' w' (by simpa [OwnI] using hown) hgrow hat

set_option maxRecDepth 100000 in
set_option maxHeartbeats 4000000 in
theorem workHeld_any (A : Option Addr) (n c : Nat) (B : Option Addr) (m d : Nat) (C : Option Addr) (q r : Nat) (a e : List Bool) (ps : List TJ) (z : Int) (w : World) (hn : n ≤ 1048576) (hm : m ≤ 1048576) (hq : q ≤ 1048576) (hqr : q ≤ r) (hr : RowW w A n B m C q a e ps) :
    Calls Try.prog 23 #[.agg #[.slice A n c, .slice B m d, .slice C q r], .int .i64 z] w fun e' w' => ∃ v, e' = .returned v ∧ OwnI 3 w' w.heap.size v (heldF (a, e, ps) z) ∧ Below w.heap.size w w' := by
  have b0 := below_bx w (.cells #[.slice A n c, .slice B m d, .slice C q r] 44)
  have K0 := Lib.hid (IsBlk.new w 44 #[.slice A n c, .slice B m d, .slice C q r])
  have HR := Lib.hid hr
  have HP := Lib.hid hr.pe.len
  clear hr
  obtain ⟨p0, p1, p2, -⟩ := K0.out.three
  cases hok : wkOk (a, e, ps)
  · have HF := Lib.hid (show heldF (a, e, ps) z = [] by rw [heldF, if_neg (by rw [hok]; simp)])
    go_enter Try.func23, Try.ntmps23
    go_wp2_with fail
    refine (workValid_any A n c B m d C q r a e ps _ hn hm hq hqr (HR.out.below b0)).mono ?_
    rintro e1 w1 ⟨rfl, hb1⟩
    rw [hok]
    go_wp2
    go_ret
    exact ⟨_, rfl, by rw [HF.out]; exact OwnI.nil, b0.trans (hb1.mono b0.size)⟩
  have HF := Lib.hid (show heldF (a, e, ps) z = heldL ps z by rw [heldF, if_pos hok])
  have h6 : q ≤ 6 := by have := (wk_sizes hok).2.2.2; rw [HP.out] at this; exact this
  go_enter Try.func23, Try.ntmps23
  go_wp2_with fail
  refine (workValid_any A n c B m d C q r a e ps _ hn hm hq hqr (HR.out.below b0)).mono ?_
  rintro e1 w1 ⟨rfl, hb1⟩
  rw [hok]
  have S1 := Lib.hid (show HeldSt w w1 #[.slice A n c, .slice B m d, .slice C q r] 44 (.slice none 0 0) (heldL (ps.take 0) z) from ⟨by simpa [heldL] using OwnI.nil, b0.trans (hb1.mono b0.size), K0.out.keep hb1⟩)
  clear hok hb1 b0 p0 p1 p2 K0
  obtain ⟨p0, p1, p2, -⟩ := S1.out.box.three
  go_wp2
  go_loopw [5, 14] (fun v i wr => ∃ k : Nat, k ≤ q ∧ i = .int .i64 k ∧ HeldSt w wr #[.slice A n c, .slice B m d, .slice C q r] 44 v (heldL (ps.take k) z)) (fun _ i _ => q - (intOf i).toNat)
  case atStart => exact ⟨0, by omega, rfl, S1.out⟩
  case round =>
    obtain ⟨k, hk, rfl, hst⟩ := hrel
    have S := Lib.hid hst
    clear hst p0 p1 p2
    by_cases hlt : k < q
    · obtain ⟨b, off, p, rfl, hb, hkp, g0, g1⟩ := HR.out.pe.at_ hlt
      rw [← S.out.bel.cell (p := ⟨b, off + k * 2, none⟩) hb] at g0
      rw [← S.out.bel.cell (p := ⟨b, off + k * 2 + 1, none⟩) hb] at g1
      have HT := Lib.hid (heldL_take z hkp)
      clear hkp
      obtain ⟨x, y⟩ := p
      simp only at g0 g1
      have q0 : (0 : Int) ≤ (k : Int) := by omega
      have q1 : (k : Int) < (q : Int) := by omega
      have hll := Lib.hid (Nat.le_trans (heldL_len (ps.take k) z) (by rw [List.length_take]; exact Nat.min_le_left _ _))
      have S2 := Lib.hid (S.out.alloc (.cells #[.int .i64 x, .int .i64 y] 66))
      by_cases hyz : y = z
      · have HT2 := Lib.hid (show heldL (ps.take (k + 1)) z = heldL (ps.take k) z ++ [x] by rw [HT.out, if_pos hyz])
        have S3 := Lib.hid (S2.out.alloc (.cells #[.int .i64 x] 3))
        have hz := S.out.bel.size
        have C9 := Lib.hid (show ((wr.alloc (.cells #[.int .i64 x, .int .i64 y] 66)).alloc (.cells #[.int .i64 x] 3)).cell? ⟨wr.heap.size + 1, 0, none⟩ = some (.int .i64 x) by simp)
        subst hyz
        go_wp2_with (
          at_builtin
          refine wpList_append_int rfl (.tmp 22) (.tmp 25) rfl (w.heap.size + 1) (wr.heap.size + 1) _ _ x rfl rfl S3.out.own C9.out (by have := hll.out; omega) (by have := S.out.box.lt; simp; omega) ?_
          intro v' w8 hown hgrow hat
          have S8 := Lib.hid (S3.out.push hown hgrow))
        go_roundw
        case rel => exact ⟨k + 1, by omega, by go_num, by rw [HT2.out]; exact S8.out⟩
        case measure => simp [intOf]; omega
      · have HT2 := Lib.hid (show heldL (ps.take (k + 1)) z = heldL (ps.take k) z by rw [HT.out, if_neg hyz])
        have hyb : (y == z) = false := by simpa using hyz
        clear hyz
        go_wp2
        go_roundw
        case rel => exact ⟨k + 1, by omega, by go_num, by rw [HT2.out]; exact S2.out⟩
        case measure => simp [intOf]; omega
    · obtain rfl : k = q := by omega
      have HE := Lib.hid (show heldL (ps.take k) z = heldL ps z by rw [← HP.out, List.take_length])
      go_wp2
      go_ret
      exact ⟨_, rfl, by rw [HF.out, ← HE.out]; exact OwnI.moreW S.out.own (by omega), S.out.bel⟩
set_option maxRecDepth 100000 in
set_option maxHeartbeats 4000000 in
theorem specWorkHeld_any (A : Option Addr) (n c : Nat) (B : Option Addr) (m d : Nat) (C : Option Addr) (q r : Nat) (a e : List Bool) (ps : List TJ) (z : Int) (w : World) (hn : n ≤ 1048576) (hm : m ≤ 1048576) (hq : q ≤ 1048576) (hqr : q ≤ r) (hr : RowW w A n B m C q a e ps) :
    Calls Try.prog 22 #[.agg #[.slice A n c, .slice B m d, .slice C q r], .int .i64 z] w fun e' w' => ∃ v, e' = .returned v ∧ OwnI 3 w' w.heap.size v (heldF (a, e, ps) z) ∧ Below w.heap.size w w' := by
  have HR := Lib.hid hr
  have HP := Lib.hid hr.pe.len
  clear hr
  have S1 := Lib.hid (show HeldSt w ((w.alloc (.cells #[.slice A n c, .slice B m d, .slice C q r] 44)).alloc (.cells #[] 3)) #[.slice A n c, .slice B m d, .slice C q r] 44 (.slice (some ⟨w.heap.size + 1, 0, none⟩) 0 0) (heldL (ps.take 0) z) from
    ⟨by have := World.ownsRow_lit (base := w.heap.size + 1) (size := 1) (e := 3) (w.alloc (.cells #[.slice A n c, .slice B m d, .slice C q r] 44)) #[] 0 (by simp) (by decide) rfl; simpa [OwnI, heldL] using this, (below_bx w _).alloc (by simp) _, (IsBlk.new w _ _).alloc _⟩)
  obtain ⟨p0, p1, p2, -⟩ := S1.out.box.three
  go_enter Try.func22, Try.ntmps22
  go_wp2
  go_loopw [5, 6] (fun v i wr => ∃ k : Nat, k ≤ q ∧ i = .int .i64 k ∧ (k = 0 ∨ wkOk (a, e, ps) = true) ∧ HeldSt w wr #[.slice A n c, .slice B m d, .slice C q r] 44 v (heldL (ps.take k) z)) (fun _ i _ => q - (intOf i).toNat)
  case atStart => exact ⟨0, by omega, rfl, .inl rfl, S1.out⟩
  case round =>
    obtain ⟨k, hk, rfl, hor, hst⟩ := hrel
    have S := Lib.hid hst
    have HO := Lib.hid hor
    clear hst p0 p1 p2 hor
    obtain ⟨p0, p1, p2, -⟩ := S.out.box.three
    by_cases hlt : k < q
    · have hk1 : (k : Int) < (q : Int) := by omega
      go_wp2_with fail
      refine (specWorkValid_any A n c B m d C q r a e ps _ hn hm hq hqr (HR.out.below S.out.bel)).mono ?_
      rintro e1 w1 ⟨rfl, hb1⟩
      have T1 := Lib.hid (S.out.next hb1)
      clear p0 p1 p2 hb1
      obtain ⟨p0, p1, p2, -⟩ := T1.out.box.three
      cases hok : wkOk (a, e, ps)
      · have HF := Lib.hid (show heldF (a, e, ps) z = [] by rw [heldF, if_neg (by rw [hok]; simp)])
        obtain rfl : k = 0 := by
          rcases HO.out with h | h
          · exact h
          · rw [hok] at h; cases h
        go_wp2
        go_ret
        exact ⟨_, rfl, by rw [HF.out]; exact OwnI.moreW T1.out.own (by omega), T1.out.bel⟩
      have HK := Lib.hid hok
      clear hok
      obtain ⟨b, off, p, rfl, hb, hkp, g0, g1⟩ := HR.out.pe.at_ hlt
      rw [← T1.out.bel.cell (p := ⟨b, off + k * 2, none⟩) hb] at g0
      rw [← T1.out.bel.cell (p := ⟨b, off + k * 2 + 1, none⟩) hb] at g1
      have HT := Lib.hid (heldL_take z hkp)
      clear hkp
      obtain ⟨x, y⟩ := p
      simp only at g0 g1
      have q0 : (0 : Int) ≤ (k : Int) := by omega
      have h6 : q ≤ 6 := by have := (wk_sizes HK.out).2.2.2; rw [HP.out] at this; exact this
      have hll := Lib.hid (Nat.le_trans (heldL_len (ps.take k) z) (by rw [List.length_take]; exact Nat.min_le_left _ _))
      by_cases hyz : y = z
      · have HT2 := Lib.hid (show heldL (ps.take (k + 1)) z = heldL (ps.take k) z ++ [x] by rw [HT.out, if_pos hyz])
        have S3 := Lib.hid (T1.out.alloc (.cells #[.int .i64 x] 3))
        subst hyz
        go_wp2_with (
          at_builtin
          refine wpList_append_int rfl (.tmp 27) (.tmp 34) rfl (w.heap.size + 1) w1.heap.size _ _ x rfl rfl S3.out.own ((IsBlk.new _ 3 #[.int .i64 x]).cell 0) (by have := hll.out; omega) (by have := T1.out.box.lt; simp; omega) ?_
          intro v' w8 hown hgrow hat
          have S8 := Lib.hid (S3.out.push hown hgrow))
        go_roundw
        case rel => exact ⟨k + 1, by omega, by go_num, .inr HK.out, by rw [HT2.out]; exact S8.out⟩
        case measure => simp [intOf]; omega
      · have HT2 := Lib.hid (show heldL (ps.take (k + 1)) z = heldL (ps.take k) z by rw [HT.out, if_neg hyz])
        have hyb : (y == z) = false := by simpa using hyz
        clear hyz
        go_wp2
        go_roundw
        case rel => exact ⟨k + 1, by omega, by go_num, .inr HK.out, by rw [HT2.out]; exact T1.out⟩
        case measure => simp [intOf]; omega
    · obtain rfl : k = q := by omega
      have HE := Lib.hid (show heldL (ps.take k) z = heldF (a, e, ps) z by
        rw [heldF, ← HP.out, List.take_length]; split
        · rfl
        · rename_i h
          rcases HO.out with h0 | h0
          · rw [List.eq_nil_of_length_eq_zero (HP.out.trans h0)]; rfl
          · exact absurd h0 h)
      go_wp2
      go_ret
      exact ⟨_, rfl, by rw [← HE.out]; exact OwnI.moreW S.out.own (by omega), S.out.bel⟩
end Go.Proofs.Ytafgfhjlkdjngaa
