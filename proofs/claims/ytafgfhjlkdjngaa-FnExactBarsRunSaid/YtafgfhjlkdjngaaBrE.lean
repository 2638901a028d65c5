/- Busbars: conversions, comparisons and marks of the exact laws. -/
import Derived.Test.YtafgfhjlkdjngaaBr5
namespace Go.Proofs.Ytafgfhjlkdjngaa
open Go.ChangeShapes Go.WideShapes Go.ChangeAt Go.RowKit

theorem szBars_any (A : Option Addr) (n c : Nat) (cp : Bool) (hn : n ≤ 9223372036854775807) (w : World) :
    Calls Try.prog 7 #[.agg #[.slice A n c, .bool cp], .int .i64 1048576] w fun e w' => e = .returned (.int .i64 (if n ≤ 1048576 then 1048576 - (n : Int) else -1)) ∧ Below w.heap.size w w' := by
  by_cases h : n ≤ 1048576
  · rw [if_pos h]
    go_enter Try.func7, Try.ntmps7
    go_wp2
    go_ret
    exact ⟨rfl, below_bx _ _⟩
  · rw [if_neg h]
    have h' : (1048576 : Int) < (n : Int) := by omega
    go_enter Try.func7, Try.ntmps7
    go_wp2
    go_ret
    exact ⟨rfl, below_bx _ _⟩
theorem toBars_any (A : Option Addr) (n c : Nat) (ss : List Int) (cp : Bool) (w : World) (hn : n ≤ 1048576) (hr : RowZ w A n ss) :
    Calls Try.prog 9 #[.agg #[.slice A n c, .bool cp]] w fun e w' => ∃ g, e = .returned (.agg #[.slice (some ⟨g, 0, none⟩) n n, .bool cp]) ∧ OwnI 3 w' w.heap.size (.slice (some ⟨g, 0, none⟩) n n) ss ∧ Below w.heap.size w w' := by
  have HR := Lib.hid hr
  have b0 : Below w.heap.size w (((w.alloc (.cells #[.slice A n c, .bool cp] 24)).alloc (.cells #[.slice none 0 0, .bool false] 26)).alloc (.cells #[.slice none 0 0, .bool false] 26)) := ((below_bx w _).alloc (by simp) _).alloc (by simp; omega) _
  have K0 := Lib.hid (((IsBlk.new w 24 #[.slice A n c, .bool cp]).alloc (.cells #[.slice none 0 0, .bool false] 26)).alloc (.cells #[.slice none 0 0, .bool false] 26))
  have R0 := Lib.hid ((IsBlk.new (w.alloc (.cells #[.slice A n c, .bool cp] 24)) 26 #[.slice none 0 0, .bool false]).alloc (.cells #[.slice none 0 0, .bool false] 26))
  have X0 := Lib.hid (IsBlk.new ((w.alloc (.cells #[.slice A n c, .bool cp] 24)).alloc (.cells #[.slice none 0 0, .bool false] 26)) 26 #[.slice none 0 0, .bool false])
  simp only [World.size_alloc] at R0 X0
  clear hr
  go_enter Try.func9, Try.ntmps9
  go_wp2_with fail
  refine (toIntS_any A n c ss _ hn (HR.out.below b0)).mono ?_
  rintro e w1 ⟨rfl, hO, hb1, hs1⟩
  have K1 := Lib.hid (K0.out.keep hb1)
  have R1 := Lib.hid (R0.out.keep hb1)
  have X1 := Lib.hid (X0.out.keep hb1)
  have b1 : Below w.heap.size w w1 := b0.trans (hb1.mono b0.size)
  simp only [World.size_alloc] at hO ⊢
  have O1 := Lib.hid hO
  clear hO hb1 hs1 K0 R0 X0 b0
  obtain ⟨p0, p1, -⟩ := K1.out.two
  obtain ⟨q0, q1, f0, f1⟩ := X1.out.two
  obtain ⟨r0, r1, s0, s1⟩ := R1.out.two
  go_wp2
  refine bodyPost_ret (v := .agg #[.slice (some ⟨w.heap.size + 1 + 1 + 1, 0, none⟩) n n, .bool cp]) (by simp [results, Try.results9, go_sem, r0, r1]) rfl ⟨_, rfl, ?_, ?_⟩
  · exact OwnI.ret2 (OwnI.ret2 (OwnI.moreR O1.out (by omega)) (fun q hq => by have := (OwnI.lt O1.out q hq).1; omega) _ _) (fun q hq => by have := (OwnI.lt O1.out q hq).1; omega) _ _
  · exact below_two (below_two b1 (by omega) _ _) (by omega) _ _
theorem eqBars_same (A A' : Option Addr) (n c c' : Nat) (ss : List Int) (cp : Bool) (w : World) {b b' : Nat} (hn : ss.length ≤ 1048576) (h : OwnI 3 w b (.slice A n c) ss) (h' : OwnI 3 w b' (.slice A' n c') ss) :
    Calls Try.prog 12 #[.agg #[.slice A n c, .bool cp], .agg #[.slice A' n c', .bool cp]] w fun e w' => e = .returned (.bool true) ∧ Below w.heap.size w w' := by
  have H1 := Lib.hid (OwnI.alloc (OwnI.alloc h (.cells #[.slice A n c, .bool cp] 26)) (.cells #[.slice A' n c', .bool cp] 26))
  have H2 := Lib.hid (OwnI.alloc (OwnI.alloc h' (.cells #[.slice A n c, .bool cp] 26)) (.cells #[.slice A' n c', .bool cp] 26))
  have K0 := Lib.hid ((IsBlk.new w 26 #[.slice A n c, .bool cp]).alloc (.cells #[.slice A' n c', .bool cp] 26))
  have K1 := Lib.hid (IsBlk.new (w.alloc (.cells #[.slice A n c, .bool cp] 26)) 26 #[.slice A' n c', .bool cp])
  simp only [World.size_alloc] at K1
  have b0 : Below w.heap.size w ((w.alloc (.cells #[.slice A n c, .bool cp] 26)).alloc (.cells #[.slice A' n c', .bool cp] 26)) := (below_bx w _).alloc (by simp) _
  clear h h'
  go_enter Try.func12, Try.ntmps12
  go_wp2_with fail
  refine (eqIntS_own hn H1.out H2.out).mono ?_
  rintro e w1 ⟨rfl, hb1⟩
  obtain ⟨p0, p1, -⟩ := (K0.out.keep hb1).two
  obtain ⟨q0, q1, -⟩ := (K1.out.keep hb1).two
  have b1 : Below w.heap.size w w1 := b0.trans (hb1.mono b0.size)
  clear hb1
  cases cp
  all_goals go_wp2
  all_goals go_ret
  all_goals exact ⟨rfl, b1⟩
theorem markBars_any (A : Option Addr) (n c : Nat) (ss : List Int) (cp : Bool) (base : Nat) (k0 : Int) (hk0 : 1 ≤ k0) (hk1 : k0 ≤ 100000000) (w : World) (hn : ss.length ≤ 1048576) (h : OwnI 3 w base (.slice A n c) ss) :
    Calls Try.prog 14 #[.agg #[.slice A n c, .bool cp], .int .i64 k0] w fun e w' => e = .returned (.int .i64 (k0 + ss.length)) ∧ OwnI 3 w' base (.slice A n c) (fromI k0 ss.length) ∧ w.grownBy w' (Value.slice A n c).ownBlock := by
  have H1 := Lib.hid (OwnI.alloc h (.cells #[.slice A n c, .bool cp] 26))
  clear h
  go_enter Try.func14, Try.ntmps14
  go_wp2_with fail
  refine (markIntS_gen _ ss base k0 hk0 hk1 _ hn H1.out).mono ?_
  rintro e w1 ⟨rfl, hO, hg⟩
  go_wp2
  go_ret
  exact ⟨rfl, hO, grown_then (grown_alloc _ _ _) hg⟩
theorem heldBars_any (A : Option Addr) (n c m : Nat) (cp : Bool) (base : Nat) (k0 : Int) (hk0 : 1 ≤ k0) (hk1 : k0 ≤ 100000000) (w : World) (hn : m ≤ 1048576) (h : OwnI 3 w base (.slice A n c) (fromI k0 m)) :
    Calls Try.prog 16 #[.agg #[.slice A n c, .bool cp], .int .i64 k0] w fun e w' => e = .returned (.int .i64 (k0 + m)) ∧ Below w.heap.size w w' := by
  have H1 := Lib.hid (OwnI.alloc h (.cells #[.slice A n c, .bool cp] 26))
  clear h
  have hm : ¬ (k0 + (m : Int) < 0) := by omega
  go_enter Try.func16, Try.ntmps16
  go_wp2_with fail
  refine (heldIntS_gen _ m base k0 hk0 hk1 _ hn H1.out).mono ?_
  rintro e w' ⟨rfl, rfl⟩
  go_wp2
  go_ret
  exact ⟨rfl, below_bx _ _⟩
end Go.Proofs.Ytafgfhjlkdjngaa
