/- Permits: conversions, comparisons and marks of the exact laws: work. -/
import Derived.Test.YtafgfhjlkdjngaaWk1
import Derived.Test.YtafgfhjlkdjngaaSJ1
import Derived.Test.YtafgfhjlkdjngaaSH1
import Derived.Test.YtafgfhjlkdjngaaSJ4
import Derived.Test.YtafgfhjlkdjngaaSH4
import Derived.Test.YtafgfhjlkdjngaaBCC
namespace Go.Proofs.Ytafgfhjlkdjngaa
open Go.ChangeShapes Go.WideShapes Go.ChangeAt Go.RowKit

theorem szBoolS_left (A : Option Addr) (n c : Nat) (left : Int) (h0 : 0 ≤ left) (h1 : left ≤ 1048576) (hn : n ≤ 9223372036854775807) (w : World) :
    Calls Try.prog 40 #[.slice A n c, .int .i64 left] w fun e w' => e = .returned (.int .i64 (if (n : Int) ≤ left then left - n else -1)) ∧ w = w' := by
  by_cases hc : (n : Int) ≤ left
  · go_enter Try.func40, Try.ntmps40
    go_wp2
    all_goals go_ret
    all_goals exact ⟨retI (by first | omega | simp [hc]), rfl⟩
  · go_enter Try.func40, Try.ntmps40
    go_wp2
    all_goals go_ret
    all_goals exact ⟨retI (by first | omega | simp [hc]), rfl⟩
/-- What is left of the million behind work. -/
def szW (n m q : Nat) : Int := if n + m + q ≤ 1048576 then 1048576 - (n : Int) - (m : Int) - (q : Int) else -1
theorem szWork_any (A : Option Addr) (n c : Nat) (B : Option Addr) (m d : Nat) (C : Option Addr) (q r : Nat) (hn : n ≤ 9223372036854775807) (hm : m ≤ 9223372036854775807) (hq : q ≤ 9223372036854775807) (w : World) :
    Calls Try.prog 17 #[.agg #[.slice A n c, .slice B m d, .slice C q r], .int .i64 1048576] w fun e w' => e = .returned (.int .i64 (szW n m q)) ∧ Below w.heap.size w w' := by
  have K0 := Lib.hid (IsBlk.new w 39 #[.slice A n c, .slice B m d, .slice C q r])
  obtain ⟨k0, k1, k2, -⟩ := K0.out.three
  by_cases h1 : (n : Int) ≤ 1048576
  rotate_left
  · have hz : szW n m q = -1 := by rw [szW, if_neg (by omega)]
    rw [hz]
    go_enter Try.func17, Try.ntmps17
    go_wp2_with fail
    refine (szBoolS_left A n c 1048576 (by omega) (by omega) hn _).mono ?_
    rintro e w' ⟨rfl, rfl⟩
    rw [if_neg (by omega)]
    go_wp2
    go_ret
    exact ⟨rfl, below_bx _ _⟩
  by_cases h2 : (m : Int) ≤ 1048576 - (n : Int)
  rotate_left
  · have hz : szW n m q = -1 := by rw [szW, if_neg (by omega)]
    rw [hz]
    have hp1 : ¬ ((1048576 : Int) - (n : Int) < 0) := by omega
    go_enter Try.func17, Try.ntmps17
    go_wp2_with fail
    refine (szBoolS_left A n c 1048576 (by omega) (by omega) hn _).mono ?_
    rintro e w' ⟨rfl, rfl⟩
    rw [if_pos h1]
    go_wp2_with fail
    refine (szBoolS_left B m d (1048576 - (n : Int)) (by omega) (by omega) hm _).mono ?_
    rintro e w' ⟨rfl, rfl⟩
    rw [if_neg (by omega)]
    go_wp2
    go_ret
    exact ⟨rfl, below_bx _ _⟩
  have hp1 : ¬ ((1048576 : Int) - (n : Int) < 0) := by omega
  have hp2 : ¬ ((1048576 : Int) - (n : Int) - (m : Int) < 0) := by omega
  by_cases h3 : (q : Int) ≤ 1048576 - (n : Int) - (m : Int)
  · have hz : szW n m q = 1048576 - (n : Int) - (m : Int) - (q : Int) := by rw [szW, if_pos (by omega)]
    rw [hz]
    have hp3 : ¬ ((1048576 : Int) - (n : Int) - (m : Int) - (q : Int) < 0) := by omega
    go_enter Try.func17, Try.ntmps17
    go_wp2_with fail
    refine (szBoolS_left A n c 1048576 (by omega) (by omega) hn _).mono ?_
    rintro e w' ⟨rfl, rfl⟩
    rw [if_pos h1]
    go_wp2_with fail
    refine (szBoolS_left B m d (1048576 - (n : Int)) (by omega) (by omega) hm _).mono ?_
    rintro e w' ⟨rfl, rfl⟩
    rw [if_pos h2]
    go_wp2_with fail
    refine (szPermitS_any C q r (1048576 - (n : Int) - (m : Int)) (by omega) (by omega) hq _).mono ?_
    rintro e w' ⟨rfl, rfl⟩
    rw [if_pos h3]
    go_wp2
    go_ret
    exact ⟨rfl, below_bx _ _⟩
  · have hz : szW n m q = -1 := by rw [szW, if_neg (by omega)]
    rw [hz]
    go_enter Try.func17, Try.ntmps17
    go_wp2_with fail
    refine (szBoolS_left A n c 1048576 (by omega) (by omega) hn _).mono ?_
    rintro e w' ⟨rfl, rfl⟩
    rw [if_pos h1]
    go_wp2_with fail
    refine (szBoolS_left B m d (1048576 - (n : Int)) (by omega) (by omega) hm _).mono ?_
    rintro e w' ⟨rfl, rfl⟩
    rw [if_pos h2]
    go_wp2_with fail
    refine (szPermitS_any C q r (1048576 - (n : Int) - (m : Int)) (by omega) (by omega) hq _).mono ?_
    rintro e w' ⟨rfl, rfl⟩
    rw [if_neg (by omega)]
    go_wp2
    go_ret
    exact ⟨rfl, below_bx _ _⟩
theorem toWork_any (A : Option Addr) (n c : Nat) (B : Option Addr) (m d : Nat) (C : Option Addr) (q r : Nat) (a e : List Bool) (ps : List TJ) (w : World) (hn : n ≤ 1048576) (hm : m ≤ 1048576) (hq : q ≤ 1048576) (hr : RowW w A n B m C q a e ps) :
    Calls Try.prog 19 #[.agg #[.slice A n c, .slice B m d, .slice C q r]] w fun e' w' => ∃ g1 g2 g3, e' = .returned (.agg #[.slice (some ⟨g1, 0, none⟩) n n, .slice (some ⟨g2, 0, none⟩) m m, .slice (some ⟨g3, 0, none⟩) q q]) ∧ OwnW w' w.heap.size (.slice (some ⟨g1, 0, none⟩) n n) (.slice (some ⟨g2, 0, none⟩) m m) (.slice (some ⟨g3, 0, none⟩) q q) a e ps ∧ Below w.heap.size w w' := by
  have HR := Lib.hid hr
  have HQ := Lib.hid hr.pe.len
  have b0 : Below w.heap.size w (((w.alloc (.cells #[.slice A n c, .slice B m d, .slice C q r] 39)).alloc (.cells #[.slice none 0 0, .slice none 0 0, .slice none 0 0] 44)).alloc (.cells #[.slice none 0 0, .slice none 0 0, .slice none 0 0] 44)) := ((below_bx w _).alloc (by simp) _).alloc (by simp; omega) _
  have K0 := Lib.hid (((IsBlk.new w 39 #[.slice A n c, .slice B m d, .slice C q r]).alloc (.cells #[.slice none 0 0, .slice none 0 0, .slice none 0 0] 44)).alloc (.cells #[.slice none 0 0, .slice none 0 0, .slice none 0 0] 44))
  have R0 := Lib.hid ((IsBlk.new (w.alloc (.cells #[.slice A n c, .slice B m d, .slice C q r] 39)) 44 #[.slice none 0 0, .slice none 0 0, .slice none 0 0]).alloc (.cells #[.slice none 0 0, .slice none 0 0, .slice none 0 0] 44))
  have X0 := Lib.hid (IsBlk.new ((w.alloc (.cells #[.slice A n c, .slice B m d, .slice C q r] 39)).alloc (.cells #[.slice none 0 0, .slice none 0 0, .slice none 0 0] 44)) 44 #[.slice none 0 0, .slice none 0 0, .slice none 0 0])
  simp only [World.size_alloc] at R0 X0
  clear hr
  go_enter Try.func19, Try.ntmps19
  go_wp2_with fail
  refine (toBoolS_any A n c a _ hn (HR.out.on.below b0)).mono ?_
  rintro e1 w1 ⟨rfl, hO, hb1, hs1⟩
  have K1 := Lib.hid (K0.out.keep hb1)
  have R1 := Lib.hid (R0.out.keep hb1)
  have X1 := Lib.hid (X0.out.keep hb1)
  have b1 : Below w.heap.size w w1 := b0.trans (hb1.mono b0.size)
  simp only [World.size_alloc] at hO hs1 ⊢
  have O1 := Lib.hid hO
  clear hO hb1 K0 R0 X0 b0
  obtain ⟨p0, p1, p2, -⟩ := K1.out.three
  obtain ⟨q0, q1, q2, f0, f1, f2⟩ := X1.out.three
  have hz1 : w.heap.size + 3 < w1.heap.size := by omega
  have c1 := Lib.hid (show Below w.heap.size w (w1.setCell ⟨w.heap.size + 1 + 1, 0, none⟩ (.slice (some ⟨w.heap.size + 1 + 1 + 1, 0, none⟩) n n)) from b1.setCell (by show w.heap.size ≤ w.heap.size + 1 + 1; omega) _)
  have K2 := Lib.hid (K1.out.far (p := ⟨w.heap.size + 1 + 1, 0, none⟩) (by show w.heap.size ≠ w.heap.size + 1 + 1; omega) (.slice (some ⟨w.heap.size + 1 + 1 + 1, 0, none⟩) n n))
  have R2 := Lib.hid (R1.out.far (p := ⟨w.heap.size + 1 + 1, 0, none⟩) (by show w.heap.size + 1 ≠ w.heap.size + 1 + 1; omega) (.slice (some ⟨w.heap.size + 1 + 1 + 1, 0, none⟩) n n))
  have X2 := Lib.hid (show IsBlk (w1.setCell ⟨w.heap.size + 1 + 1, 0, none⟩ (.slice (some ⟨w.heap.size + 1 + 1 + 1, 0, none⟩) n n)) (w.heap.size + 1 + 1) 44 #[(.slice (some ⟨w.heap.size + 1 + 1 + 1, 0, none⟩) n n), .slice none 0 0, .slice none 0 0] from by have := X1.out.put 0 (.slice (some ⟨w.heap.size + 1 + 1 + 1, 0, none⟩) n n); simpa using this)
  have O2 := Lib.hid (O1.out.far (grown_put w1 (w.heap.size + 1 + 1) 0 (.slice (some ⟨w.heap.size + 1 + 1 + 1, 0, none⟩) n n)) (fun q hq e => by have := (O1.out.lt q hq).1; injection e with e; omega))
  have hz2 : (w1.setCell ⟨w.heap.size + 1 + 1, 0, none⟩ (.slice (some ⟨w.heap.size + 1 + 1 + 1, 0, none⟩) n n)).heap.size = w1.heap.size := by simp [World.setCell]
  clear K1 R1 X1 O1 b1 hs1
  go_wp2_with fail
  refine (toBoolS_any B m d e _ hm (HR.out.ea.below c1.out)).mono ?_
  rintro e2 w2 ⟨rfl, hO2, hb2, hs2⟩
  rw [hz2] at hO2 hs2 ⊢
  have c2 := Lib.hid (c1.out.trans (hb2.mono c1.out.size))
  have K3 := Lib.hid (K2.out.keep hb2)
  have R3 := Lib.hid (R2.out.keep hb2)
  have X3 := Lib.hid (X2.out.keep hb2)
  have O3 := Lib.hid (O2.out.keep hb2)
  have P3 := Lib.hid hO2
  clear K2 R2 X2 O2 hb2 hO2 c1 p0 p1 p2 q0 q1 q2 f0 f1 f2
  obtain ⟨p0, p1, p2, -⟩ := K3.out.three
  obtain ⟨q0, q1, q2, f0, f1, f2⟩ := X3.out.three
  have c3 := Lib.hid (show Below w.heap.size w (w2.setCell ⟨w.heap.size + 1 + 1, 1, none⟩ (.slice (some ⟨w1.heap.size, 0, none⟩) m m)) from c2.out.setCell (by show w.heap.size ≤ w.heap.size + 1 + 1; omega) _)
  have K4 := Lib.hid (K3.out.far (p := ⟨w.heap.size + 1 + 1, 1, none⟩) (by show w.heap.size ≠ w.heap.size + 1 + 1; omega) (.slice (some ⟨w1.heap.size, 0, none⟩) m m))
  have R4 := Lib.hid (R3.out.far (p := ⟨w.heap.size + 1 + 1, 1, none⟩) (by show w.heap.size + 1 ≠ w.heap.size + 1 + 1; omega) (.slice (some ⟨w1.heap.size, 0, none⟩) m m))
  have X4 := Lib.hid (show IsBlk (w2.setCell ⟨w.heap.size + 1 + 1, 1, none⟩ (.slice (some ⟨w1.heap.size, 0, none⟩) m m)) (w.heap.size + 1 + 1) 44 #[(.slice (some ⟨w.heap.size + 1 + 1 + 1, 0, none⟩) n n), (.slice (some ⟨w1.heap.size, 0, none⟩) m m), .slice none 0 0] from by have := X3.out.put 1 (.slice (some ⟨w1.heap.size, 0, none⟩) m m); simpa using this)
  have O4 := Lib.hid (O3.out.far (grown_put w2 (w.heap.size + 1 + 1) 1 (.slice (some ⟨w1.heap.size, 0, none⟩) m m)) (fun q hq e => by have := (O3.out.lt q hq).1; injection e with e; omega))
  have P4 := Lib.hid (P3.out.far (grown_put w2 (w.heap.size + 1 + 1) 1 (.slice (some ⟨w1.heap.size, 0, none⟩) m m)) (fun q hq e => by have := (P3.out.lt q hq).1; injection e with e; omega))
  have hz4 : (w2.setCell ⟨w.heap.size + 1 + 1, 1, none⟩ (.slice (some ⟨w1.heap.size, 0, none⟩) m m)).heap.size = w2.heap.size := by simp [World.setCell]
  clear K3 R3 X3 O3 P3 c2
  go_wp2_with fail
  refine (toPermitS_any C q r ps _ hq (HR.out.pe.below c3.out)).mono ?_
  rintro e3 w3 ⟨g3, rfl, hb3, hg3, hk3⟩
  rw [hz4] at hg3
  have c4 := Lib.hid (c3.out.trans (hb3.mono c3.out.size))
  have R5 := Lib.hid (R4.out.keep hb3)
  have X5 := Lib.hid (X4.out.keep hb3)
  have O5 := Lib.hid (O4.out.keep hb3)
  have P5 := Lib.hid (P4.out.keep hb3)
  have Q5 := Lib.hid (IsBlk.ownJ (base := w2.heap.size) hk3 HQ.out hq hg3)
  clear K4 R4 X4 O4 P4 hb3 hk3 c3 p0 p1 p2 q0 q1 q2 f0 f1 f2
  obtain ⟨r0, r1, r2, s0, s1, s2⟩ := R5.out.three
  obtain ⟨q0, q1, q2, f0, f1, f2⟩ := X5.out.three
  go_wp2
  refine bodyPost_ret (v := .agg #[(.slice (some ⟨w.heap.size + 1 + 1 + 1, 0, none⟩) n n), (.slice (some ⟨w1.heap.size, 0, none⟩) m m), .slice (some ⟨g3, 0, none⟩) q q]) (by simp [results, Try.results19, go_sem, r0, r1, r2]) rfl ⟨w.heap.size + 1 + 1 + 1, w1.heap.size, g3, rfl, ?_, ?_⟩
  · have hW : OwnW w3 (w.heap.size + 3) (.slice (some ⟨w.heap.size + 1 + 1 + 1, 0, none⟩) n n) (.slice (some ⟨w1.heap.size, 0, none⟩) m m) (.slice (some ⟨g3, 0, none⟩) q q) a e ps := by
      refine ⟨O5.out.more (by omega), P5.out.more (by omega), OwnJ.more Q5.out (by omega), fun x h1 h2 => ?_, fun x h1 h2 => ?_, fun x h1 h2 => ?_⟩
      · unfold tblk at h1 h2; split at h1; cases h1; split at h2; cases h2
        simp only [Value.ownBlock, Option.some.injEq] at h1 h2; omega
      · have := (O5.out.lt x h1).1; unfold tblk at h1; split at h1; cases h1
        simp only [Value.ownBlock, Option.some.injEq] at h1 h2; omega
      · unfold tblk at h1; split at h1; cases h1
        simp only [Value.ownBlock, Option.some.injEq] at h1 h2; omega
    refine (OwnW.ret2 ((hW.far (grown_put w3 (w.heap.size + 1 + 1) 2 _) (fun x hx e => by have := (hW.lt x hx).1; injection e with e; omega)).more (base' := w.heap.size + 2) (by omega)) (by omega) _ _ _).more (by omega)
  · exact (((c4.out.setCell (by show w.heap.size ≤ w.heap.size + 1 + 1; omega) _).setCell (by show w.heap.size ≤ w.heap.size + 1; omega) _).setCell (by show w.heap.size ≤ w.heap.size + 1; omega) _).setCell (by show w.heap.size ≤ w.heap.size + 1; omega) _
theorem eqWork_own {v1 v2 v3 u1 u2 u3 : Value} {a e : List Bool} {ps : List TJ} {w : World} {b b' : Nat} (hn : a.length ≤ 1048576) (hm : e.length ≤ 1048576) (hq : ps.length ≤ 1048576) (h : OwnW w b v1 v2 v3 a e ps) (h' : OwnW w b' u1 u2 u3 a e ps) :
    Calls Try.prog 21 #[.agg #[v1, v2, v3], .agg #[u1, u2, u3]] w fun e' w' => e' = .returned (.bool true) ∧ Below w.heap.size w w' := by
  obtain ⟨A, c, B, d, C, r, rfl, rfl, rfl⟩ := h.shape
  obtain ⟨A', c', B', d', C', r', rfl, rfl, rfl⟩ := h'.shape
  have b0 := (below_bx w (.cells #[.slice A a.length c, .slice B e.length d, .slice C ps.length r] 44)).alloc (by simp) (.cells #[.slice A' a.length c', .slice B' e.length d', .slice C' ps.length r'] 44)
  have H1 := Lib.hid ((h.alloc (.cells #[.slice A a.length c, .slice B e.length d, .slice C ps.length r] 44)).alloc (.cells #[.slice A' a.length c', .slice B' e.length d', .slice C' ps.length r'] 44))
  have H2 := Lib.hid ((h'.alloc (.cells #[.slice A a.length c, .slice B e.length d, .slice C ps.length r] 44)).alloc (.cells #[.slice A' a.length c', .slice B' e.length d', .slice C' ps.length r'] 44))
  have K0 := Lib.hid ((IsBlk.new w 44 #[.slice A a.length c, .slice B e.length d, .slice C ps.length r]).alloc (.cells #[.slice A' a.length c', .slice B' e.length d', .slice C' ps.length r'] 44))
  have K1 := Lib.hid (IsBlk.new (w.alloc (.cells #[.slice A a.length c, .slice B e.length d, .slice C ps.length r] 44)) 44 #[.slice A' a.length c', .slice B' e.length d', .slice C' ps.length r'])
  simp only [World.size_alloc] at K1
  clear h h'
  go_enter Try.func21, Try.ntmps21
  go_wp2_with fail
  refine (eqBoolS_own hn H1.out.on H2.out.on).mono ?_
  rintro e1 w1 ⟨rfl, hb1⟩
  have b1 : Below w.heap.size w w1 := b0.trans (hb1.mono b0.size)
  have H3 := Lib.hid (H1.out.keep hb1)
  have H4 := Lib.hid (H2.out.keep hb1)
  have K2 := Lib.hid (K0.out.keep hb1)
  have K3 := Lib.hid (K1.out.keep hb1)
  clear H1 H2 K0 K1 hb1 b0
  obtain ⟨p0, p1, p2, -⟩ := K2.out.three
  obtain ⟨q0, q1, q2, -⟩ := K3.out.three
  go_wp2_with fail
  refine (eqBoolS_own hm H3.out.ea H4.out.ea).mono ?_
  rintro e2 w2 ⟨rfl, hb2⟩
  have b2 : Below w.heap.size w w2 := b1.trans (hb2.mono b1.size)
  have H5 := Lib.hid (H3.out.keep hb2)
  have H6 := Lib.hid (H4.out.keep hb2)
  have K4 := Lib.hid (K2.out.keep hb2)
  have K5 := Lib.hid (K3.out.keep hb2)
  clear H3 H4 K2 K3 hb2 b1 p0 p1 p2 q0 q1 q2
  obtain ⟨p0, p1, p2, -⟩ := K4.out.three
  obtain ⟨q0, q1, q2, -⟩ := K5.out.three
  go_wp2_with fail
  refine (eqPermitS_own hq H5.out.pe H6.out.pe).mono ?_
  rintro e3 w3 ⟨rfl, hb3⟩
  have b3 : Below w.heap.size w w3 := b2.trans (hb3.mono b2.size)
  clear H5 H6 hb3 p0 p1 p2 q0 q1 q2 K4 K5
  go_wp2
  go_ret
  exact ⟨rfl, b3⟩
theorem markWork_any {v1 v2 v3 : Value} {a e : List Bool} {ps : List TJ} {b : Nat} (w : World) (hn : a.length ≤ 1048576) (hm : e.length ≤ 1048576) (hq : ps.length ≤ 1048576) (h : OwnW w b v1 v2 v3 a e ps) :
    Calls Try.prog 24 #[.agg #[v1, v2, v3], .int .i64 1] w fun e' w' => e' = .returned (.int .i64 (1 + (a.length : Int) + (e.length : Int) + 2 * (ps.length : Int))) ∧ OwnW w' b v1 v2 v3 (marksT 1 a.length) (marksT (1 + (a.length : Int)) e.length) (marksJ (1 + (a.length : Int) + (e.length : Int)) ps.length) ∧ GrownIn w w' (WBlk v1 v2 v3 a e) := by
  obtain ⟨A, c, B, d, C, r, rfl, rfl, rfl⟩ := h.shape
  have H0 := Lib.hid h
  have H1 := Lib.hid (h.alloc (.cells #[.slice A a.length c, .slice B e.length d, .slice C ps.length r] 44))
  have K0 := Lib.hid (IsBlk.new w 44 #[.slice A a.length c, .slice B e.length d, .slice C ps.length r])
  have hlt := Lib.hid h.lt
  clear h
  obtain ⟨p0, p1, p2, -⟩ := K0.out.three
  go_enter Try.func24, Try.ntmps24
  go_wp2_with fail
  refine (markBoolS_any _ a b 1 (by omega) (by omega) _ hn H1.out.on).mono ?_
  rintro e1 w1 ⟨rfl, hO1, hg1⟩
  have K1 := Lib.hid (K0.out.farG hg1 (fun e2 => by have := (hlt.out _ (.inl e2)).2; omega))
  have E1 := Lib.hid (H1.out.ea.far hg1 (fun q hq e2 => H0.out.n12 _ e2 hq))
  have P1 := Lib.hid (H1.out.pe.far hg1 (fun q hq e2 => H0.out.n13 _ e2 hq))
  have A1 := Lib.hid hO1
  have G1 := Lib.hid ((GrownIn.keeps (P := WBlk (.slice A a.length c) (.slice B e.length d) (.slice C ps.length r) a e) (below_bx w (.cells #[.slice A a.length c, .slice B e.length d, .slice C ps.length r] 44))).trans (GrownIn.of hg1 (fun k e2 => .inl e2)))
  clear hO1 hg1 K0 H1 p0 p1 p2
  obtain ⟨p0, p1, p2, -⟩ := K1.out.three
  go_wp2_with fail
  refine (markBoolS_any _ e b (1 + (a.length : Int)) (by omega) (by omega) _ hm E1.out).mono ?_
  rintro e1 w2 ⟨rfl, hO2, hg2⟩
  have K2 := Lib.hid (K1.out.farG hg2 (fun e2 => by have := (hlt.out _ (.inr (.inl e2))).2; omega))
  have A2 := Lib.hid (A1.out.far hg2 (fun q hq e2 => H0.out.n12 _ (by rw [tblk, marksT_len] at hq; exact hq) e2))
  have P2 := Lib.hid (P1.out.far hg2 (fun q hq e2 => H0.out.n23 _ e2 hq))
  have E2 := Lib.hid hO2
  have G2 := Lib.hid (G1.out.trans (GrownIn.of hg2 (fun k e2 => .inr (.inl e2))))
  clear hO2 hg2 K1 A1 E1 P1 G1 p0 p1 p2
  obtain ⟨p0, p1, p2, -⟩ := K2.out.three
  go_wp2_with fail
  refine (markPermitS_own _ ps b (1 + (a.length : Int) + (e.length : Int)) (by omega) (by omega) _ hq P2.out).mono ?_
  rintro e1 w3 ⟨rfl, hO3, hg3⟩
  have A3 := Lib.hid (A2.out.far hg3 (fun q hq e2 => H0.out.n13 _ (by rw [tblk, marksT_len] at hq; exact hq) e2))
  have E3 := Lib.hid (E2.out.far hg3 (fun q hq e2 => H0.out.n23 _ (by rw [tblk, marksT_len] at hq; exact hq) e2))
  have P3 := Lib.hid hO3
  have G3 := Lib.hid (G2.out.trans (GrownIn.of hg3 (fun k e2 => .inr (.inr e2))))
  clear hO3 hg3 K2 A2 E2 P2 G2 p0 p1 p2
  go_wp2
  go_ret
  exact ⟨rfl, ⟨A3.out, E3.out, P3.out, fun q h1 h2 => H0.out.n12 q (by rw [tblk, marksT_len] at h1; exact h1) (by rw [tblk, marksT_len] at h2; exact h2), fun q h1 h2 => H0.out.n13 q (by rw [tblk, marksT_len] at h1; exact h1) h2, fun q h1 h2 => H0.out.n23 q (by rw [tblk, marksT_len] at h1; exact h1) h2⟩, G3.out⟩
end Go.Proofs.Ytafgfhjlkdjngaa
