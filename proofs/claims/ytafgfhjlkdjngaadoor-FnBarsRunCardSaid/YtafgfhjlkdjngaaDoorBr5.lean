/- Busbars: BarsDo, of the program. -/
import Derived.Test.YtafgfhjlkdjngaaDoorBr4
import Derived.RegionTactic
namespace Go.Proofs.YtafgfhjlkdjngaaDoor
open Go.ChangeShapes Go.WideShapes Go.ChangeAt Go.RowKit

/-- BarsDo and BarsRun for any bars. -/
def bdF (b : BB) (d : Int) : BB := if brsOk b = true then doR b d else ([], false)
def bdB (b : BB) (d : Int) : Bool := brsOk b && mayR b d
theorem isolatorI (x y : Int) (hx : 0 ≤ x ∧ x ≤ 1000) (hy : 0 ≤ y ∧ y ≤ 3) (w : World) :
    Calls Tryd.prog 97 #[.int .i64 x, .int .i64 y] w fun e w' => e = .returned (.int .i64 (2 * x + y)) ∧ w = w' := by
  obtain ⟨hx0, hx1⟩ := hx
  obtain ⟨hy0, hy1⟩ := hy
  go_enter Tryd.func97, Tryd.ntmps97
  go_wp2
  go_ret
  exact ⟨rfl, rfl⟩
theorem openIsolator_any (x y : Int) (hx : 0 ≤ x ∧ x ≤ 1000) (hy : 0 ≤ y ∧ y ≤ 3) (w : World) :
    Calls Tryd.prog 94 #[.int .i64 x, .int .i64 y] w fun e w' => e = .returned (.int .i64 (4 * x + 2 * y)) ∧ w = w' := by
  go_enter Tryd.func94, Tryd.ntmps94
  go_wp2_with fail
  refine (isolatorI x y hx hy _).mono ?_
  rintro e w' ⟨rfl, rfl⟩
  obtain ⟨hx0, hx1⟩ := hx
  obtain ⟨hy0, hy1⟩ := hy
  go_wp2
  go_ret
  exact ⟨retI (by omega), rfl⟩
theorem closeIsolator_any (x y : Int) (hx : 0 ≤ x ∧ x ≤ 1000) (hy : 0 ≤ y ∧ y ≤ 3) (w : World) :
    Calls Tryd.prog 93 #[.int .i64 x, .int .i64 y] w fun e w' => e = .returned (.int .i64 (4 * x + 2 * y + 1)) ∧ w = w' := by
  go_enter Tryd.func93, Tryd.ntmps93
  go_wp2_with fail
  refine (openIsolator_any x y hx hy _).mono ?_
  rintro e w' ⟨rfl, rfl⟩
  obtain ⟨hx0, hx1⟩ := hx
  obtain ⟨hy0, hy1⟩ := hy
  go_wp2
  go_ret
  exact ⟨rfl, rfl⟩
theorem partMovedR (k : Nat) (hk : k ≤ 1000) (w : World) :
    Calls Tryd.prog 98 #[.int .i64 k] w fun e w' => e = .returned (.tuple #[.int .i64 ((k / 2 : Nat) : Int), .bool (k % 2 == 1)]) ∧ w = w' := by
  have hk' : (k : Int) ≤ 1000 := by omega
  go_enter Tryd.func98, Tryd.ntmps98
  go_wp2
  go_ret2
  refine ⟨?_, rfl⟩
  have e1 : ∀ a b : Int, ∀ x y : Bool, a = b → x = y → Ending.returned (.tuple #[.int .i64 a, .bool x]) = Ending.returned (.tuple #[.int .i64 b, .bool y]) := by
    rintro a b x y rfl rfl; rfl
  refine e1 _ _ _ _ ?_ ?_
  · first | rfl | omega
  · rw [Bool.eq_iff_iff]; simp; omega
theorem OwnI.moreR {e : TypeId} {w : World} {base base' : Nat} {v : Value} {zs : List Int} (h : OwnI e w base v zs) (hb : base' ≤ base) : OwnI e w base' v zs := by
  refine ⟨h.1, ?_⟩
  rcases h.2 with h2 | ⟨g, cap, cur, h1, h2, h3⟩
  · exact .inl h2
  · exact .inr ⟨g, cap, cur, h1, Nat.le_trans hb h2, h3⟩
theorem OwnI.shape {t : TypeId} {w : World} {base : Nat} {v : Value} {zs : List Int} (h : OwnI t w base v zs) : ∃ A c, v = .slice A zs.length c := by
  rcases h.2 with ⟨h1, h2⟩ | ⟨g, cap, cur, h1, _⟩
  · exact ⟨_, _, by rw [h1, h2]⟩
  · exact ⟨_, _, h1⟩
theorem xor_natR {a b : Nat} (ha : a < 2 ^ 63) (hb : b < 2 ^ 63) : bits .xor .i64 (a : Int) (b : Int) = ((a ^^^ b : Nat) : Int) := by
  have hx : a ^^^ b < 2 ^ 63 := Nat.xor_lt_two_pow ha hb
  have ea : a % 2 ^ 64 = a := Nat.mod_eq_of_lt (by omega)
  have eb : b % 2 ^ 64 = b := Nat.mod_eq_of_lt (by omega)
  show IntKind.i64.wrap ((BitVec.ofInt 64 (a : Int) ^^^ BitVec.ofInt 64 (b : Int)).toNat : Int) = _
  rw [BitVec.toNat_xor, BitVec.ofInt_natCast, BitVec.ofInt_natCast, BitVec.toNat_ofNat, BitVec.toNat_ofNat, ea, eb, IntWalk.i64_in _ (by omega)]

set_option maxHeartbeats 8000000 in
theorem barsDo_any (A : Option Addr) (n c : Nat) (ss : List Int) (cp : Bool) (d : Int) (w : World) (hn : n ≤ 1048576) (hr : RowZ w A n ss) :
    Calls Tryd.prog 62 #[.agg #[.slice A n c, .bool cp], .int .i64 d] w fun e w' => ∃ v, e = .returned (.tuple #[vR v (bdF (ss, cp) d).2, .bool (bdB (ss, cp) d)]) ∧ OwnI 3 w' w.heap.size v (bdF (ss, cp) d).1 ∧ Below w.heap.size w w' := by
  have HR := Lib.hid hr
  have HL := Lib.hid hr.len
  have b0 : Below w.heap.size w ((w.alloc (.cells #[.slice A n c, .bool cp] 25)).alloc (.cells #[.slice none 0 0, .bool false] 25)) := (below_bx w _).alloc (by simp) _
  have KA := Lib.hid ((IsBlk.new w 25 #[.slice A n c, .bool cp]).alloc (.cells #[.slice none 0 0, .bool false] 25))
  have KR := Lib.hid (IsBlk.new (w.alloc (.cells #[.slice A n c, .bool cp] 25)) 25 #[.slice none 0 0, .bool false])
  simp only [World.size_alloc] at KR
  obtain ⟨p0, p1, -⟩ := KA.out.two
  clear hr
  by_cases hok : brsOk (ss, cp) = true
  · have HOK := Lib.hid hok
    have hn6 : 1 ≤ n ∧ n ≤ 6 := by have := brs_len hok; rw [← HL.out]; exact this
    obtain ⟨hn1, hn6⟩ := hn6
    have HIN := Lib.hid (brs_in hok)
    clear hok
    go_enter Tryd.func62, Tryd.ntmps62
    go_wp2_with fail
    refine (barsValid_any A n c ss cp _ hn (HR.out.below b0)).mono ?_
    rintro e w1 ⟨rfl, hb1⟩
    rw [HOK.out]
    have K1 := Lib.hid (KA.out.keep hb1)
    have R1 := Lib.hid (KR.out.keep hb1)
    have b1 : Below w.heap.size w w1 := b0.trans (hb1.mono b0.size)
    have HR1 := Lib.hid (show RowZ w1.drew A n ss from HR.out.below b1.drew)
    have K1d := Lib.hid (show IsBlk w1.drew w.heap.size 25 #[.slice A n c, .bool cp] from K1.out)
    have hlt1 := R1.out.lt
    clear p0 p1 hb1 KA KR
    obtain ⟨p0, p1, -⟩ := K1.out.two
    go_upto_region 3 with fail
    go_cut [6, 7] from 17 to 21 (fun v u wx => v = .int .i64 (numR (ss, cp) : Nat) ∧ u = .int .i64 (n : Nat) ∧ Below w1.heap.size w1 wx)
    case first =>
      go_region_with (go_at_call 61; refine (barsNumber_any A n c ss cp _ hn6 HIN.out HR1.out).mono ?_; rintro e w2 ⟨rfl, hb2⟩; obtain ⟨q0, q1, -⟩ := (K1d.out.keep hb2).two)
      all_goals go_wp2_with fail
      all_goals go_meet
      all_goals exact ⟨rfl, rfl, ((Below.refl w1.heap.size w1).drew).trans hb2⟩
    case rest =>
      obtain ⟨rfl, rfl, hb2⟩ := hcut
      rename World => w2
      have K2 := Lib.hid (K1.out.keep hb2)
      have R2 := Lib.hid (R1.out.keep hb2)
      have b2 : Below w.heap.size w w2 := b1.trans (hb2.mono b1.size)
      clear p0 p1 hb2 K1 R1 K1d HR1 b1 hlt1
      have hNl := num_lt13 HIN.out (show (ss, cp).1.length ≤ 6 by simp only; rw [HL.out]; exact hn6)
      have HOFF := Lib.hid (show offR (numR (ss, cp)) n = (ss, cp) by rw [← HL.out]; exact num_off HIN.out)
      have HFLIP := Lib.hid (fun p hp => num_flip (b := (ss, cp)) HIN.out (p := p) hp)
      have HBIT := Lib.hid (fun p => num_bit (b := (ss, cp)) HIN.out p)
      generalize numR (ss, cp) = N at *
      go_wp2_with fail
      refine (barsOf_any N n hNl hn6 _).mono ?_
      rintro e w3 ⟨v1, rfl, hO, hb3⟩
      rw [HOFF.out] at hO
      rw [HOFF.out]
      dsimp only [vR] at hO ⊢
      obtain ⟨A1, c1, rfl⟩ := OwnI.shape hO
      rw [HL.out] at hO ⊢
      have hs2 : w.heap.size + 1 < w2.heap.size := R2.out.lt
      have O3 := Lib.hid (OwnI.alloc (OwnI.moreR (base' := w.heap.size + 2) hO hs2) (.cells #[.slice A1 n c1, .bool cp] 25))
      have K3 := Lib.hid ((K2.out.keep hb3).alloc (.cells #[.slice A1 n c1, .bool cp] 25))
      have R3 := Lib.hid ((R2.out.keep hb3).alloc (.cells #[.slice A1 n c1, .bool cp] 25))
      have S3 := Lib.hid (IsBlk.new w3 25 #[.slice A1 n c1, .bool cp])
      have b3' : Below w.heap.size w w3 := b2.trans (hb3.mono b2.size)
      have b3 : Below w.heap.size w (w3.alloc (.cells #[.slice A1 n c1, .bool cp] 25)) := b3'.alloc b3'.size _
      have hs3 : w.heap.size + 1 < w3.heap.size := (R2.out.keep hb3).lt
      clear hO hb3 K2 R2 b2 b3'
      go_upto_region 5 with fail
      generalize w3.heap.size = g at *
      generalize w3.alloc (.cells #[.slice A1 n c1, .bool cp] 25) = w4 at *
      have hn1' : (1 : Int) ≤ (n : Int) := by omega
      have hn6' : (n : Int) ≤ 6 := by omega
      go_wp2_with fail
      refine (closeIsolator_any _ _ (by omega) (by omega) _).mono ?_
      rintro e w' ⟨rfl, rfl⟩
      go_wp2_with fail
      refine (within_any _ _ _ _).mono ?_
      rintro e w' ⟨rfl, rfl⟩
      by_cases hd : inB d 0 (4 * ((n : Int) - 1) + 4 + 1) = true
      · rw [hd]
        have hd2 : 0 ≤ d ∧ d < 4 * (n : Int) + 2 := by simp only [inB, Bool.and_eq_true, decide_eq_true_eq] at hd; omega
        obtain ⟨k, rfl⟩ := Int.eq_ofNat_of_zero_le hd2.1
        have hk : k < 4 * n + 2 := by omega
        clear hd hd2
        obtain ⟨p, hp⟩ : ∃ p, p = k / 2 := ⟨_, rfl⟩
        have hpn : p ≤ 2 * n := by omega
        have hmin : min p 64 = p := by omega
        have hdiv := div_castR N p
        have hqle : N / 2 ^ p ≤ N := Nat.div_le_self _ _
        have hbit := HBIT.out p
        have hpw : 2 ^ p ≤ 4096 := by
          have h1 : 2 ^ p ≤ 2 ^ 12 := Nat.pow_le_pow_right (by decide) (by omega)
          have h2 : (2 : Nat) ^ 12 = 4096 := by decide
          omega
        have hpz : 1 ≤ 2 ^ p := Nat.one_le_two_pow
        have hxor := xor_natR (a := N) (b := 2 ^ p) (by omega) (by omega)
        have hfl := HFLIP.out p (show p ≤ 2 * ss.length by rw [HL.out]; exact hpn)
        rw [hfl] at hxor
        have hcast : ((2 ^ p : Nat) : Int) = 2 ^ p := by rw [Int.natCast_pow]; rfl
        have hNf := num_lt13 (flip_in (b := (ss, cp)) HIN.out p) (show (flipR (ss, cp) p).1.length ≤ 6 by rw [flip_len]; simp only; rw [HL.out]; exact hn6)
        have HOF2 := Lib.hid (show offR (numR (flipR (ss, cp) p)) n = flipR (ss, cp) p by have := num_off (flip_in (b := (ss, cp)) HIN.out p); rwa [flip_len, HL.out] at this)
        have HXOR := Lib.hid hxor
        have HPW := Lib.hid (show (1 : Int) ≤ 2 ^ p ∧ (2 : Int) ^ p ≤ 4096 by rw [← hcast]; omega)
        rw [hcast] at HXOR
        have HM := Lib.hid (show mayR (ss, cp) (k : Int) = (!(partR (ss, cp) p == (k % 2 == 1)) && brsOk (flipR (ss, cp) p)) by
          rw [mayR, decide_eq_true (by omega), decide_eq_true (by simp only; rw [HL.out]; omega), Int.toNat_natCast, ← hp]; rfl)
        have HDO := Lib.hid (show mayR (ss, cp) (k : Int) = true → doR (ss, cp) (k : Int) = flipR (ss, cp) p by
          intro h; rw [doR, if_pos h, Int.toNat_natCast, ← hp])
        clear hxor hcast hfl hpw hpz
        generalize N / 2 ^ p = q at *
        have ha1 := and_one (q : Int) (by omega) (by omega)
        have hb1 : (((q : Int) % 2) == 1) = partR (ss, cp) p := by rw [← hbit, Bool.eq_iff_iff]; simp; omega
        generalize partR (ss, cp) p = t at *
        generalize flipR (ss, cp) p = y at *
        generalize numR y = N2 at *
        clear hbit
        go_wp2_with fail
        refine (partMovedR k (by omega) _).mono ?_
        rintro e w' ⟨rfl, rfl⟩
        rw [← hp]
        have KP := Lib.hid hp
        clear hp
        go_upto_region 9 with fail
        clear hdiv ha1 hb1
        obtain ⟨hw1, hw2⟩ := HPW.out
        have hxor := HXOR.out
        have hN2 : (N2 : Int) < 8192 := by omega
        go_wp2_with fail
        refine (barsOf_any N2 n hNf hn6 _).mono ?_
        rintro e w5 ⟨v2, rfl, hO, hb5⟩
        have HTB := Lib.hid (rfl : t = t)
        rw [HOF2.out] at hO
        rw [HOF2.out]
        dsimp only [vR] at hO ⊢
        obtain ⟨A2, c2, rfl⟩ := OwnI.shape hO
        have hyl : y.1.length = n := by rw [← HOF2.out, off_len]
        rw [hyl] at hO ⊢
        have O5 := Lib.hid (OwnI.alloc (OwnI.moreR (base' := w.heap.size + 2) hO R3.out.lt) (.cells #[.slice A2 n c2, .bool y.2] 25))
        have P5 := Lib.hid (OwnI.alloc (OwnI.keep O3.out hb5) (.cells #[.slice A2 n c2, .bool y.2] 25))
        have R5 := Lib.hid ((R3.out.keep hb5).alloc (.cells #[.slice A2 n c2, .bool y.2] 25))
        have S5 := Lib.hid ((S3.out.keep hb5).alloc (.cells #[.slice A2 n c2, .bool y.2] 25))
        have Y5 := Lib.hid (IsBlk.new w5 25 #[.slice A2 n c2, .bool y.2])
        have b5' : Below w.heap.size w w5 := b3.trans (hb5.mono b3.size)
        have b5 : Below w.heap.size w (w5.alloc (.cells #[.slice A2 n c2, .bool y.2] 25)) := b5'.alloc b5'.size _
        have hs5 : w.heap.size + 1 < w5.heap.size := (R3.out.keep hb5).lt
        clear hO hb5 O3 R3 S3 K3 b3 b5' hxor hw1 hw2 hN2
        go_upto_region 10 with fail
        generalize w5.heap.size = gy at *
        generalize w5.alloc (.cells #[.slice A2 n c2, .bool y.2] 25) = w6 at *
        by_cases hte : (t == (k % 2 == 1)) = true
        · have HMF := Lib.hid (show mayR (ss, cp) (k : Int) = false by rw [HM.out, hte]; rfl)
          have HF := Lib.hid (show bdF (ss, cp) k = (ss, cp) by rw [bdF, if_pos HOK.out, doR, if_neg (by rw [HMF.out]; simp)])
          have HB := Lib.hid (show bdB (ss, cp) k = false by rw [bdB, HMF.out, Bool.and_false])
          obtain ⟨p0, p1, -⟩ := S5.out.two
          obtain ⟨r0, r1, s0, s1⟩ := R5.out.two
          go_wp2
          refine bodyPost_ret (v := .tuple #[vR (.slice A1 n c1) cp, .bool false]) (by simp [results, Tryd.results62, go_sem, r0, r1, vR]) rfl ⟨_, by rw [HF.out, HB.out], ?_, below_two b5 (by omega) _ _⟩
          rw [HF.out]
          exact OwnI.ret2 (OwnI.moreR P5.out (by omega)) (fun q hq => by have := (OwnI.lt P5.out q hq).1; omega) _ _
        · rw [Bool.not_eq_true] at hte
          have HRY := Lib.hid (OwnI.rowZ O5.out)
          obtain ⟨q0, q1, -⟩ := Y5.out.two
          by_cases hyo : brsOk y = true
          · have HMF := Lib.hid (show mayR (ss, cp) (k : Int) = true by rw [HM.out, hte, hyo]; rfl)
            have HF := Lib.hid (show bdF (ss, cp) k = y by rw [bdF, if_pos HOK.out]; exact HDO.out HMF.out)
            have HB := Lib.hid (show bdB (ss, cp) k = true by rw [bdB, HMF.out, HOK.out]; rfl)
            go_wp2_with fail
            refine (barsValid_any A2 n c2 y.1 y.2 _ (by omega) HRY.out).mono ?_
            rintro e w7 ⟨rfl, hb7⟩
            rw [show brsOk (y.1, y.2) = true from hyo]
            clear q0 q1
            obtain ⟨q0, q1, -⟩ := (Y5.out.keep hb7).two
            obtain ⟨r0, r1, s0, s1⟩ := (R5.out.keep hb7).two
            have b7 : Below w.heap.size w w7 := b5.trans (hb7.mono b5.size)
            go_wp2
            refine bodyPost_ret (v := .tuple #[vR (.slice A2 n c2) y.2, .bool true]) (by simp [results, Tryd.results62, go_sem, r0, r1, vR]) rfl ⟨_, by rw [HF.out, HB.out], ?_, below_two b7 (by omega) _ _⟩
            rw [HF.out]
            exact OwnI.ret2 (OwnI.moreR (OwnI.keep O5.out hb7) (by omega)) (fun q hq => by have := (OwnI.lt O5.out q hq).1; omega) _ _
          · rw [Bool.not_eq_true] at hyo
            have HMF := Lib.hid (show mayR (ss, cp) (k : Int) = false by rw [HM.out, hyo, Bool.and_false])
            have HF := Lib.hid (show bdF (ss, cp) k = (ss, cp) by rw [bdF, if_pos HOK.out, doR, if_neg (by rw [HMF.out]; simp)])
            have HB := Lib.hid (show bdB (ss, cp) k = false by rw [bdB, HMF.out, Bool.and_false])
            go_wp2_with fail
            refine (barsValid_any A2 n c2 y.1 y.2 _ (by omega) HRY.out).mono ?_
            rintro e w7 ⟨rfl, hb7⟩
            rw [show brsOk (y.1, y.2) = false from hyo]
            clear q0 q1
            obtain ⟨p0, p1, -⟩ := (S5.out.keep hb7).two
            obtain ⟨r0, r1, s0, s1⟩ := (R5.out.keep hb7).two
            have b7 : Below w.heap.size w w7 := b5.trans (hb7.mono b5.size)
            go_wp2
            refine bodyPost_ret (v := .tuple #[vR (.slice A1 n c1) cp, .bool false]) (by simp [results, Tryd.results62, go_sem, r0, r1, vR]) rfl ⟨_, by rw [HF.out, HB.out], ?_, below_two b7 (by omega) _ _⟩
            rw [HF.out]
            exact OwnI.ret2 (OwnI.moreR (OwnI.keep P5.out hb7) (by omega)) (fun q hq => by have := (OwnI.lt P5.out q hq).1; omega) _ _
      · rw [Bool.not_eq_true] at hd
        rw [hd]
        have HM := Lib.hid (show mayR (ss, cp) d = false by
          rw [Bool.eq_false_iff]; intro h; obtain ⟨k, rfl, hk, -⟩ := may_in h; simp only [HL.out] at hk; simp [inB] at hd; omega)
        have HF := Lib.hid (show bdF (ss, cp) d = (ss, cp) by rw [bdF, if_pos HOK.out, doR, if_neg (by rw [HM.out]; simp)])
        have HB := Lib.hid (show bdB (ss, cp) d = false by rw [bdB, HM.out, Bool.and_false])
        obtain ⟨p0, p1, -⟩ := S3.out.two
        obtain ⟨r0, r1, s0, s1⟩ := R3.out.two
        clear hd
        go_wp2
        refine bodyPost_ret (v := .tuple #[vR (.slice A1 n c1) cp, .bool false]) (by simp [results, Tryd.results62, go_sem, r0, r1, vR]) rfl ⟨_, by rw [HF.out, HB.out], ?_, below_two b3 (by omega) _ _⟩
        rw [HF.out]
        exact OwnI.ret2 (OwnI.moreR O3.out (by omega)) (fun q hq => by have := (OwnI.lt O3.out q hq).1; omega) _ _
  · rw [Bool.not_eq_true] at hok
    have HF := Lib.hid (show bdF (ss, cp) d = ([], false) by rw [bdF, if_neg (by rw [hok]; simp)])
    have HB := Lib.hid (show bdB (ss, cp) d = false by rw [bdB, hok, Bool.false_and])
    go_enter Tryd.func62, Tryd.ntmps62
    go_wp2_with fail
    refine (barsValid_any A n c ss cp _ hn (HR.out.below b0)).mono ?_
    rintro e w1 ⟨rfl, hb1⟩
    rw [hok]
    have R1 := Lib.hid (KR.out.keep hb1)
    have b1 : Below w.heap.size w w1 := b0.trans (hb1.mono b0.size)
    obtain ⟨r0, r1, s0, s1⟩ := R1.out.two
    clear hok p0 p1 hb1
    go_wp2
    refine bodyPost_ret (v := .tuple #[vR (.slice none 0 0) false, .bool false]) (by simp [results, Tryd.results62, go_sem, r0, r1, vR]) rfl ⟨_, by rw [HF.out, HB.out], ?_, below_two b1 (by omega) _ _⟩
    rw [HF.out]
    exact OwnI.nil
end Go.Proofs.YtafgfhjlkdjngaaDoor
