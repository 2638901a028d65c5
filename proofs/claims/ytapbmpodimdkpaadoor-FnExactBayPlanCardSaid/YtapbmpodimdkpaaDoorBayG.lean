/- Bays: the exact law of BayPlan: the walk. -/
import Derived.Test.YtapbmpodimdkpaaDoorBayE
import Derived.Test.YtapbmpodimdkpaaDoorBay6
import Derived.Test.YtapbmpodimdkpaaDoorBayD
import Derived.Test.YtapbmpodimdkpaaDoorBCC
namespace Go.Proofs.YtapbmpodimdkpaaDoor
open Go.ChangeShapes Go.WideShapes Go.ChangeAt Go.RowKit

theorem hold8 {w0 w w' : World} {g g' : Nat} {t t' : TypeId} {a b c e p q r s : Bool} (h : IsBlk w g t #[.bool a, .bool b, .bool c, .bool e]) (h' : IsBlk w g' t' #[.bool p, .bool q, .bool r, .bool s]) (hw : w0 = w) (hb : Below w0.heap.size w0 w') :
    Below w0.heap.size w0 w' ∧ w'.cell? ⟨g, 0, none⟩ = some (.bool a) ∧ w'.cell? ⟨g, 1, none⟩ = some (.bool b) ∧ w'.cell? ⟨g, 2, none⟩ = some (.bool c) ∧ w'.cell? ⟨g, 3, none⟩ = some (.bool e)
      ∧ w'.cell? ⟨g', 0, none⟩ = some (.bool p) ∧ w'.cell? ⟨g', 1, none⟩ = some (.bool q) ∧ w'.cell? ⟨g', 2, none⟩ = some (.bool r) ∧ w'.cell? ⟨g', 3, none⟩ = some (.bool s) := by
  subst hw
  obtain ⟨c0, c1, c2, c3, -⟩ := (h.keep hb).four
  obtain ⟨d0, d1, d2, d3, -⟩ := (h'.keep hb).four
  exact ⟨hb, c0, c1, c2, c3, d0, d1, d2, d3⟩
theorem must9 {w0 w : World} {p : Prop} (h0 : MustTab w0) (h : Below w0.heap.size w0 w ∧ p) : MustTab w := h0.keep h.1
theorem base9 {w0 w w' : World} {p : Prop} {v : Value} {zs : List Int} (h : Below w0.heap.size w0 w ∧ p) (_hb : Below w.heap.size w w') (hO : OwnI 3 w' w.heap.size v zs) : OwnI 3 w' w0.heap.size v zs := OwnI.more_ hO h.1.size
theorem run9 {w0 w w' : World} {p : Prop} (h : Below w0.heap.size w0 w ∧ p) (hb : Below w.heap.size w w') : Below w0.heap.size w0 w' := h.1.trans (hb.mono h.1.size)

set_option maxRecDepth 100000 in
set_option maxHeartbeats 8000000 in
theorem exactBayPlan_walk (w : World) (a b c e p q r s : Bool) (hT : MustTab w) :
    Calls Tryd.prog 11 #[.agg #[.bool a, .bool b, .bool c, .bool e], .agg #[.bool p, .bool q, .bool r, .bool s]] w fun x w' => x = .returned (.bool true) ∧ Below w.heap.size w w' := by
  have HT := Lib.hid hT
  have KA0 := Lib.hid ((IsBlk.new w 44 #[.bool a, .bool b, .bool c, .bool e]).alloc (.cells #[.bool p, .bool q, .bool r, .bool s] 44))
  have KB0 := Lib.hid (IsBlk.new (w.alloc (.cells #[.bool a, .bool b, .bool c, .bool e] 44)) 44 #[.bool p, .bool q, .bool r, .bool s])
  have a0 := Lib.hid ((below_bx w (.cells #[.bool a, .bool b, .bool c, .bool e] 44)).alloc (by simp) (.cells #[.bool p, .bool q, .bool r, .bool s] 44))
  simp only [World.size_alloc] at KB0
  clear hT
  have hlp : (planF (a, b, c, e) (p, q, r, s)).length ≤ 1048576 := Nat.le_trans (plan_le _ _) (by decide)
  go_enter Tryd.func11, Tryd.ntmps11
  go_upto_region 1 with fail
  generalize (w.alloc (.cells #[.bool a, .bool b, .bool c, .bool e] 44)).alloc (.cells #[.bool p, .bool q, .bool r, .bool s] 44) = W0 at *
  have hw0 : w.heap.size + 1 < W0.heap.size := KB0.out.lt
  have HH := Lib.hid (fun w' (hb : Below W0.heap.size W0 w') => hold8 KA0.out KB0.out rfl hb)
  go_cut [5, 6] from 13 to 20 (fun v u wx => u = .bool (planB (a, b, c, e) (p, q, r, s)) ∧ OwnI 3 wx W0.heap.size v (planF (a, b, c, e) (p, q, r, s)) ∧ Below W0.heap.size W0 wx)
  case first =>
    go_region_held3 (fun w' => Below W0.heap.size W0 w' ∧ w'.cell? ⟨w.heap.size, 0, none⟩ = some (.bool a) ∧ w'.cell? ⟨w.heap.size, 1, none⟩ = some (.bool b) ∧ w'.cell? ⟨w.heap.size, 2, none⟩ = some (.bool c) ∧ w'.cell? ⟨w.heap.size, 3, none⟩ = some (.bool e) ∧ w'.cell? ⟨w.heap.size + 1, 0, none⟩ = some (.bool p) ∧ w'.cell? ⟨w.heap.size + 1, 1, none⟩ = some (.bool q) ∧ w'.cell? ⟨w.heap.size + 1, 2, none⟩ = some (.bool r) ∧ w'.cell? ⟨w.heap.size + 1, 3, none⟩ = some (.bool s))
      (first | exact HH.out _ hB10 | exact HH.out _ hB9 | exact HH.out _ hB8 | exact HH.out _ (Below.drew (Below.refl _ _)) | exact HH.out _ (Below.refl _ _))
      (first
        | (go_at_call 29; (with_reducible refine (toBay_any a b c e _).mono ?_); rintro z w8 ⟨rfl, hb8⟩; have hB8 := run9 (by assumption) hb8)
        | (go_at_call 29; (with_reducible refine (toBay_any p q r s _).mono ?_); rintro z w9 ⟨rfl, hb9⟩; have hB9 := run9 (by assumption) hb9)
        | (go_at_call 27; (with_reducible refine (specBayPlan_any a b c e p q r s _).mono ?_); rintro z w10 ⟨vP, rfl, hOP, hb10⟩; have hB10 := run9 (by assumption) hb10; have hO10 := base9 (by assumption) hb10 hOP))
    go_wp2_with fail
    go_meet
    rename_i hF
    exact ⟨rfl, hO10, hF.1⟩
  case rest =>
    rename World => W1
    obtain ⟨rfl, hOW, hb1⟩ := hcut
    have OW := Lib.hid hOW
    have BW := Lib.hid (OwnI.lt hOW)
    have a1 := Lib.hid (a0.out.trans (hb1.mono a0.out.size))
    have KA := Lib.hid (KA0.out.keep hb1)
    have KB := Lib.hid (KB0.out.keep hb1)
    have HSZ := Lib.hid (Nat.lt_of_lt_of_le hw0 hb1.size)
    clear hOW hb1 a0 KA0 KB0 HH hw0
    go_upto_region 2 with fail
    have HH := Lib.hid (fun w' (hb : Below W1.heap.size W1 w') => hold8 KA.out KB.out rfl hb)
    go_cut [7, 8] from 21 to 28 (fun v u wx => u = .bool (planB (a, b, c, e) (p, q, r, s)) ∧ OwnI 3 wx W1.heap.size v (planF (a, b, c, e) (p, q, r, s)) ∧ Below W1.heap.size W1 wx)
    case first =>
      go_region_held3 (fun w' => Below W1.heap.size W1 w' ∧ w'.cell? ⟨w.heap.size, 0, none⟩ = some (.bool a) ∧ w'.cell? ⟨w.heap.size, 1, none⟩ = some (.bool b) ∧ w'.cell? ⟨w.heap.size, 2, none⟩ = some (.bool c) ∧ w'.cell? ⟨w.heap.size, 3, none⟩ = some (.bool e) ∧ w'.cell? ⟨w.heap.size + 1, 0, none⟩ = some (.bool p) ∧ w'.cell? ⟨w.heap.size + 1, 1, none⟩ = some (.bool q) ∧ w'.cell? ⟨w.heap.size + 1, 2, none⟩ = some (.bool r) ∧ w'.cell? ⟨w.heap.size + 1, 3, none⟩ = some (.bool s))
        (first | exact HH.out _ hB10 | exact HH.out _ hB9 | exact HH.out _ hB8 | exact HH.out _ (Below.drew (Below.refl _ _)) | exact HH.out _ (Below.refl _ _))
        (first
          | (go_at_call 29; (with_reducible refine (toBay_any a b c e _).mono ?_); rintro z w8 ⟨rfl, hb8⟩; have hB8 := run9 (by assumption) hb8)
          | (go_at_call 29; (with_reducible refine (toBay_any p q r s _).mono ?_); rintro z w9 ⟨rfl, hb9⟩; have hB9 := run9 (by assumption) hb9)
          | (go_at_call 26; (with_reducible refine (bayPlan_any a b c e p q r s _ (must9 (HT.out.keep a1.out) (by assumption))).mono ?_); rintro z w10 ⟨vP, rfl, hOP, hb10⟩; have hB10 := run9 (by assumption) hb10; have hO10 := base9 (by assumption) hb10 hOP))
      rename_i hF
      go_wp2_with fail
      go_meet
      exact ⟨rfl, hO10, hF.1⟩
    case rest =>
      rename World => W2
      obtain ⟨rfl, hOG, hb2⟩ := hcut
      have OG := Lib.hid hOG
      have BG := Lib.hid (OwnI.lt hOG)
      have hs2 := hb2.size
      have a2 := Lib.hid (a1.out.trans (hb2.mono a1.out.size))
      have OW2 := Lib.hid (OwnI.keep OW.out hb2)
      have KA2 := Lib.hid (KA.out.keep hb2)
      have KB2 := Lib.hid (KB.out.keep hb2)
      have HS2 := Lib.hid hs2
      clear hOG hb2 a1 KA KB HH OW hs2
      go_wp2_with fail
      refine (eqIntS_own hlp OG.out OW2.out).mono ?_
      rintro x w3 ⟨rfl, hb3⟩
      have HS3 := Lib.hid hb3.size
      have a3 := Lib.hid (a2.out.trans (hb3.mono a2.out.size))
      have OW3 := Lib.hid (OwnI.keep OW2.out hb3)
      have OG3 := Lib.hid (OwnI.keep OG.out hb3)
      have KA3 := Lib.hid (KA2.out.keep hb3)
      have KB3 := Lib.hid (KB2.out.keep hb3)
      clear hb3 a2 KA2 KB2 OW2 OG
      go_wp2_with fail
      refine (markIntS_gen _ _ _ 1 (by omega) (by omega) _ hlp OG3.out).mono ?_
      rintro x w4 ⟨rfl, hO, hg4⟩
      have HG := Lib.hid hg4
      have hKne : ∀ k, k < W1.heap.size → u7.ownBlock ≠ some k := fun k hk e => by have := (BG.out _ e).1; omega
      have hwW1 := HSZ.out
      have a4 := Lib.hid (a3.out.grown HG.out a3.out.size (fun k e => by have := (BG.out _ e).1; omega))
      have OG4 := Lib.hid hO
      have OW4 := Lib.hid (OwnI.far OW3.out HG.out (fun k e1 e2 => by have h1 := (BW.out _ e1).2; have h2 := (BG.out _ e2).1; omega))
      have KA := Lib.hid (KA3.out.farG HG.out (fun e => hKne _ (by omega) e))
      have KB := Lib.hid (KB3.out.farG HG.out (fun e => hKne _ (by omega) e))
      clear hO hg4 a3 OW3 OG3 KA3 KB3 hKne
      generalize hnl : (planF (a, b, c, e) (p, q, r, s)).length = nl at *
      have hm2 : ¬ ((1 : Int) + (nl : Int) < 0) := by omega
      go_wp2_with fail
      refine (heldIntS_gen _ _ _ 1 (by omega) (by omega) _ hlp OG4.out).mono ?_
      rintro x w' ⟨rfl, rfl⟩
      go_upto_region 13 with fail
      have HH := Lib.hid (fun w' (hb : Below w4.heap.size w4 w') => hold8 KA.out KB.out rfl hb)
      go_cut [11, 12] from 49 to 56 (fun v u wx => u = .bool (planB (a, b, c, e) (p, q, r, s)) ∧ OwnI 3 wx w4.heap.size v (planF (a, b, c, e) (p, q, r, s)) ∧ Below w4.heap.size w4 wx)
      case first =>
        go_region_held3 (fun w' => Below w4.heap.size w4 w' ∧ w'.cell? ⟨w.heap.size, 0, none⟩ = some (.bool a) ∧ w'.cell? ⟨w.heap.size, 1, none⟩ = some (.bool b) ∧ w'.cell? ⟨w.heap.size, 2, none⟩ = some (.bool c) ∧ w'.cell? ⟨w.heap.size, 3, none⟩ = some (.bool e) ∧ w'.cell? ⟨w.heap.size + 1, 0, none⟩ = some (.bool p) ∧ w'.cell? ⟨w.heap.size + 1, 1, none⟩ = some (.bool q) ∧ w'.cell? ⟨w.heap.size + 1, 2, none⟩ = some (.bool r) ∧ w'.cell? ⟨w.heap.size + 1, 3, none⟩ = some (.bool s))
          (first | exact HH.out _ hB10 | exact HH.out _ hB9 | exact HH.out _ hB8 | exact HH.out _ (Below.drew (Below.refl _ _)) | exact HH.out _ (Below.refl _ _))
          (first
            | (go_at_call 29; (with_reducible refine (toBay_any a b c e _).mono ?_); rintro z w8 ⟨rfl, hb8⟩; have hB8 := run9 (by assumption) hb8)
            | (go_at_call 29; (with_reducible refine (toBay_any p q r s _).mono ?_); rintro z w9 ⟨rfl, hb9⟩; have hB9 := run9 (by assumption) hb9)
            | (go_at_call 26; (with_reducible refine (bayPlan_any a b c e p q r s _ (must9 (HT.out.keep a4.out) (by assumption))).mono ?_); rintro z w10 ⟨vP, rfl, hOP, hb10⟩; have hB10 := run9 (by assumption) hb10; have hO10 := base9 (by assumption) hb10 hOP))
        rename_i hF
        go_wp2_with fail
        go_meet
        exact ⟨rfl, hO10, hF.1⟩
      case rest =>
        rename World => W5
        obtain ⟨rfl, hOH, hb5⟩ := hcut
        have OH := Lib.hid hOH
        have a5 := Lib.hid (a4.out.trans (hb5.mono a4.out.size))
        have OW5 := Lib.hid (OwnI.keep OW4.out hb5)
        have OG5 := Lib.hid (OwnI.keep OG4.out hb5)
        clear hOH hb5 a4 KA KB HH OW4 OG4
        go_wp2_with fail
        refine (eqIntS_own (by rw [hnl]; exact hlp) OH.out OW5.out).mono ?_
        rintro x w6 ⟨rfl, hb6⟩
        have a6 := Lib.hid (a5.out.trans (hb6.mono a5.out.size))
        have OG6 := Lib.hid (OwnI.keep OG5.out hb6)
        clear hb6 a5 OW5 OG5 OH
        go_wp2_with fail
        refine (heldIntS_gen _ _ _ 1 (by omega) (by omega) _ hlp OG6.out).mono ?_
        rintro x w' ⟨rfl, rfl⟩
        go_wp2
        go_ret
        exact ⟨rfl, a6.out⟩
end Go.Proofs.YtapbmpodimdkpaaDoor
