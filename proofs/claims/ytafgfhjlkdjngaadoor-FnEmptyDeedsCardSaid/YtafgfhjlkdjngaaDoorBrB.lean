/- Busbars: BarsRun, of the model. -/
import Derived.Test.YtafgfhjlkdjngaaDoorBr9
import Derived.RegionTactic
namespace Go.Proofs.YtafgfhjlkdjngaaDoor
open Go.ChangeShapes Go.WideShapes Go.ChangeAt Go.RowKit

theorem CpSt.put {w wr : World} {g B : Nat} {A : Option Addr} {n c : Nat} {cp : Bool} {v v' : Value} {x y : BB} (h : CpSt w wr g A n c cp v x) (ho : OwnI 3 wr B v' y.1) (hB : w.heap.size + 2 ≤ B) (hgB : g < B) :
    CpSt w ((wr.setCell ⟨g, 0, none⟩ v').setCell ⟨g, 1, none⟩ (.bool y.2)) g A n c cp v' y := by
  have hg := h.hg
  have hne : ∀ q, v'.ownBlock = some q → q ≠ g := fun q hq => by have := (OwnI.lt ho q hq).1; omega
  exact ⟨OwnI.ret2 (OwnI.moreR ho hB) hne _ _, below_two h.bel (by omega) _ _, h.box.far2 (by omega) _ _, h.ret.far2 (by omega) _ _, h.out.put2 _ _, h.hg, hne⟩
theorem newTwo {wr w1 : World} {t : TypeId} {a b : Value} (h : Below (wr.alloc (.cells #[a, b] t)).drew.heap.size (wr.alloc (.cells #[a, b] t)).drew w1) : IsBlk w1 wr.heap.size t #[a, b] :=
  (show IsBlk (wr.alloc (.cells #[a, b] t)).drew wr.heap.size t #[a, b] from IsBlk.new wr _ _).keep h
theorem newTwo_b {wr w1 : World} {o : Obj} (h : Below (wr.alloc o).drew.heap.size (wr.alloc o).drew w1) : Below wr.heap.size wr w1 := ((below_bx wr o).drew).trans (h.mono (by simp [World.drew]))
set_option maxRecDepth 100000 in
set_option maxHeartbeats 8000000 in
theorem specBarsRun_any (A : Option Addr) (n c : Nat) (ss : List Int) (cp : Bool) (D : Option Addr) (m dc : Nat) (ds : List Int) (w : World) (hn : n ≤ 1048576) (hr : RowZ w A n ss) (hm : m ≤ 1048576) (hrd : RowZ w D m ds) (hdr : ∀ z ∈ ds, z ≤ 9223372036854775807) :
    Calls Tryd.prog 15 #[.agg #[.slice A n c, .bool cp], .slice D m dc] w fun e w' => ∃ v, e = .returned (.tuple #[vR v (brF (ss, cp) ds).1.2, .int .i64 ((brF (ss, cp) ds).2 : Int)]) ∧ OwnI 3 w' w.heap.size v (brF (ss, cp) ds).1.1 ∧ Below w.heap.size w w' := by
  have HR := Lib.hid hr
  have HL := Lib.hid hr.len
  have HD := Lib.hid hrd
  have HDL := Lib.hid hrd.len
  have HDR := Lib.hid hdr
  have b0 : Below w.heap.size w ((w.alloc (.cells #[.slice A n c, .bool cp] 25)).alloc (.cells #[.slice none 0 0, .bool false] 25)) := (below_bx w _).alloc (by simp) _
  have KA := Lib.hid ((IsBlk.new w 25 #[.slice A n c, .bool cp]).alloc (.cells #[.slice none 0 0, .bool false] 25))
  have KR := Lib.hid (IsBlk.new (w.alloc (.cells #[.slice A n c, .bool cp] 25)) 25 #[.slice none 0 0, .bool false])
  simp only [World.size_alloc] at KR
  obtain ⟨p0, p1, -⟩ := KA.out.two
  clear hr hrd hdr
  by_cases hok : brsOk (ss, cp) = true
  · have HOK := Lib.hid hok
    have hn6 : 1 ≤ n ∧ n ≤ 6 := by have := brs_len hok; rw [← HL.out]; exact this
    obtain ⟨hn1, hn6⟩ := hn6
    have HF := Lib.hid (show brF (ss, cp) ds = runR (ss, cp) ds by rw [brF, if_pos hok])
    clear hok
    go_enter Tryd.func15, Tryd.ntmps15
    go_wp2_with fail
    refine (specBarsValid_any A n c ss cp _ hn (HR.out.below b0)).mono ?_
    rintro e w1 ⟨rfl, hb1⟩
    rw [HOK.out]
    have K1 := Lib.hid (KA.out.keep hb1)
    have R1 := Lib.hid (KR.out.keep hb1)
    have b1 : Below w.heap.size w w1 := b0.trans (hb1.mono b0.size)
    clear p0 p1 hb1 KA KR
    obtain ⟨p0, p1, -⟩ := K1.out.two
    go_wp2_with fail
    refine (specCopy_any A n c ss cp _ hn1 hn (HR.out.below b1)).mono ?_
    rintro e w2 ⟨v1, rfl, hO, hb2⟩
    dsimp only [vR]
    have hs1 := R1.out.lt
    have hs2 := hb2.size
    obtain ⟨A1, c1, rfl⟩ := OwnI.shape hO
    rw [HL.out] at hO ⊢
    have S2 := Lib.hid (show CpSt w (w2.alloc (.cells #[.slice A1 n c1, .bool cp] 25)) w2.heap.size A n c cp (.slice A1 n c1) (ss, cp) from
      ⟨OwnI.alloc (OwnI.moreR hO (by omega)) _, (b1.trans (hb2.mono b1.size)).alloc (b1.trans (hb2.mono b1.size)).size _, (K1.out.keep hb2).alloc _, (R1.out.keep hb2).alloc _, IsBlk.new w2 _ _, by omega, fun q hq => by have := (OwnI.lt hO q hq).2; omega⟩)
    clear hO hb2 b1 K1 R1 p0 p1 hs1 hs2
    go_upto_region 4 with fail
    generalize w2.heap.size = g at *
    generalize w2.alloc (.cells #[.slice A1 n c1, .bool cp] 25) = w3 at *
    go_wp2
    go_loopw [7, 8] (fun s i wr => ∃ (k q : Nat) (x : BB) (v : Value), k ≤ m ∧ i = .int .i64 k ∧ s = .int .i64 q ∧ q ≤ k ∧ runR (ss, cp) (ds.take k) = (x, q) ∧ CpSt w wr g A n c cp v x) (fun _ i _ => m - (intOf i).toNat)
    case atStart => exact ⟨0, 0, (ss, cp), _, by omega, rfl, rfl, by omega, rfl, S2.out⟩
    case round =>
      obtain ⟨k, q, x, v', hk, rfl, rfl, hqk, hrun, hst⟩ := hrel
      have SK := Lib.hid hst
      have HRUN := Lib.hid hrun
      have hxok : brsOk x = true := by have := run_okR (ds.take k) _ HOK.out; rw [hrun] at this; exact this
      have hxl : x.1.length = n := by have := run_lenR (ds.take k) (ss, cp); rw [hrun] at this; exact this.trans HL.out
      obtain ⟨x0, x1⟩ := x
      dsimp only at hxl
      obtain ⟨A1, c1, rfl⟩ := OwnI.shape SK.out.own
      have HXL := Lib.hid hxl
      have HXOK := Lib.hid hxok
      clear hst hrun S2 hxok
      rw [show (x0, x1).1.length = n from hxl] at SK
      clear hxl
      obtain ⟨p0, p1, f0, f1⟩ := SK.out.out.two
      by_cases hlt : k < m
      · obtain ⟨b', off, z, rfl, hb', hz, c0⟩ := HD.out.at_ hlt
        rw [← SK.out.bel.cell (p := ⟨b', off + k, none⟩) hb'] at c0
        have HNX := Lib.hid (run_nextR HRUN.out hz)
        have hzr := HDR.out z (List.mem_of_getElem? hz)
        have HROW := Lib.hid (OwnI.rowZ SK.out.own)
        have HBF := Lib.hid (bdF_ok HXOK.out z)
        have HBB := Lib.hid (bdB_ok HXOK.out z)
        have hyl : (doR (x0, x1) z).1.length = n := by rw [do_len]; exact HXL.out
        have HYL := Lib.hid hyl
        clear hz hyl
        have ii1 : (k : Int) < (m : Int) := by omega
        have hbw : b' < wr.heap.size := Nat.lt_of_lt_of_le hb' SK.out.bel.size
        have hgw : g < wr.heap.size := SK.out.out.lt
        have hwB : w.heap.size + 2 ≤ wr.heap.size := by have := SK.out.hg; omega
        go_upto_region 8 with fail
        go_cut [9, 10] from 23 to 31 (fun v u wx => ∃ (gy : Nat) (A2 : Option Addr) (c2 : Nat), v = .pointer (some ⟨gy, 0, none⟩) ∧ u = .bool (mayR (x0, x1) z) ∧ IsBlk wx gy 25 #[.slice A2 n c2, .bool (doR (x0, x1) z).2] ∧ OwnI 3 wx wr.heap.size (.slice A2 n c2) (doR (x0, x1) z).1 ∧ Below wr.heap.size wr wx)
        case first =>
          go_region_with (go_at_call 64; refine (specBarsDo_any A1 n c1 x0 x1 z _ hn (by first | exact HROW.out.below (Below.refl _ _).drew | exact HROW.out.below (below_bx _ _).drew) hzr).mono ?_; rintro y w5 ⟨v, rfl, hO, hb5⟩; rw [HBF.out] at hO; rw [HBF.out, HBB.out]; dsimp only [vR]; obtain ⟨A2, c2, rfl⟩ := OwnI.shape hO; rw [HYL.out] at hO ⊢; (first | (have hkk := newTwo hb5; obtain ⟨t0, t1, v0, v1⟩ := hkk.two) | skip))
          all_goals go_wp2_with fail
          all_goals go_meet
          all_goals first
            | exact ⟨w5.heap.size, A2, c2, rfl, rfl, IsBlk.new w5 _ _, OwnI.alloc (OwnI.moreR hO (Nat.le_refl _)) _, (((Below.refl wr.heap.size wr).drew).trans hb5).alloc hb5.size _⟩
            | exact ⟨wr.heap.size, A2, c2, rfl, rfl, hkk.put2 _ _, OwnI.ret2 (OwnI.moreR hO (by simp [World.drew])) (fun q hq => by have := (OwnI.lt hO q hq).1; simp [World.drew] at this; omega) _ _, below_two (newTwo_b hb5) (Nat.le_refl _) _ _⟩
        case rest =>
          obtain ⟨gy, A2, c2, rfl, rfl, hY, hOY, hb5⟩ := hcut
          rename World => w5
          have S5 := Lib.hid (SK.out.next hb5)
          have O5 := Lib.hid hOY
          clear SK p0 p1 f0 f1 c0 HROW hOY hb5
          obtain ⟨q0, q1, -⟩ := hY.two
          clear hY
          obtain ⟨p0, p1, f0, f1⟩ := S5.out.out.two
          have hqb : (q : Int) ≤ 1048576 := by omega
          by_cases hmy : mayR (x0, x1) z = true
          · have HST := Lib.hid (show runR (ss, cp) (ds.take (k + 1)) = (doR (x0, x1) z, q + 1) by rw [HNX.out, hmy]; rfl)
            rw [hmy]
            clear hmy
            go_wp2
            go_roundw
            case rel => exact ⟨k + 1, q + 1, doR (x0, x1) z, _, by omega, by go_num, by go_num, by omega, HST.out, S5.out.put O5.out hwB hgw⟩
            case measure => simp [intOf]; omega
          · rw [Bool.not_eq_true] at hmy
            have HST := Lib.hid (show runR (ss, cp) (ds.take (k + 1)) = ((x0, x1), q) by rw [HNX.out, hmy, doR, if_neg (by rw [hmy]; simp)]; rfl)
            rw [hmy]
            clear hmy
            go_wp2
            go_roundw
            case rel => exact ⟨k + 1, q, (x0, x1), _, by omega, by go_num, rfl, by omega, HST.out, S5.out⟩
            case measure => simp [intOf]; omega
      · obtain rfl : k = m := by omega
        have HFIN := Lib.hid (show brF (ss, cp) ds = ((x0, x1), q) by have := HRUN.out; rw [← HDL.out, List.take_length] at this; rw [HF.out, this])
        obtain ⟨r0, r1, s0, s1⟩ := SK.out.ret.two
        go_wp2
        refine bodyPost_ret (v := .tuple #[vR (.slice A1 n c1) x1, .int .i64 (q : Int)]) (by simp [results, Tryd.results15, go_sem, r0, r1, vR]) rfl ⟨_, by rw [HFIN.out], by rw [HFIN.out]; exact (SK.out.done _ _).1, (SK.out.done _ _).2⟩
  · rw [Bool.not_eq_true] at hok
    have HF := Lib.hid (show brF (ss, cp) ds = (([], false), 0) by rw [brF, if_neg (by rw [hok]; simp)])
    go_enter Tryd.func15, Tryd.ntmps15
    go_wp2_with fail
    refine (specBarsValid_any A n c ss cp _ hn (HR.out.below b0)).mono ?_
    rintro e w1 ⟨rfl, hb1⟩
    rw [hok]
    have R1 := Lib.hid (KR.out.keep hb1)
    have b1 : Below w.heap.size w w1 := b0.trans (hb1.mono b0.size)
    obtain ⟨r0, r1, s0, s1⟩ := R1.out.two
    clear hok p0 p1 hb1
    go_wp2
    refine bodyPost_ret (v := .tuple #[vR (.slice none 0 0) false, .int .i64 0]) (by simp [results, Tryd.results15, go_sem, r0, r1, vR]) rfl ⟨_, by rw [HF.out]; rfl, ?_, below_two b1 (by omega) _ _⟩
    rw [HF.out]
    exact OwnI.nil
end Go.Proofs.YtafgfhjlkdjngaaDoor
