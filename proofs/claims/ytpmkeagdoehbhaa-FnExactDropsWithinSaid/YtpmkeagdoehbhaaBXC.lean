/- Texts joined: flowsOf, of the program; LineFlow, FeedFlow, Overloads, NetGood, of the program. -/
import Derived.Test.YtpmkeagdoehbhaaBXB
import Derived.Deep.CutBlock
import Derived.RegionTactic

/- flowsOf, of the program. -/
namespace Go.Proofs.Ytpmkeagdoehbhaa
open Go.ChangeShapes Go.WideShapes Go.ChangeAt Go.RowKit Go.Shelf
attribute [local go_sem] Oper.semAt_some

theorem zB_made1 (n : Nat) : madeCells #[Value.int .i64 0] n = zB (List.replicate n 0) := zB_made n
abbrev FZ : Obj := .cells #[.slice none 0 0, .slice none 0 0] 74
theorem flowsOf_bad (bs : Int) (A : Option Addr) (n c : Nat) (ls : List L3) (B : Option Addr) (m d : Nat) (ts : List Bool) (U : Option Addr) (q r : Nat) (us : List U2) (w : World) (hn : n ≤ 1048576) (hr : RowL w A n ls) (hm : m ≤ 1048576) (hrt : RowT w B m ts) (hq : q ≤ 1048576) (hu : RowU w U q us)
    (h : radF bs ls ts us = false) :
    Calls Try.prog 48 #[.agg #[.int .i64 bs, .slice A n c], .slice B m d, .slice U q r] w fun e w' => e = .returned (.tuple #[.agg #[.slice none 0 0, .slice none 0 0], .bool false]) ∧ Below w.heap.size w w' := by
  have b0 : Below w.heap.size w (((w.alloc (.cells #[.int .i64 bs, .slice A n c] 33)).alloc (.cells #[.slice U q r] 36)).alloc FZ) := (((below_bx w _).alloc (by simp) _).alloc (by simp; omega) _)
  have K0 := Lib.hid (IsBlk.new ((w.alloc (.cells #[.int .i64 bs, .slice A n c] 33)).alloc (.cells #[.slice U q r] 36)) 74 #[.slice none 0 0, .slice none 0 0])
  have hcmp : ∀ w : World, (binOp .eql 78 (.slice none 0 0) (.slice none 0 0)).run Try.prog w = .ok (.bool true) w := fun _ => by kernel_rfl
  go_enter Try.func48, Try.ntmps48
  go_wp2_with fail
  refine (suppliesOf_bad bs _ n c ls _ m d ts _ q r us _ hn (hr.below b0) hm (hrt.below b0) hq (hu.below b0) h).mono ?_
  rintro e w1 ⟨rfl, hb1⟩
  obtain ⟨p0, p1, p2, p3⟩ := ((K0.out.keep hb1).alloc (.cells #[.slice none 0 0] 78)).two
  have b1 : Below w.heap.size w (w1.alloc (.cells #[.slice none 0 0] 78)) := (b0.trans (hb1.mono b0.size)).alloc (b0.trans (hb1.mono b0.size)).size _
  have hle : w.heap.size ≤ w.heap.size + 1 + 1 := by omega
  simp only [World.size_alloc] at p0 p1 p2 p3
  go_wp2
  refine bodyPost_ret (v := .tuple #[.agg #[.slice none 0 0, .slice none 0 0], .bool false]) (by simp [results, Try.results48, go_sem, p0, p1]) rfl ⟨rfl, ?_⟩
  exact (b1.setCell hle _).setCell hle _

set_option linter.unusedSimpArgs false in
set_option maxRecDepth 100000 in
set_option maxHeartbeats 4000000 in
theorem flowsOf_ok (nb : Nat) (A : Option Addr) (n c : Nat) (ls : List L3) (B : Option Addr) (m d : Nat) (ts : List Bool) (U : Option Addr) (q r : Nat) (us : List U2) (w : World) (hn : n ≤ 1048576) (hr : RowL w A n ls) (hm : m ≤ 1048576) (hrt : RowT w B m ts) (hq : q ≤ 1048576) (hu : RowU w U q us)
    (h : radF nb ls ts us = true) :
    Calls Try.prog 48 #[.agg #[.int .i64 (nb : Int), .slice A n c], .slice B m d, .slice U q r] w fun e w' => ∃ gL gB, e = .returned (.tuple #[.agg #[.slice (some ⟨gL, 0, none⟩) m m, .slice (some ⟨gB, 0, none⟩) nb nb], .bool true]) ∧ RowZ w' (some ⟨gL, 0, none⟩) m (floL ls ts us nb m) ∧ RowZ w' (some ⟨gB, 0, none⟩) nb (givL ls ts us nb) ∧ Below w.heap.size w w' := by
  obtain ⟨hok, ha, ho⟩ := radF_iff.1 h
  have HA := Lib.hid ha
  have HO := Lib.hid ho
  have HH := Lib.hid h
  have hs := okU_st hok
  have hbu := okU_bu hok
  have hbs := okU_bs hok
  have hnb : nb ≤ 8 := by omega
  have hlen := stOk_len hs
  have hqn : q = nb := by have := busesOk_len hbu; have := hu.len; omega
  subst hqn
  have hmn : m = n := by have := hr.1; have := hrt.len; omega
  subst hmn
  have hm10 : m ≤ 10 := by have := hrt.len; omega
  have HV := Lib.hid (stOk_net hs)
  have HBU := Lib.hid hbu
  have HTL := Lib.hid (show ts.length ≤ m by have := hrt.len; omega)
  have HUL := Lib.hid hu.len
  have HLL := Lib.hid hr.1
  have HR := Lib.hid hr
  have HT := Lib.hid hrt
  have HU := Lib.hid hu
  have b0 := Lib.hid (show Below w.heap.size w (((w.alloc (.cells #[.int .i64 (q : Int), .slice A m c] 33)).alloc (.cells #[.slice U q r] 36)).alloc FZ) from (((below_bx w _).alloc (by simp) _).alloc (by simp; omega) _))
  have KN := Lib.hid (((IsBlk.new w 33 #[.int .i64 (q : Int), .slice A m c]).alloc (.cells #[.slice U q r] 36)).alloc FZ)
  have KB := Lib.hid ((IsBlk.new (w.alloc (.cells #[.int .i64 (q : Int), .slice A m c] 33)) 36 #[.slice U q r]).alloc FZ)
  have KR := Lib.hid (IsBlk.new ((w.alloc (.cells #[.int .i64 (q : Int), .slice A m c] 33)).alloc (.cells #[.slice U q r] 36)) 74 #[.slice none 0 0, .slice none 0 0])
  have hcmp : ∀ (g n : Nat) (w : World), (binOp .eql 78 (.slice (some ⟨g, 0, none⟩) n n) (.slice none 0 0)).run Try.prog w = .ok (.bool false) w := fun _ _ _ => by kernel_rfl
  have hmk := makeIntsN m hm
  have hmk2 := makeIntsN q hq
  clear hr hrt hu h hok ha ho hs hbu hbs hlen
  refine (callsIn_wide (n := 6)).1 ?_
  refine callsIn_of_wp_marks Try.func48 rfl trivial ?_ rfl
  simp only [Try.ntmps48, List.size_toArray, List.length_cons, List.length_nil, Nat.reduceAdd, Nat.reduceSub, Array.replicate_succ, Array.replicate_zero, List.push_toArray, List.append_toArray, List.nil_append, List.cons_append]
  refine wpIn_wide.2 ?_
  go_wp2_with fail
  refine (suppliesOf_ok q _ m c ls _ m d ts _ q r us _ hn (HR.out.below b0.out) hm (HT.out.below b0.out) hq (HU.out.below b0.out) HH.out).mono ?_
  rintro e w1 ⟨g, Aq, cq, zs, rfl, hg, hblk, hb1, hrz, hord, hzl, hzn⟩
  simp only [World.size_alloc] at hg
  have hb1s := hb1.size
  simp only [World.size_alloc] at hb1s
  have KN1 := Lib.hid (KN.out.keep hb1)
  have KB1 := Lib.hid (KB.out.keep hb1)
  have KR1 := Lib.hid (KR.out.keep hb1)
  have KS1 := Lib.hid hblk
  have HRZ1 := Lib.hid hrz
  have HOR := Lib.hid hord
  have HZN := Lib.hid hzn
  have b1 := Lib.hid (b0.out.trans (hb1.mono b0.out.size))
  have hgs := hblk.lt
  clear hblk hrz hord hzn hb1 KN KB KR
  go_upto_region 4 with fail
  have hsz2 : (w1.alloc (.cells #[.slice (some ⟨g, 0, none⟩) q q] 78)).heap.size = w1.heap.size + 1 := World.size_alloc _ _
  have b2 := Lib.hid (b1.out.alloc b1.out.size (.cells #[.slice (some ⟨g, 0, none⟩) q q] 78))
  have KN2 := Lib.hid (KN1.out.alloc (.cells #[.slice (some ⟨g, 0, none⟩) q q] 78))
  have KB2 := Lib.hid (KB1.out.alloc (.cells #[.slice (some ⟨g, 0, none⟩) q q] 78))
  have KR2 := Lib.hid (KR1.out.alloc (.cells #[.slice (some ⟨g, 0, none⟩) q q] 78))
  have KS2 := Lib.hid (KS1.out.alloc (.cells #[.slice (some ⟨g, 0, none⟩) q q] 78))
  have HRZ2 := Lib.hid (HRZ1.out.below (below_bx w1 (.cells #[.slice (some ⟨g, 0, none⟩) q q] 78)))
  have KX2 := Lib.hid (IsBlk.new w1 78 #[.slice (some ⟨g, 0, none⟩) q q])
  generalize w1.alloc (.cells #[.slice (some ⟨g, 0, none⟩) q q] 78) = w2 at *
  generalize w1.heap.size = S at *
  clear KN1 KB1 KR1 KS1 HRZ1 b1 hcmp
  obtain ⟨G, hG1, hG2⟩ : ∃ G, G ≤ S ∧ (0 < zs.length → ∀ b off, Aq = some ⟨b, off, none⟩ → b = G) := by
    rcases Nat.eq_zero_or_pos zs.length with h0 | h0
    · exact ⟨0, by omega, fun h => absurd h (by omega)⟩
    · obtain ⟨b, off, e, hlt, _⟩ := HRZ2.out.2 h0
      exact ⟨b, by omega, fun _ b' off' e' => by rw [e] at e'; injection e' with e'; injection e' with e1; exact e1.symm⟩
  have HG2 := Lib.hid hG2
  clear hG2
  obtain ⟨p0, p1, _, _⟩ := KN2.out.two
  have hx0 : w.heap.size < w2.heap.size := KN2.out.lt
  have r0 : ∀ o : Obj, (w2.alloc o).cell? ⟨w.heap.size, 0, none⟩ = some (.int .i64 (q : Int)) := fun o => (KN2.out.alloc o).two.1
  have r1 : ∀ o : Obj, (w2.alloc o).cell? ⟨w.heap.size, 1, none⟩ = some (.slice A m c) := fun o => (KN2.out.alloc o).two.2.1
  have r2 : ∀ o o' : Obj, ((w2.alloc o).alloc o').cell? ⟨w.heap.size, 0, none⟩ = some (.int .i64 (q : Int)) := fun o o' => ((KN2.out.alloc o).alloc o').two.1
  have r3 : ∀ o o' : Obj, ((w2.alloc o).alloc o').cell? ⟨w.heap.size, 1, none⟩ = some (.slice A m c) := fun o o' => ((KN2.out.alloc o).alloc o').two.2.1
  go_cut [10] from 25 (fun v wx => ∃ gL gB F : Nat, v = .pointer (some ⟨F, 0, none⟩) ∧ S < gL ∧ S < gB ∧ S < F ∧ gL ≠ gB ∧ gL ≠ F ∧ gB ≠ F ∧ gL < wx.heap.size ∧ gB < wx.heap.size ∧ F < wx.heap.size ∧ Below w2.heap.size w2 wx ∧ IsBlk wx gL 3 (zB (List.replicate m 0)) ∧ IsBlk wx gB 3 (zB (List.replicate q 0)) ∧ IsBlk wx F 74 #[.slice (some ⟨gL, 0, none⟩) m m, .slice (some ⟨gB, 0, none⟩) q q])
  case first =>
    go_region
    all_goals go_wp2_with fail
    all_goals go_meet
    all_goals simp only [zB_made1]
    all_goals first
      | exact ⟨S + 1, S + 1 + 1, S + 1 + 1 + 1, rfl, by omega, by omega, by omega, by omega, by omega, by omega, by simp; omega, by simp; omega, by simp; omega, ((((Below.refl _ _).alloc (Nat.le_refl _) _).alloc (by simp) _).alloc (by simp; omega) _).drew, ((IsBlk.at_ hsz2 rfl rfl).alloc _).alloc _, (IsBlk.at_ (by rw [World.size_alloc, hsz2]) rfl rfl).alloc _, IsBlk.at_ (by rw [World.size_alloc, World.size_alloc, hsz2]) rfl rfl⟩
      | exact ⟨S + 1, S + 1 + 1 + 1, S + 1 + 1, rfl, by omega, by omega, by omega, by omega, by omega, by omega, by simp; omega, by simp; omega, by simp; omega, ((((Below.refl _ _).alloc (Nat.le_refl _) _).alloc (by simp) _).alloc (by simp; omega) _).drew, ((IsBlk.at_ hsz2 rfl rfl).alloc _).alloc _, IsBlk.at_ (by rw [World.size_alloc, World.size_alloc, hsz2]) rfl rfl, (IsBlk.at_ (by rw [World.size_alloc, hsz2]) rfl rfl).alloc _⟩
      | exact ⟨S + 1 + 1, S + 1, S + 1 + 1 + 1, rfl, by omega, by omega, by omega, by omega, by omega, by omega, by simp; omega, by simp; omega, by simp; omega, ((((Below.refl _ _).alloc (Nat.le_refl _) _).alloc (by simp) _).alloc (by simp; omega) _).drew, (IsBlk.at_ (by rw [World.size_alloc, hsz2]) rfl rfl).alloc _, ((IsBlk.at_ hsz2 rfl rfl).alloc _).alloc _, IsBlk.at_ (by rw [World.size_alloc, World.size_alloc, hsz2]) rfl rfl⟩
      | exact ⟨S + 1 + 1, S + 1 + 1 + 1, S + 1, rfl, by omega, by omega, by omega, by omega, by omega, by omega, by simp; omega, by simp; omega, by simp; omega, ((((Below.refl _ _).alloc (Nat.le_refl _) _).alloc (by simp) _).alloc (by simp; omega) _).drew, (IsBlk.at_ (by rw [World.size_alloc, hsz2]) rfl rfl).alloc _, IsBlk.at_ (by rw [World.size_alloc, World.size_alloc, hsz2]) rfl rfl, ((IsBlk.at_ hsz2 rfl rfl).alloc _).alloc _⟩
      | exact ⟨S + 1 + 1 + 1, S + 1, S + 1 + 1, rfl, by omega, by omega, by omega, by omega, by omega, by omega, by simp; omega, by simp; omega, by simp; omega, ((((Below.refl _ _).alloc (Nat.le_refl _) _).alloc (by simp) _).alloc (by simp; omega) _).drew, IsBlk.at_ (by rw [World.size_alloc, World.size_alloc, hsz2]) rfl rfl, ((IsBlk.at_ hsz2 rfl rfl).alloc _).alloc _, (IsBlk.at_ (by rw [World.size_alloc, hsz2]) rfl rfl).alloc _⟩
      | exact ⟨S + 1 + 1 + 1, S + 1 + 1, S + 1, rfl, by omega, by omega, by omega, by omega, by omega, by omega, by simp; omega, by simp; omega, by simp; omega, ((((Below.refl _ _).alloc (Nat.le_refl _) _).alloc (by simp) _).alloc (by simp; omega) _).drew, IsBlk.at_ (by rw [World.size_alloc, World.size_alloc, hsz2]) rfl rfl, (IsBlk.at_ (by rw [World.size_alloc, hsz2]) rfl rfl).alloc _, ((IsBlk.at_ hsz2 rfl rfl).alloc _).alloc _⟩
  case rest =>
    obtain ⟨gL, gB, F, rfl, s1, s2, s3, s4, s5, s6, s7, s8, s9, hb3, kL, kB, kF⟩ := hcut
    have b3 := Lib.hid (b2.out.trans (hb3.mono b2.out.size))
    have KN3 := Lib.hid (KN2.out.keep hb3)
    have KB3 := Lib.hid (KB2.out.keep hb3)
    have KR3 := Lib.hid (KR2.out.keep hb3)
    have KS3 := Lib.hid (KS2.out.keep hb3)
    have KX3 := Lib.hid (KX2.out.keep hb3)
    have HRZ3 := Lib.hid (HRZ2.out.below hb3)
    have KL3 := Lib.hid kL
    have KG3 := Lib.hid kB
    have KF3 := Lib.hid kF
    clear r0 r1 r2 r3 p0 p1 kL kB kF hb3 KN2 KB2 KR2 KS2 KX2 HRZ2 b2
    obtain ⟨p0, p1, _, _⟩ := KN3.out.two
    go_wp2_with fail
    refine (backward_any Aq zs.length cq _).mono ?_
    rintro e w5 ⟨rfl, hw5⟩
    have kw := ((IsBlk.new wc 3 (madeCells #[Value.int .i64 0] q)).alloc (.cells #[.slice (some ⟨wc.heap.size, 0, none⟩) q q] 27)).alloc (.cells #[.slice Aq zs.length cq] 27)
    have kx := (IsBlk.new (wc.alloc (.cells (madeCells #[Value.int .i64 0] q) 3)) 27 #[.slice (some ⟨wc.heap.size, 0, none⟩) q q]).alloc (.cells #[.slice Aq zs.length cq] 27)
    have ky := IsBlk.new ((wc.alloc (.cells (madeCells #[Value.int .i64 0] q) 3)).alloc (.cells #[.slice (some ⟨wc.heap.size, 0, none⟩) q q] 27)) 27 #[.slice Aq zs.length cq]
    have hb5 : Below wc.heap.size wc w5 := by rw [hw5]; exact ((below_bx _ _).alloc (by simp) _).alloc (by simp; omega) _
    have HRZ5 := Lib.hid (HRZ3.out.below hb5)
    have hs5 : w5.heap.size = wc.heap.size + 1 + 1 + 1 := by rw [hw5]; simp
    rw [← hw5] at kw kx ky
    simp only [World.size_alloc, zB_made1] at kw kx ky ⊢
    generalize wc.heap.size = Y at *
    have AD : FlowAd w.heap.size g S gL gB F Y (Y + 1) w5.heap.size := ⟨by omega, hgs, s1, s2, s4, s5, s6, s3, s7, s8, s9, by omega, by omega⟩
    simp only [World.size_alloc] at KB3 KR3
    have ST0 : FlowSt w w5 g S gL gB F Y (Y + 1) q m c A q r U (supF ls ts us q) (List.replicate q 0) (List.replicate m 0) (List.replicate q 0) :=
      ⟨b3.out.trans (hb5.mono (by have := KN3.out.lt; omega)), KN3.out.below hb5 (by omega), KB3.out.below hb5 (by omega), KR3.out.below hb5 (by omega), KX3.out.below hb5 (by omega), KS3.out.below hb5 (by omega), KF3.out.below hb5 s9, kx, KL3.out.below hb5 s7, KG3.out.below hb5 s8, kw, List.length_replicate, List.length_replicate, List.length_replicate⟩
    have HY := Lib.hid hs5
    clear hw5 kw kx hb5 KN3 KB3 KR3 KS3 KX3 HRZ3 KL3 KG3 KF3 b3 p0 p1 hmk hmk2
    have STX := Lib.hid ST0
    have ADX := Lib.hid AD
    have KYX := Lib.hid ky
    clear ST0 AD ky
    go_wp2_with fail
    refine (wpIn_wide (n := 6)).1 ?_
    apply (fun a₁ hassign hbody hdone hstop => wpIn_rangeFunc_ownG rfl (by omega) (gf := 73) (lb := #[.pointer (some ⟨Y + 1 + 1, 0, none⟩)]) rfl trivial (enters_of Try.func73 (by kernel_rfl) rfl)
      (backward_stops Fence.wide (6 - 1) trivial rfl (by omega) (Y + 1 + 1) G Aq cq zs (by omega) HG2.out w5 (by have := HY.out; omega) (KYX.out.cell 0) HRZ5.out) keepTwo_t (keepTwo_b (by have := HY.out; omega) (by have := HY.out; have := ADX.out.a12; omega)) (Below.refl _ _) (fun _ => rfl)
      (FlowI ls ts us zs w g S gL gB F Y (Y + 1) (Y + 1 + 1) G q m c A q r U (.slice Aq zs.length cq)) (fun _ _ _ => False) (flowI_own ADX.out (by have := HY.out; omega)) (fun _ _ _ _ _ hs _ _ => hs)
      ⟨_, _, _, STX.out, KYX.out, fun _ => vals_start⟩ a₁ hassign hbody hdone hstop)
    case hassign =>
      intro l x W K hK
      gi_wp2
      exact hK
    case hbody =>
      rintro l pre ⟨⟨ix, b⟩, hix⟩ W ⟨wl, fl, fb, ST, KS, HVA⟩ hlt
      have hbz : b ∈ zs := List.mem_of_getElem? hix
      have hbn : b < q := HZN.out b hbz
      obtain ⟨zx, hzx⟩ : ∃ z, wl[b]? = some z := ⟨_, List.getElem?_eq_getElem (by rw [ST.lw]; exact hbn)⟩
      obtain ⟨b', off', u, rfl, hb', hku, _, g1⟩ := HU.out.at_ hbn
      rw [← ST.bel.cell (p := ⟨b', off' + b * 2 + 1, none⟩) hb'] at g1
      have hld := ld_at hku
      have cY : W.cell? ⟨Y, b, none⟩ = some (.int .i64 zx) := (ST.wa.cell b).trans (zB_get hzx)
      have fY : W.frozen? ⟨Y, b, none⟩ = false := ST.wa.thaw b
      obtain ⟨cW, _⟩ := ST.wbx.at1
      obtain ⟨cU, _⟩ := ST.bus.at1
      have AD := ADX.out
      have hY0 : w.heap.size + 2 < Y := by have := AD.a1; have := AD.a2; omega
      have d1 : Y + 1 ≠ Y := by omega
      have d2 : w.heap.size + 1 ≠ Y := by omega
      have d3 : b' ≠ Y := by omega
      have ii0 : (0 : Int) ≤ (b : Int) := by omega
      have ii1 : (b : Int) < (q : Int) := by omega
      have HST := Lib.hid ST
      have HKS := Lib.hid KS
      have HHVA := Lib.hid HVA
      have HZX := Lib.hid hzx
      have HLD := Lib.hid hld
      have HBN := Lib.hid hbn
      have HADX := Lib.hid AD
      clear ST KS HVA hzx hku hlt AD hld
      gi_wp2
      refine wpIn_region_round (S := (fun w' : World => w'.cell? ⟨Y + 1, 0, none⟩ = some (.slice (some ⟨Y, 0, none⟩) q q) ∧ w'.cell? ⟨w.heap.size + 1, 0, none⟩ = some (.slice (some ⟨b', off', none⟩) q r) ∧ w'.cell? ⟨b', off' + b * 2 + 1, none⟩ = some (.int .i64 u.2))) (by kernel_rfl) (by kernel_rfl) (fun ⟨_, _, h⟩ => (h : False).elim) (⟨cW, cU, g1⟩) (fun hHeld => ?_)
      refine wpAnyH_take (i := 0) (v := .slice (some ⟨Y, 0, none⟩) q q) rfl (by kernel_rfl) (by kernel_rfl) (by kernel_rfl) (fun _ _ _ h => (h : False).elim) (Or.inl ⟨by kernel_rfl, fun w hSw => by (try dsimp only at hSw); go_simp⟩) hHeld ?_
      try simp only [Act.put, List.getElem_toArray, List.getElem_cons_zero, List.setIfInBounds_toArray, List.set_cons_zero, List.set_cons_succ]
      refine wpAnyH_take (i := 1) (v := .int .i64 (b : Int)) rfl (by kernel_rfl) (by kernel_rfl) (by kernel_rfl) (fun _ _ _ h => (h : False).elim) (Or.inl ⟨by kernel_rfl, fun w hSw => by (try dsimp only at hSw); go_simp⟩) hHeld ?_
      try simp only [Act.put, List.getElem_toArray, List.getElem_cons_zero, List.getElem_cons_succ, List.setIfInBounds_toArray, List.set_cons_zero, List.set_cons_succ]
      refine wpAnyH_take (i := 2) (v := .pointer (some ⟨Y, b, none⟩)) rfl (by kernel_rfl) (by kernel_rfl) (by kernel_rfl) (fun _ _ _ h => (h : False).elim) (Or.inl ⟨by kernel_rfl, fun w hSw => by (try dsimp only at hSw); go_simp⟩) hHeld ?_
      try simp only [Act.put, List.getElem_toArray, List.getElem_cons_zero, List.getElem_cons_succ, List.setIfInBounds_toArray, List.set_cons_zero, List.set_cons_succ]
      refine wpAnyH_take (i := 4) (v := .slice (some ⟨b', off', none⟩) q r) rfl (by kernel_rfl) (by kernel_rfl) (by kernel_rfl) (fun _ _ _ h => (h : False).elim) (Or.inl ⟨by kernel_rfl, fun w hSw => by (try dsimp only at hSw); go_simp⟩) hHeld ?_
      try simp only [Act.put, List.getElem_toArray, List.getElem_cons_zero, List.getElem_cons_succ, List.setIfInBounds_toArray, List.set_cons_zero, List.set_cons_succ]
      refine wpAnyH_take (i := 5) (v := .int .i64 (b : Int)) rfl (by kernel_rfl) (by kernel_rfl) (by kernel_rfl) (fun _ _ _ h => (h : False).elim) (Or.inl ⟨by kernel_rfl, fun w hSw => by (try dsimp only at hSw); go_simp⟩) hHeld ?_
      try simp only [Act.put, List.getElem_toArray, List.getElem_cons_zero, List.getElem_cons_succ, List.setIfInBounds_toArray, List.set_cons_zero, List.set_cons_succ]
      refine wpAnyH_take (i := 6) (v := .pointer (some ⟨b', off' + b * 2, none⟩)) rfl (by kernel_rfl) (by kernel_rfl) (by kernel_rfl) (fun _ _ _ h => (h : False).elim) (Or.inl ⟨by kernel_rfl, fun w hSw => by (try dsimp only at hSw); go_simp⟩) hHeld ?_
      try simp only [Act.put, List.getElem_toArray, List.getElem_cons_zero, List.getElem_cons_succ, List.setIfInBounds_toArray, List.set_cons_zero, List.set_cons_succ]
      refine wpAnyH_take (i := 7) (v := .pointer (some ⟨b', off' + b * 2 + 1, none⟩)) rfl (by kernel_rfl) (by kernel_rfl) (by kernel_rfl) (fun _ _ _ h => (h : False).elim) (Or.inl ⟨by kernel_rfl, fun w hSw => by (try dsimp only at hSw); go_simp⟩) hHeld ?_
      try simp only [Act.put, List.getElem_toArray, List.getElem_cons_zero, List.getElem_cons_succ, List.setIfInBounds_toArray, List.set_cons_zero, List.set_cons_succ]
      refine wpAnyH_take (i := 8) (v := .int .i64 u.2) rfl (by kernel_rfl) (by kernel_rfl) (by kernel_rfl) (fun _ _ _ h => (h : False).elim) (Or.inl ⟨by kernel_rfl, fun w hSw => by (try dsimp only at hSw); go_simp⟩) hHeld ?_
      try simp only [Act.put, List.getElem_toArray, List.getElem_cons_zero, List.getElem_cons_succ, List.setIfInBounds_toArray, List.set_cons_zero, List.set_cons_succ]
      have hHeld0 := hHeld
      refine wpAnyH_ready (rs := [3]) (by kernel_rfl) (by simp) ?_
      refine AllReadyH.cons rfl (fun K hK => ?_) AllReadyH.nil
      go_simp
      refine hK.out _ _ (hHeld0) (fun hHeld => ?_)
      clear hK K
      try simp only [Act.put, List.getElem_toArray, List.getElem_cons_zero, List.getElem_cons_succ, List.setIfInBounds_toArray, List.set_cons_zero, List.set_cons_succ]
      refine wpAnyH_take (i := 9) (v := .int .i64 (IntKind.i64.wrap (zx + u.2))) rfl (by kernel_rfl) (by kernel_rfl) (by kernel_rfl) (fun _ _ _ h => (h : False).elim) (Or.inl ⟨by kernel_rfl, fun w hSw => by (try dsimp only at hSw); go_simp⟩) hHeld ?_
      try simp only [Act.put, List.getElem_toArray, List.getElem_cons_zero, List.getElem_cons_succ, List.setIfInBounds_toArray, List.set_cons_zero, List.set_cons_succ]
      refine wpAnyH_take (i := 10) (v := .pointer (some ⟨Y, b, none⟩)) rfl (by kernel_rfl) (by kernel_rfl) (by kernel_rfl) (fun _ _ _ h => (h : False).elim) (Or.inl ⟨by kernel_rfl, fun w hSw => by (try dsimp only at hSw); go_simp⟩) hHeld ?_
      try simp only [Act.put, List.getElem_toArray, List.getElem_cons_zero, List.getElem_cons_succ, List.setIfInBounds_toArray, List.set_cons_zero, List.set_cons_succ]
      refine wpAnyH_ready (rs := [11]) (by kernel_rfl) (by simp) ?_
      refine AllReadyH.cons rfl (fun K hK => ?_) AllReadyH.nil
      go_simp
      refine hK.out _ _ (⟨(World.cell?_of_block (a := ⟨Y + 1, 0, none⟩) (Below.heap_setCell _ ⟨Y, b, none⟩ _ _ d1)).trans cW, (World.cell?_of_block (a := ⟨w.heap.size + 1, 0, none⟩) (Below.heap_setCell _ ⟨Y, b, none⟩ _ _ d2)).trans cU, (World.cell?_of_block (a := ⟨b', off' + b * 2 + 1, none⟩) (Below.heap_setCell _ ⟨Y, b, none⟩ _ _ d3)).trans g1⟩) (fun hHeld => ?_)
      clear hK K
      try simp only [Act.put, List.getElem_toArray, List.getElem_cons_zero, List.getElem_cons_succ, List.setIfInBounds_toArray, List.set_cons_zero, List.set_cons_succ]
      refine wpAnyH_done (by kernel_rfl) ?_ _
      clear hHeld hHeld0 cY fY cW cU g1
      rw [← HLD.out]
      generalize hz1 : IntKind.i64.wrap (zx + ld us b) = z1
      have HZ1 := Lib.hid hz1.symm
      have HST8 := Lib.hid (HST.out.putW HADX.out b z1).drew
      have HKP := Lib.hid (keep_trans (B := w5.heap.size) (keep_set (p := Y + 1 + 1) (q := G) W b (.int .i64 z1) (show Y + 1 + 1 ≠ Y by omega) (show G ≠ Y by have h1 := HADX.out.a3; have h2 := HADX.out.a9; omega)) (keep_drew _))
      have HKS8 := Lib.hid (show IsBlk (W.setCell ⟨Y, b, none⟩ (.int .i64 z1)).drew (Y + 1 + 1) 27 #[.slice Aq zs.length cq] from HKS.out.far (p := ⟨Y, b, none⟩) (show Y + 1 + 1 ≠ Y by omega) _)
      generalize (W.setCell ⟨Y, b, none⟩ (.int .i64 z1)).drew = W8 at *
      have hset : (wl.set b z1)[b]? = some z1 := List.getElem?_set_self (by rw [HST.out.lw]; exact hbn)
      have cY : W8.cell? ⟨Y, b, none⟩ = some (.int .i64 z1) := (HST8.out.wa.cell b).trans (zB_get hset)
      obtain ⟨cW, _⟩ := HST8.out.wbx.at1
      obtain ⟨cF0, cF1, _, _⟩ := HST8.out.fbx.two
      obtain ⟨cS, _⟩ := HST8.out.sbx.at1
      have cL := (HST8.out.sup.cell (b * 2 + 1)).trans (rowArr_get (f := fU) fU_len (supF_get (ls := ls) (ts := ts) (us := us) hbn) 1 (by omega))
      replace cL : W8.cell? ⟨g, b * 2 + 1, none⟩ = some (.int .i64 (hd1 (wayF ls ts us b))) := cL
      have HSET := Lib.hid hset
      clear hz1 hset HST HKS
      cases hw : wayF ls ts us b with
      | nil =>
        rw [hw] at cL
        replace cL : W8.cell? ⟨g, b * 2 + 1, none⟩ = some (.int .i64 (-1)) := cL
        have HW := Lib.hid hw
        have d4 : F ≠ gB := fun e => HADX.out.a7 e.symm
        have d5 : Y + 1 ≠ gB := by have := HADX.out.a10; omega
        have d6 : Y ≠ gB := by have := HADX.out.a10; omega
        obtain ⟨zb, hzb⟩ : ∃ z, fb[b]? = some z := ⟨_, List.getElem?_eq_getElem (by rw [HST8.out.lb]; exact hbn)⟩
        have cB : W8.cell? ⟨gB, b, none⟩ = some (.int .i64 zb) := (HST8.out.gi.cell b).trans (zB_get hzb)
        have fB : W8.frozen? ⟨gB, b, none⟩ = false := HST8.out.gi.thaw b
        clear hw hzb
        gi_wp2
        refine wpIn_region_round (S := (fun w' : World => w'.cell? ⟨F, 1, none⟩ = some (.slice (some ⟨gB, 0, none⟩) q q) ∧ w'.cell? ⟨Y + 1, 0, none⟩ = some (.slice (some ⟨Y, 0, none⟩) q q) ∧ w'.cell? ⟨Y, b, none⟩ = some (.int .i64 z1))) (by kernel_rfl) (by kernel_rfl) (fun ⟨_, _, h⟩ => (h : False).elim) (⟨cF1, cW, cY⟩) (fun hHeld => ?_)
        refine wpAnyH_take (i := 0) (v := .pointer (some ⟨F, 1, none⟩)) rfl (by kernel_rfl) (by kernel_rfl) (by kernel_rfl) (fun _ _ _ h => (h : False).elim) (Or.inl ⟨by kernel_rfl, fun w hSw => by (try dsimp only at hSw); go_simp⟩) hHeld ?_
        try simp only [Act.put, List.getElem_toArray, List.getElem_cons_zero, List.setIfInBounds_toArray]
        refine wpAnyH_take (i := 1) (v := .slice (some ⟨gB, 0, none⟩) q q) rfl (by kernel_rfl) (by kernel_rfl) (by kernel_rfl) (fun _ _ _ h => (h : False).elim) (Or.inl ⟨by kernel_rfl, fun w hSw => by (try dsimp only at hSw); go_simp⟩) hHeld ?_
        try simp only [Act.put, List.getElem_toArray, List.getElem_cons_zero, List.getElem_cons_succ, List.setIfInBounds_toArray, List.set_cons_zero, List.set_cons_succ]
        refine wpAnyH_take (i := 2) (v := .int .i64 (b : Int)) rfl (by kernel_rfl) (by kernel_rfl) (by kernel_rfl) (fun _ _ _ h => (h : False).elim) (Or.inl ⟨by kernel_rfl, fun w hSw => by (try dsimp only at hSw); go_simp⟩) hHeld ?_
        try simp only [Act.put, List.getElem_toArray, List.getElem_cons_zero, List.setIfInBounds_toArray]
        refine wpAnyH_take (i := 3) (v := .slice (some ⟨Y, 0, none⟩) q q) rfl (by kernel_rfl) (by kernel_rfl) (by kernel_rfl) (fun _ _ _ h => (h : False).elim) (Or.inl ⟨by kernel_rfl, fun w hSw => by (try dsimp only at hSw); go_simp⟩) hHeld ?_
        try simp only [Act.put, List.getElem_toArray, List.getElem_cons_zero, List.getElem_cons_succ, List.setIfInBounds_toArray, List.set_cons_zero, List.set_cons_succ]
        refine wpAnyH_take (i := 4) (v := .int .i64 (b : Int)) rfl (by kernel_rfl) (by kernel_rfl) (by kernel_rfl) (fun _ _ _ h => (h : False).elim) (Or.inl ⟨by kernel_rfl, fun w hSw => by (try dsimp only at hSw); go_simp⟩) hHeld ?_
        try simp only [Act.put, List.getElem_toArray, List.getElem_cons_zero, List.getElem_cons_succ, List.setIfInBounds_toArray, List.set_cons_zero, List.set_cons_succ]
        refine wpAnyH_take (i := 5) (v := .pointer (some ⟨Y, b, none⟩)) rfl (by kernel_rfl) (by kernel_rfl) (by kernel_rfl) (fun _ _ _ h => (h : False).elim) (Or.inl ⟨by kernel_rfl, fun w hSw => by (try dsimp only at hSw); go_simp⟩) hHeld ?_
        try simp only [Act.put, List.getElem_toArray, List.getElem_cons_zero, List.getElem_cons_succ, List.setIfInBounds_toArray, List.set_cons_zero, List.set_cons_succ]
        refine wpAnyH_take (i := 6) (v := .int .i64 z1) rfl (by kernel_rfl) (by kernel_rfl) (by kernel_rfl) (fun _ _ _ h => (h : False).elim) (Or.inl ⟨by kernel_rfl, fun w hSw => by (try dsimp only at hSw); go_simp⟩) hHeld ?_
        try simp only [Act.put, List.getElem_toArray, List.getElem_cons_zero, List.getElem_cons_succ, List.setIfInBounds_toArray, List.set_cons_zero, List.set_cons_succ]
        refine wpAnyH_take (i := 7) (v := .pointer (some ⟨gB, b, none⟩)) rfl (by kernel_rfl) (by kernel_rfl) (by kernel_rfl) (fun _ _ _ h => (h : False).elim) (Or.inl ⟨by kernel_rfl, fun w hSw => by (try dsimp only at hSw); go_simp⟩) hHeld ?_
        try simp only [Act.put, List.getElem_toArray, List.getElem_cons_zero, List.getElem_cons_succ, List.setIfInBounds_toArray, List.set_cons_zero, List.set_cons_succ]
        refine wpAnyH_ready (rs := [8]) (by kernel_rfl) (by simp) ?_
        refine AllReadyH.cons rfl (fun K hK => ?_) AllReadyH.nil
        go_simp
        refine hK.out _ _ (⟨(World.cell?_of_block (a := ⟨F, 1, none⟩) (Below.heap_setCell _ ⟨gB, b, none⟩ _ _ d4)).trans cF1, (World.cell?_of_block (a := ⟨Y + 1, 0, none⟩) (Below.heap_setCell _ ⟨gB, b, none⟩ _ _ d5)).trans cW, (World.cell?_of_block (a := ⟨Y, b, none⟩) (Below.heap_setCell _ ⟨gB, b, none⟩ _ _ d6)).trans cY⟩) (fun hHeld => ?_)
        clear hK K
        try simp only [Act.put, List.getElem_toArray, List.getElem_cons_zero, List.getElem_cons_succ, List.setIfInBounds_toArray, List.set_cons_zero, List.set_cons_succ]
        refine wpAnyH_done (by kernel_rfl) ?_ _
        have HKP2 := Lib.hid (keep_trans HKP.out (keep_trans (keep_set (p := Y + 1 + 1) (q := G) W8 b (.int .i64 z1) (show Y + 1 + 1 ≠ gB by have := HADX.out.a10; omega) (show G ≠ gB by have := HADX.out.a4; omega)) (keep_drew _)))
        have HFIN := Lib.hid (show FlowSt w (W8.setCell ⟨gB, b, none⟩ (.int .i64 z1)).drew g S gL gB F Y (Y + 1) q m c A q r (some ⟨b', off', none⟩) (supF ls ts us q) (wl.set b z1) fl (fb.set b z1) from (HST8.out.putB HADX.out b z1).drew)
        have HKS9 := Lib.hid (show IsBlk (W8.setCell ⟨gB, b, none⟩ (.int .i64 z1)).drew (Y + 1 + 1) 27 #[.slice Aq zs.length cq] from HKS8.out.far (p := ⟨gB, b, none⟩) (show Y + 1 + 1 ≠ gB by have := HADX.out.a10; omega) _)
        clear hHeld cY cW cF0 cF1 cS cL cB fB
        gi_wp2
        refine ⟨HKP2.out.1, HKP2.out.2, _, _, _, HFIN.out, HKS9.out, ?_⟩
        rw [List.map_append]
        exact step_feed HBU.out hnb HA.out HO.out HOR.out HTL.out HBN.out (by have := HST8.out.lw; simpa using this) HST8.out.lb HW.out HZX.out HZ1.out HHVA.out
      | cons k ws =>
        rw [hw] at cL
        replace cL : W8.cell? ⟨g, b * 2 + 1, none⟩ = some (.int .i64 (k : Int)) := cL
        obtain ⟨o, hl, hwo, hwf⟩ := wayF_cons HA.out HO.out hw
        obtain ⟨l0, hl1, hl2, hl3⟩ := hl
        have hob : otherF q ls k b = (o : Int) ∧ o < q := by
          rcases otherF_on HV.out hl1 hl2 (x := b) with ⟨o', h1, h2, h3⟩ | ⟨_, h⟩
          · rcases Ln.two h2 ⟨l0, hl1, hl2, hl3⟩ with ⟨e1, e2⟩ | ⟨e1, e2⟩
            · exact absurd e1 (Ln.ne HV.out (⟨l0, hl1, hl2, hl3⟩ : Ln ls ts k o b))
            · subst e1; exact ⟨h1, h3⟩
          · exact absurd (Ln.symm ⟨l0, hl1, hl2, hl3⟩) (h o)
        have HL := Lib.hid (show Ln ls ts k o b from ⟨l0, hl1, hl2, hl3⟩)
        have hne : o ≠ b := HL.out.ne HV.out
        have hkm : k < m := Nat.lt_of_lt_of_le HL.out.len HTL.out
        have hoq : o < q := hob.2
        have HOE := Lib.hid (fun (W' : World) (hW : Below w.heap.size w W') => show Calls Try.prog 61 #[.agg #[.int .i64 (q : Int), .slice A m c], .int .i64 (k : Int), .int .i64 (b : Int)] W' (fun e w' => e = .returned (.int .i64 (o : Int)) ∧ Below W'.heap.size W' w') by
          rw [← hob.1]; exact otherEnd_any q _ m c ls k b W' hm (HR.out.below hW))
        have HW := Lib.hid hw
        have d4 : F ≠ gL := fun e => HADX.out.a6 e.symm
        have d5 : Y + 1 ≠ gL := by have := HADX.out.a9; omega
        have d6 : Y ≠ gL := by have := HADX.out.a9; omega
        obtain ⟨zb, hzb⟩ : ∃ z, fl[k]? = some z := ⟨_, List.getElem?_eq_getElem (by rw [HST8.out.ll]; exact hkm)⟩
        have cB : W8.cell? ⟨gL, k, none⟩ = some (.int .i64 zb) := (HST8.out.li.cell k).trans (zB_get hzb)
        have fB : W8.frozen? ⟨gL, k, none⟩ = false := HST8.out.li.thaw k
        have ii2 : (0 : Int) ≤ (k : Int) := by omega
        have ii3 : (k : Int) < (m : Int) := by omega
        have ii4 : (0 : Int) ≤ (o : Int) := by omega
        have ii5 : (o : Int) < (q : Int) := by omega
        clear hw hzb hl1 hl2 hl3 hwo hwf hob
        gi_wp2
        refine wpIn_region_round (S := (fun w' : World => w'.cell? ⟨F, 0, none⟩ = some (.slice (some ⟨gL, 0, none⟩) m m) ∧ w'.cell? ⟨Y + 1, 0, none⟩ = some (.slice (some ⟨Y, 0, none⟩) q q) ∧ w'.cell? ⟨Y, b, none⟩ = some (.int .i64 z1))) (by kernel_rfl) (by kernel_rfl) (fun ⟨_, _, h⟩ => (h : False).elim) (⟨cF0, cW, cY⟩) (fun hHeld => ?_)
        refine wpAnyH_take (i := 0) (v := .pointer (some ⟨F, 0, none⟩)) rfl (by kernel_rfl) (by kernel_rfl) (by kernel_rfl) (fun _ _ _ h => (h : False).elim) (Or.inl ⟨by kernel_rfl, fun w hSw => by (try dsimp only at hSw); go_simp⟩) hHeld ?_
        try simp only [Act.put, List.getElem_toArray, List.getElem_cons_zero, List.setIfInBounds_toArray]
        refine wpAnyH_take (i := 1) (v := .slice (some ⟨gL, 0, none⟩) m m) rfl (by kernel_rfl) (by kernel_rfl) (by kernel_rfl) (fun _ _ _ h => (h : False).elim) (Or.inl ⟨by kernel_rfl, fun w hSw => by (try dsimp only at hSw); go_simp⟩) hHeld ?_
        try simp only [Act.put, List.getElem_toArray, List.getElem_cons_zero, List.setIfInBounds_toArray, List.set_cons_zero]
        refine wpAnyH_take (i := 2) (v := .int .i64 (k : Int)) rfl (by kernel_rfl) (by kernel_rfl) (by kernel_rfl) (fun _ _ _ h => (h : False).elim) (Or.inl ⟨by kernel_rfl, fun w hSw => by (try dsimp only at hSw); go_simp⟩) hHeld ?_
        try simp only [Act.put, List.getElem_toArray, List.setIfInBounds_toArray, List.set_cons_zero, List.set_cons_succ]
        refine wpAnyH_take (i := 3) (v := .slice (some ⟨Y, 0, none⟩) q q) rfl (by kernel_rfl) (by kernel_rfl) (by kernel_rfl) (fun _ _ _ h => (h : False).elim) (Or.inl ⟨by kernel_rfl, fun w hSw => by (try dsimp only at hSw); go_simp⟩) hHeld ?_
        try simp only [Act.put, List.getElem_toArray, List.getElem_cons_zero, List.setIfInBounds_toArray, List.set_cons_zero, List.set_cons_succ]
        refine wpAnyH_take (i := 4) (v := .int .i64 (b : Int)) rfl (by kernel_rfl) (by kernel_rfl) (by kernel_rfl) (fun _ _ _ h => (h : False).elim) (Or.inl ⟨by kernel_rfl, fun w hSw => by (try dsimp only at hSw); go_simp⟩) hHeld ?_
        try simp only [Act.put, List.getElem_toArray, List.getElem_cons_zero, List.getElem_cons_succ, List.setIfInBounds_toArray, List.set_cons_zero, List.set_cons_succ]
        refine wpAnyH_take (i := 5) (v := .pointer (some ⟨Y, b, none⟩)) rfl (by kernel_rfl) (by kernel_rfl) (by kernel_rfl) (fun _ _ _ h => (h : False).elim) (Or.inl ⟨by kernel_rfl, fun w hSw => by (try dsimp only at hSw); go_simp⟩) hHeld ?_
        try simp only [Act.put, List.getElem_toArray, List.getElem_cons_zero, List.getElem_cons_succ, List.setIfInBounds_toArray, List.set_cons_zero, List.set_cons_succ]
        refine wpAnyH_take (i := 6) (v := .int .i64 z1) rfl (by kernel_rfl) (by kernel_rfl) (by kernel_rfl) (fun _ _ _ h => (h : False).elim) (Or.inl ⟨by kernel_rfl, fun w hSw => by (try dsimp only at hSw); go_simp⟩) hHeld ?_
        try simp only [Act.put, List.getElem_toArray, List.getElem_cons_zero, List.getElem_cons_succ, List.setIfInBounds_toArray, List.set_cons_zero, List.set_cons_succ]
        refine wpAnyH_take (i := 7) (v := .pointer (some ⟨gL, k, none⟩)) rfl (by kernel_rfl) (by kernel_rfl) (by kernel_rfl) (fun _ _ _ h => (h : False).elim) (Or.inl ⟨by kernel_rfl, fun w hSw => by (try dsimp only at hSw); go_simp⟩) hHeld ?_
        try simp only [Act.put, List.getElem_toArray, List.getElem_cons_zero, List.getElem_cons_succ, List.setIfInBounds_toArray, List.set_cons_zero, List.set_cons_succ]
        refine wpAnyH_ready (rs := [8]) (by kernel_rfl) (by simp) ?_
        refine AllReadyH.cons rfl (fun K hK => ?_) AllReadyH.nil
        go_simp
        refine hK.out _ _ (⟨(World.cell?_of_block (a := ⟨F, 0, none⟩) (Below.heap_setCell _ ⟨gL, k, none⟩ _ _ d4)).trans cF0, (World.cell?_of_block (a := ⟨Y + 1, 0, none⟩) (Below.heap_setCell _ ⟨gL, k, none⟩ _ _ d5)).trans cW, (World.cell?_of_block (a := ⟨Y, b, none⟩) (Below.heap_setCell _ ⟨gL, k, none⟩ _ _ d6)).trans cY⟩) (fun hHeld => ?_)
        clear hK K
        try simp only [Act.put, List.getElem_toArray, List.getElem_cons_zero, List.getElem_cons_succ, List.setIfInBounds_toArray, List.set_cons_zero, List.set_cons_succ]
        refine wpAnyH_done (by kernel_rfl) ?_ _
        have HKP2 := Lib.hid (keep_trans HKP.out (keep_trans (keep_set (p := Y + 1 + 1) (q := G) W8 k (.int .i64 z1) (show Y + 1 + 1 ≠ gL by have := HADX.out.a9; omega) (show G ≠ gL by have := HADX.out.a3; omega)) (keep_drew _)))
        have HST9 := Lib.hid (show FlowSt w (W8.setCell ⟨gL, k, none⟩ (.int .i64 z1)).drew g S gL gB F Y (Y + 1) q m c A q r (some ⟨b', off', none⟩) (supF ls ts us q) (wl.set b z1) (fl.set k z1) fb from (HST8.out.putL HADX.out k z1).drew)
        have HKS9 := Lib.hid (show IsBlk (W8.setCell ⟨gL, k, none⟩ (.int .i64 z1)).drew (Y + 1 + 1) 27 #[.slice Aq zs.length cq] from HKS8.out.far (p := ⟨gL, k, none⟩) (show Y + 1 + 1 ≠ gL by have := HADX.out.a9; omega) _)
        clear hHeld cY cW cF0 cF1 cS cL cB fB
        generalize (W8.setCell ⟨gL, k, none⟩ (.int .i64 z1)).drew = W9 at *
        have hlw : (wl.set b z1).length = q := HST8.out.lw
        obtain ⟨zo, hzo⟩ : ∃ z, (wl.set b z1)[o]? = some z := ⟨_, List.getElem?_eq_getElem (by rw [hlw]; exact hoq)⟩
        have HZO := Lib.hid hzo
        have HLW := Lib.hid hlw
        have HLL8 := Lib.hid HST8.out.ll
        have cY : W9.cell? ⟨Y, b, none⟩ = some (.int .i64 z1) := (HST9.out.wa.cell b).trans (zB_get HSET.out)
        obtain ⟨cW, _⟩ := HST9.out.wbx.at1
        obtain ⟨cN0, cN1, _, _⟩ := HST9.out.box.two
        clear hzo hlw HST8 HKS8 HKP
        gi_wp2
        refine wpIn_region_round (S := (fun w' : World => w'.cell? ⟨Y + 1, 0, none⟩ = some (.slice (some ⟨Y, 0, none⟩) q q) ∧ w'.cell? ⟨w.heap.size, 0, none⟩ = some (.int .i64 (q : Int)) ∧ w'.cell? ⟨w.heap.size, 1, none⟩ = some (.slice A m c) ∧ w'.cell? ⟨Y, b, none⟩ = some (.int .i64 z1))) (by kernel_rfl) (by kernel_rfl) (fun ⟨_, _, h⟩ => (h : False).elim) (⟨cW, cN0, cN1, cY⟩) (fun hHeld => ?_)
        refine wpAnyH_take (i := 0) (v := .slice (some ⟨Y, 0, none⟩) q q) rfl (by kernel_rfl) (by kernel_rfl) (by kernel_rfl) (fun _ _ _ h => (h : False).elim) (Or.inl ⟨by kernel_rfl, fun w hSw => by (try dsimp only at hSw); go_simp⟩) hHeld ?_
        try simp only [Act.put, List.getElem_toArray, List.getElem_cons_zero, List.getElem_cons_succ, List.setIfInBounds_toArray, List.set_cons_zero, List.set_cons_succ]
        refine wpAnyH_take (i := 1) (v := .agg #[.int .i64 (q : Int), .slice A m c]) rfl (by kernel_rfl) (by kernel_rfl) (by kernel_rfl) (fun _ _ _ h => (h : False).elim) (Or.inl ⟨by kernel_rfl, fun w hSw => by (try dsimp only at hSw); go_simp⟩) hHeld ?_
        try simp only [Act.put, List.getElem_toArray, List.getElem_cons_zero, List.getElem_cons_succ, List.setIfInBounds_toArray, List.set_cons_zero, List.set_cons_succ]
        refine wpAnyH_take (i := 2) (v := .int .i64 (k : Int)) rfl (by kernel_rfl) (by kernel_rfl) (by kernel_rfl) (fun _ _ _ h => (h : False).elim) (Or.inl ⟨by kernel_rfl, fun w hSw => by (try dsimp only at hSw); go_simp⟩) hHeld ?_
        try simp only [Act.put, List.getElem_toArray, List.getElem_cons_zero, List.getElem_cons_succ, List.setIfInBounds_toArray, List.set_cons_zero, List.set_cons_succ]
        refine wpAnyH_take (i := 3) (v := .int .i64 (b : Int)) rfl (by kernel_rfl) (by kernel_rfl) (by kernel_rfl) (fun _ _ _ h => (h : False).elim) (Or.inl ⟨by kernel_rfl, fun w hSw => by (try dsimp only at hSw); go_simp⟩) hHeld ?_
        try simp only [Act.put, List.getElem_toArray, List.getElem_cons_zero, List.getElem_cons_succ, List.setIfInBounds_toArray, List.set_cons_zero, List.set_cons_succ]
        refine wpAnyH_take (i := 7) (v := .slice (some ⟨Y, 0, none⟩) q q) rfl (by kernel_rfl) (by kernel_rfl) (by kernel_rfl) (fun _ _ _ h => (h : False).elim) (Or.inl ⟨by kernel_rfl, fun w hSw => by (try dsimp only at hSw); go_simp⟩) hHeld ?_
        try simp only [Act.put, List.getElem_toArray, List.getElem_cons_zero, List.getElem_cons_succ, List.setIfInBounds_toArray, List.set_cons_zero, List.set_cons_succ]
        refine wpAnyH_take (i := 8) (v := .int .i64 (b : Int)) rfl (by kernel_rfl) (by kernel_rfl) (by kernel_rfl) (fun _ _ _ h => (h : False).elim) (Or.inl ⟨by kernel_rfl, fun w hSw => by (try dsimp only at hSw); go_simp⟩) hHeld ?_
        try simp only [Act.put, List.getElem_toArray, List.getElem_cons_zero, List.getElem_cons_succ, List.setIfInBounds_toArray, List.set_cons_zero, List.set_cons_succ]
        refine wpAnyH_take (i := 9) (v := .pointer (some ⟨Y, b, none⟩)) rfl (by kernel_rfl) (by kernel_rfl) (by kernel_rfl) (fun _ _ _ h => (h : False).elim) (Or.inl ⟨by kernel_rfl, fun w hSw => by (try dsimp only at hSw); go_simp⟩) hHeld ?_
        try simp only [Act.put, List.getElem_toArray, List.getElem_cons_zero, List.getElem_cons_succ, List.setIfInBounds_toArray, List.set_cons_zero, List.set_cons_succ]
        refine wpAnyH_take (i := 10) (v := .int .i64 z1) rfl (by kernel_rfl) (by kernel_rfl) (by kernel_rfl) (fun _ _ _ h => (h : False).elim) (Or.inl ⟨by kernel_rfl, fun w hSw => by (try dsimp only at hSw); go_simp⟩) hHeld ?_
        try simp only [Act.put, List.getElem_toArray, List.getElem_cons_zero, List.getElem_cons_succ, List.setIfInBounds_toArray, List.set_cons_zero, List.set_cons_succ]
        refine wpAnyH_ready (rs := [4]) (by kernel_rfl) (by simp) ?_
        refine AllReadyH.cons rfl (fun K hK => ?_) AllReadyH.nil
        go_simp
        refine (HOE.out _ HST9.out.drew.bel).mono ?_
        rintro e w3 ⟨rfl, hb3⟩
        go_simp
        refine hK.out _ _ (⟨(HST9.out.drew.next hb3).wbx.at1.1, (HST9.out.drew.next hb3).box.two.1, (HST9.out.drew.next hb3).box.two.2.1, ((HST9.out.drew.next hb3).wa.cell b).trans (zB_get HSET.out)⟩) (fun hHeld => ?_)
        clear hK K
        try simp only [Act.put, List.getElem_toArray, List.getElem_cons_zero, List.getElem_cons_succ, List.setIfInBounds_toArray, List.set_cons_zero, List.set_cons_succ]
        have HST3 := Lib.hid (HST9.out.drew.next hb3)
        have HB3 := Lib.hid hb3
        clear hb3
        have cO : w3.cell? ⟨Y, o, none⟩ = some (.int .i64 zo) := (HST3.out.wa.cell o).trans (zB_get HZO.out)
        have fO : w3.frozen? ⟨Y, o, none⟩ = false := HST3.out.wa.thaw o
        refine wpAnyH_take (i := 5) (v := .pointer (some ⟨Y, o, none⟩)) rfl (by kernel_rfl) (by kernel_rfl) (by kernel_rfl) (fun _ _ _ h => (h : False).elim) (Or.inl ⟨by kernel_rfl, fun w hSw => by (try dsimp only at hSw); go_simp⟩) hHeld ?_
        try simp only [Act.put, List.getElem_toArray, List.getElem_cons_zero, List.getElem_cons_succ, List.setIfInBounds_toArray, List.set_cons_zero, List.set_cons_succ]
        have hHeld0 := hHeld
        refine wpAnyH_ready (rs := [6]) (by kernel_rfl) (by simp) ?_
        refine AllReadyH.cons rfl (fun K hK => ?_) AllReadyH.nil
        go_simp
        refine hK.out _ _ (hHeld0) (fun hHeld => ?_)
        clear hK K
        try simp only [Act.put, List.getElem_toArray, List.getElem_cons_zero, List.getElem_cons_succ, List.setIfInBounds_toArray, List.set_cons_zero, List.set_cons_succ]
        refine wpAnyH_take (i := 11) (v := .int .i64 (IntKind.i64.wrap (zo + z1))) rfl (by kernel_rfl) (by kernel_rfl) (by kernel_rfl) (fun _ _ _ h => (h : False).elim) (Or.inl ⟨by kernel_rfl, fun w hSw => by (try dsimp only at hSw); go_simp⟩) hHeld ?_
        try simp only [Act.put, List.getElem_toArray, List.getElem_cons_zero, List.getElem_cons_succ, List.setIfInBounds_toArray, List.set_cons_zero, List.set_cons_succ]
        refine wpAnyH_take (i := 12) (v := .pointer (some ⟨Y, o, none⟩)) rfl (by kernel_rfl) (by kernel_rfl) (by kernel_rfl) (fun _ _ _ h => (h : False).elim) (Or.inl ⟨by kernel_rfl, fun w hSw => by (try dsimp only at hSw); go_simp⟩) hHeld ?_
        try simp only [Act.put, List.getElem_toArray, List.getElem_cons_zero, List.getElem_cons_succ, List.setIfInBounds_toArray, List.set_cons_zero, List.set_cons_succ]
        refine wpAnyH_ready (rs := [13]) (by kernel_rfl) (by simp) ?_
        refine AllReadyH.cons rfl (fun K hK => ?_) AllReadyH.nil
        go_simp
        refine hK.out _ _ (⟨(HST3.out.putW HADX.out o (IntKind.i64.wrap (zo + z1))).wbx.at1.1, (HST3.out.putW HADX.out o (IntKind.i64.wrap (zo + z1))).box.two.1, (HST3.out.putW HADX.out o (IntKind.i64.wrap (zo + z1))).box.two.2.1, ((HST3.out.putW HADX.out o (IntKind.i64.wrap (zo + z1))).wa.cell b).trans (zB_get ((List.getElem?_set_ne hne).trans HSET.out))⟩) (fun hHeld => ?_)
        clear hK K
        try simp only [Act.put, List.getElem_toArray, List.getElem_cons_zero, List.getElem_cons_succ, List.setIfInBounds_toArray, List.set_cons_zero, List.set_cons_succ]
        refine wpAnyH_done (by kernel_rfl) ?_ _
        have HKP3 := Lib.hid (keep_trans HKP2.out (keep_trans (keep_drew W9) (keep_trans (keep_below HB3.out HKS9.out.lt (by have := HST9.out.sbx.lt; simp; omega)) (keep_set (p := Y + 1 + 1) (q := G) w3 o (.int .i64 (IntKind.i64.wrap (zo + z1))) (show Y + 1 + 1 ≠ Y by omega) (show G ≠ Y by have := HADX.out.a3; have := HADX.out.a9; omega)))))
        have HFIN := Lib.hid (HST3.out.putW HADX.out o (IntKind.i64.wrap (zo + z1)))
        have HKS10 := Lib.hid (((show IsBlk W9.drew (Y + 1 + 1) 27 #[.slice Aq zs.length cq] from HKS9.out).keep HB3.out).far (p := ⟨Y, o, none⟩) (show Y + 1 + 1 ≠ Y by omega) (.int .i64 (IntKind.i64.wrap (zo + z1))))
        clear hHeld hHeld0 cY cW cN0 cN1 cO fO
        gi_wp2
        refine ⟨HKP3.out.1, HKP3.out.2, _, _, _, HFIN.out, HKS10.out, ?_⟩
        rw [List.map_append]
        have HZO2 := HZO.out
        rw [List.getElem?_set_ne (fun e => hne e.symm)] at HZO2
        exact step_line HBU.out hnb hm10 HA.out HO.out HOR.out HTL.out HBN.out hoq (by have := HLW.out; simpa using this) HLL8.out HW.out HL.out HZX.out HZ1.out HZO2 rfl HHVA.out
    case hdone =>
      rintro D xs W hD hxs ⟨wl, fl, fb, ST, KS, HVA⟩ hK
      rw [hxs] at HVA
      obtain ⟨efl, efb⟩ := vals_end HA.out HO.out HOR.out ST.ll ST.lb (HVA (List.prefix_refl _))
      subst efl efb
      obtain ⟨cF0, cF1, _, _⟩ := ST.fbx.two
      obtain ⟨cR0, cR1, cR2, cR3⟩ := ST.res.two
      have HST := Lib.hid ST
      have HKD := Lib.hid (((KeepsOthers.setCell (W.setCell ⟨w.heap.size + 1 + 1, 0, none⟩ (.slice (some ⟨gL, 0, none⟩) m m)) ⟨w.heap.size + 1 + 1, 1, none⟩ (.slice (some ⟨gB, 0, none⟩) q q)).same D _ ((KeepsOthers.setCell W ⟨w.heap.size + 1 + 1, 0, none⟩ (.slice (some ⟨gL, 0, none⟩) m m)).same D _ hK rfl) rfl))
      have HD := Lib.hid hD
      clear ST KS HVA hK
      gi_wp2
      go_wp2_with fail
      refine ⟨by simp, .inl ⟨_, _, rfl, run_takeDeferred HKD.out, ?_⟩⟩
      have HG := Lib.hid (grownBy_putObj' ((W.setCell ⟨w.heap.size + 1 + 1, 0, none⟩ (.slice (some ⟨gL, 0, none⟩) m m)).setCell ⟨w.heap.size + 1 + 1, 1, none⟩ (.slice (some ⟨gB, 0, none⟩) q q)) D (.deferred none))
      have hX1 : w.heap.size + 1 + 1 < D := by have h1 := ADX.out.a1; have h2 := ADX.out.a2; have h3 := ADX.out.a3; have h4 := ADX.out.a9; have h5 := ADX.out.a12; have h6 := ADX.out.a13; omega
      have hL1 : gL < D := by have h4 := ADX.out.a9; have h5 := ADX.out.a12; have h6 := ADX.out.a13; omega
      have hB1 : gB < D := by have h4 := ADX.out.a10; have h5 := ADX.out.a12; have h6 := ADX.out.a13; omega
      have hXL : gL ≠ w.heap.size + 1 + 1 := by have h1 := ADX.out.a1; have h2 := ADX.out.a2; have h3 := ADX.out.a3; omega
      have hXB : gB ≠ w.heap.size + 1 + 1 := by have h1 := ADX.out.a1; have h2 := ADX.out.a2; have h3 := ADX.out.a4; omega
      have kR := IsBlk.farG ((HST.out.res.put 0 (.slice (some ⟨gL, 0, none⟩) m m)).put 1 (.slice (some ⟨gB, 0, none⟩) q q)) HG.out (fun e => by injection e with e; omega)
      have kL := IsBlk.farG ((HST.out.li.far (p := ⟨w.heap.size + 1 + 1, 0, none⟩) hXL (.slice (some ⟨gL, 0, none⟩) m m)).far (p := ⟨w.heap.size + 1 + 1, 1, none⟩) hXL (.slice (some ⟨gB, 0, none⟩) q q)) HG.out (fun e => by injection e with e; omega)
      have kB := IsBlk.farG ((HST.out.gi.far (p := ⟨w.heap.size + 1 + 1, 0, none⟩) hXB (.slice (some ⟨gL, 0, none⟩) m m)).far (p := ⟨w.heap.size + 1 + 1, 1, none⟩) hXB (.slice (some ⟨gB, 0, none⟩) q q)) HG.out (fun e => by injection e with e; omega)
      have hbF := ((HST.out.bel.setCell (p := ⟨w.heap.size + 1 + 1, 0, none⟩) (show w.heap.size ≤ w.heap.size + 1 + 1 by omega) (.slice (some ⟨gL, 0, none⟩) m m)).setCell (p := ⟨w.heap.size + 1 + 1, 1, none⟩) (show w.heap.size ≤ w.heap.size + 1 + 1 by omega) (.slice (some ⟨gB, 0, none⟩) q q)).grown HG.out (by simp; have := HST.out.bel.size; omega) (fun k e => by injection e with e; omega)
      have c0 := kR.cell 0
      have c1 := kR.cell 1
      simp only [List.setIfInBounds_toArray, List.set_cons_zero, List.set_cons_succ, List.getElem?_toArray, List.getElem?_cons_zero, List.getElem?_cons_succ] at c0 c1
      refine ⟨.tuple #[.agg #[.slice (some ⟨gL, 0, none⟩) m m, .slice (some ⟨gB, 0, none⟩) q q], .bool true], ?_, gL, gB, rfl, kL.rowZ floL_len, kB.rowZ givL_len, hbF⟩
      simp [results, Try.results48, go_sem, c0, c1]
    case hstop =>
      rintro D cc pre W _ _ h _
      exact h.elim
end Go.Proofs.Ytpmkeagdoehbhaa

/- LineFlow, FeedFlow, Overloads, NetGood, of the program. -/
namespace Go.Proofs.Ytpmkeagdoehbhaa
open Go.ChangeShapes Go.WideShapes Go.ChangeAt Go.RowKit

/-- The lines among the first k whose flow is greater than their Most. -/
def overB (ls : List L3) (fl : List Int) (k : Nat) : Bool := decide (mostOf ls k < fl.getD k 0)
def overTo (ls : List L3) (fl : List Int) (k : Nat) : List Nat := (List.range k).filter (overB ls fl)
theorem overTo_next (ls : List L3) (fl : List Int) (k : Nat) : ofN (overTo ls fl (k + 1)) = ofN (overTo ls fl k) ++ (if mostOf ls k < fl.getD k 0 then [(k : Int)] else []) := by
  unfold overTo
  by_cases h : mostOf ls k < fl.getD k 0
  · rw [filter_yes (by simpa [overB] using h), if_pos h]; simp [ofN]
  · rw [filter_no (by simpa [overB] using h), if_neg h]; simp
theorem overTo_len (ls : List L3) (fl : List Int) (k : Nat) : (overTo ls fl k).length ≤ k := Nat.le_trans (List.length_filter_le _ _) (by simp)
theorem overTo_flo {ls : List L3} {ts : List Bool} {us : List U2} {nb m : Nat} : ∀ {k : Nat}, k ≤ m → overTo ls (floL ls ts us nb m) k = ovTo ls ts us nb k := by
  intro k hk
  unfold overTo ovTo
  refine List.filter_congr fun j hj => ?_
  rw [overB, ovB, List.getD_eq_getElem?_getD, floL_get (by have := List.mem_range.1 hj; omega)]
  rfl
theorem line_at {w : World} {A : Option Addr} {n k : Nat} {ls : List L3} (h : RowL w A n ls) (hk : k < n) : ∃ b off l, A = some ⟨b, off, none⟩ ∧ b < w.heap.size ∧ ls[k]? = some l ∧ w.cell? ⟨b, off + k * 3 + 2, none⟩ = some (.int .i64 l.2.2) := by
  obtain ⟨b, off, e, hb, hc⟩ := h.2 (by omega)
  have hkl : ls[k]? = some (ls[k]'(by have := h.1; omega)) := List.getElem?_eq_getElem _
  exact ⟨b, off, _, e, hb, hkl, (hc k _ hkl).2.2⟩

set_option maxRecDepth 100000 in
set_option maxHeartbeats 1000000 in
theorem overloadsOf_any (L : Option Addr) (m cm : Nat) (fl : List Int) (G : Option Addr) (m2 c2 : Nat) (bs : Int) (A : Option Addr) (n c : Nat) (ls : List L3) (w : World) (hm : m ≤ 1000) (hmn : m ≤ n) (hf : RowZ w L m fl) (hr : RowL w A n ls) :
    Calls Try.prog 54 #[.agg #[.slice L m cm, .slice G m2 c2], .agg #[.int .i64 bs, .slice A n c]] w fun e w' => ∃ v, e = .returned v ∧ OwnI 3 w' w.heap.size v (ofN (overTo ls fl m)) ∧ Below w.heap.size w w' := by
  obtain ⟨i0, hi, hz0, hz1, hz2⟩ := info_parts intInfo6
  have HI := Lib.hid hi
  have HR := Lib.hid hr
  have HF := Lib.hid hf
  have b0 : Below w.heap.size w ((w.alloc (.cells #[.slice L m cm, .slice G m2 c2] 74)).alloc (.cells #[.int .i64 bs, .slice A n c] 33)) := (below_bx w _).alloc (by simp) _
  have KF := Lib.hid ((IsBlk.new w 74 #[.slice L m cm, .slice G m2 c2]).alloc (.cells #[.int .i64 bs, .slice A n c] 33))
  have KN := Lib.hid (IsBlk.new (w.alloc (.cells #[.slice L m cm, .slice G m2 c2] 74)) 33 #[.int .i64 bs, .slice A n c])
  have hsz : ((w.alloc (.cells #[.slice L m cm, .slice G m2 c2] 74)).alloc (.cells #[.int .i64 bs, .slice A n c] 33)).heap.size = w.heap.size + 1 + 1 := by simp
  clear hr hf hi
  go_enter Try.func54, Try.ntmps54
  go_upto_region 2 with fail
  generalize (w.alloc (.cells #[.slice L m cm, .slice G m2 c2] 74)).alloc (.cells #[.int .i64 bs, .slice A n c] 33) = w1 at *
  simp only [World.size_alloc] at KN ⊢
  obtain ⟨p0, p1, _, _⟩ := KF.out.two
  go_wp2
  clear p0 p1
  go_loopw [5, 11] (fun v i wr => ∃ k : Nat, k ≤ m ∧ i = .int .i64 k ∧ OwnI 3 wr (w.heap.size + 1 + 1) v (ofN (overTo ls fl k)) ∧ Below (w.heap.size + 1 + 1) w1 wr ∧ w.heap.size + 1 + 1 ≤ wr.heap.size) (fun _ i _ => m - (intOf i).toNat)
  case atStart => exact ⟨0, by omega, rfl, World.ownsRow_nil _ _ _ _, Below.refl _ _, by omega⟩
  case round =>
    obtain ⟨k, hk, rfl, hown, hbel, hsw⟩ := hrel
    have KO := Lib.hid hown
    have hbw : Below w.heap.size w wr := b0.trans (hbel.mono (by omega))
    clear hown
    by_cases hlt : k < m
    · obtain ⟨bl, offl, z, rfl, hbl, hkz, e0⟩ := (HF.out.below hbw).at_ hlt
      obtain ⟨b, off, l, rfl, hb, hkl, g2⟩ := line_at (HR.out.below hbw) (show k < n by omega)
      obtain ⟨p0, p1, _, _⟩ := (KN.out.below hbel (by omega)).two
      have hmo := mostOf_at hkl
      have hzd : fl.getD k 0 = z := by rw [List.getD_eq_getElem?_getD, hkz]; rfl
      have HN := Lib.hid (overTo_next ls fl k)
      rw [hmo, hzd] at HN
      have hle : (ofN (overTo ls fl k)).length ≤ k := by rw [ofN_len]; exact overTo_len ls fl k
      have ii0 : (0 : Int) ≤ (k : Int) := by omega
      have ii1 : (k : Int) < (m : Int) := by omega
      have ii2 : (k : Int) < (n : Int) := by omega
      clear hmo hzd hkz hkl
      by_cases hov : l.2.2 < z
      · rw [if_pos hov] at HN
        go_wp2_with (
          at_builtin
          refine wpList_append_own _ rfl _ _ _ rfl (w.heap.size + 1 + 1) 3 i0 (.int .i64 0) 1 8 Try.underlying27 HI.out hz0 hz1 hz2 rfl (by decide) _ _ _ rfl (World.ownsRow.alloc KO.out _) ⟨wr.heap.size, 0, none⟩ 1 1 [.int .i64 (k : Int)] rfl rfl ?c1 ?c2 ?c3 ?c4 ?c5 ?_
          case c1 => exact cell_one_new _ _ _
          case c2 => intro u hu; simp at hu; subst hu; rfl
          case c3 => simp only [maxLen]; omega
          case c4 => omega
          case c5 => simp; omega
          intro v' w4 hown' hgrow _
          have hb4 : Below (w.heap.size + 1 + 1) w1 w4 := (hbel.alloc hsw _).grown hgrow (by simp; omega) (fun q hq => (World.ownsRow.lt KO.out q hq).1))
        go_roundw
        case rel => exact ⟨k + 1, by omega, by go_num, by rw [HN.out]; simpa [OwnI] using hown', hb4, by have := hb4.size; omega⟩
        case measure => simp [intOf]; omega
      · rw [if_neg hov] at HN
        go_wp2
        go_roundw
        case rel => exact ⟨k + 1, by omega, by go_num, by rw [HN.out]; simpa using KO.out, hbel, hsw⟩
        case measure => simp [intOf]; omega
    · obtain rfl : k = m := by omega
      go_wp2
      go_ret
      exact ⟨_, rfl, OwnI.more KO.out (by omega), hbw⟩

theorem overTo_zero (ls : List L3) (fl : List Int) : ofN (overTo ls fl 0) = [] := rfl
theorem within_no (x : Int) : inB x 0 (-1) = false := by rw [Bool.eq_false_iff]; intro h; simp [inB] at h; omega

theorem enough_next {ls : List L3} {ts : List Bool} {us : List U2} {nb k : Nat} (h : EnoughTo ls ts us nb k) (h2 : 0 ≤ fd us k) (h3 : ¬ fd us k < givF ls ts us nb k) : EnoughTo ls ts us nb (k + 1) := by
  intro b hb hf
  by_cases e : b = k
  · subst e
    rw [givF, if_pos hf] at h3
    omega
  · exact h b (by omega) hf
theorem enough_bad {ls : List L3} {ts : List Bool} {us : List U2} {nb k m : Nat} (hk : k < m) (h2 : 0 ≤ fd us k) (h3 : fd us k < givF ls ts us nb k) : ¬ EnoughTo ls ts us nb m := by
  intro h
  rw [givF] at h3
  split at h3
  · rename_i hf
    have := h k hk hf
    omega
  · omega

set_option maxRecDepth 100000 in
set_option maxHeartbeats 1000000 in
theorem netGood_any (bs : Int) (A : Option Addr) (n c : Nat) (ls : List L3) (B : Option Addr) (m d : Nat) (ts : List Bool) (U : Option Addr) (q r : Nat) (us : List U2) (w : World) (hn : n ≤ 1048576) (hr : RowL w A n ls) (hm : m ≤ 1048576) (hrt : RowT w B m ts) (hq : q ≤ 1048576) (hu : RowU w U q us) :
    Calls Try.prog 37 #[.agg #[.int .i64 bs, .slice A n c], .slice B m d, .slice U q r] w fun e w' => e = .returned (.bool (godF bs ls ts us)) ∧ Below w.heap.size w w' := by
  have HR := Lib.hid hr
  have HT := Lib.hid hrt
  have HU := Lib.hid hu
  have HTL := Lib.hid hrt.len
  have HLL := Lib.hid hr.1
  have b0 := below_bx w (.cells #[.int .i64 bs, .slice A n c] 33)
  have K0 := Lib.hid (IsBlk.new w 33 #[.int .i64 bs, .slice A n c])
  clear hr hrt hu
  cases hrad : radF bs ls ts us
  · have E1 := Lib.hid (show godF bs ls ts us = false by rw [godF, hrad]; rfl)
    have HO := Lib.hid hrad
    clear hrad
    go_enter Try.func37, Try.ntmps37
    go_wp2_with fail
    refine (flowsOf_bad bs _ n c ls _ m d ts _ q r us _ hn (HR.out.below b0) hm (HT.out.below b0) hq (HU.out.below b0) HO.out).mono ?_
    rintro e w1 ⟨rfl, hb1⟩
    have a1 := b0.trans (hb1.mono b0.size)
    go_wp2
    go_ret
    exact ⟨retB E1.out.symm, a1.alloc a1.size _⟩
  · have hok := (radF_iff.1 hrad).1
    have hbs := okU_bs hok
    have hbu := okU_bu hok
    have hml := stOk_len (okU_st hok)
    rw [HTL.out] at hml
    obtain ⟨nb, rfl⟩ := Int.eq_ofNat_of_zero_le (show 0 ≤ bs by omega)
    have hqn : q = nb := by have := busesOk_len hbu; have := HU.out.len; omega
    subst hqn
    have E1 := Lib.hid (show ovlF q ls ts us = ofN (overTo ls (floL ls ts us q m) m) by rw [ovlF, if_pos hrad, HTL.out, overTo_flo (Nat.le_refl _)]; rfl)
    have HG := Lib.hid (show godF q ls ts us = true ↔ (ofN (overTo ls (floL ls ts us q m) m)).length = 0 ∧ EnoughTo ls ts us q q by rw [godF_iff, E1.out]; exact ⟨fun h => h.2, fun h => ⟨hrad, h⟩⟩)
    have HFD := Lib.hid (fun k => (fd_bd hbu k).1)
    have HO := Lib.hid hrad
    have hmn : m ≤ n := by have := HLL.out; omega
    have hm1000 : m ≤ 1000 := by omega
    clear hrad hok hbs hbu hml
    go_enter Try.func37, Try.ntmps37
    go_wp2_with fail
    refine (flowsOf_ok q _ n c ls _ m d ts _ q r us _ hn (HR.out.below b0) hm (HT.out.below b0) hq (HU.out.below b0) HO.out).mono ?_
    rintro e w1 ⟨gL, gB, rfl, hL, hB, hb1⟩
    have a1 := b0.trans (hb1.mono b0.size)
    have b2 := Lib.hid (a1.alloc a1.size (.cells #[.slice (some ⟨gL, 0, none⟩) m m, .slice (some ⟨gB, 0, none⟩) q q] 74))
    have hL2 := Lib.hid (hL.below (below_bx w1 (.cells #[.slice (some ⟨gL, 0, none⟩) m m, .slice (some ⟨gB, 0, none⟩) q q] 74)))
    have hB2 := Lib.hid (hB.below (below_bx w1 (.cells #[.slice (some ⟨gL, 0, none⟩) m m, .slice (some ⟨gB, 0, none⟩) q q] 74)))
    have KF := Lib.hid (IsBlk.new w1 74 #[.slice (some ⟨gL, 0, none⟩) m m, .slice (some ⟨gB, 0, none⟩) q q])
    obtain ⟨p0, p1, _, _⟩ := ((K0.out.keep hb1).alloc (.cells #[.slice (some ⟨gL, 0, none⟩) m m, .slice (some ⟨gB, 0, none⟩) q q] 74)).two
    clear hL hB
    go_wp2_with fail
    refine (overloadsOf_any (some ⟨gL, 0, none⟩) m m (floL ls ts us q m) (some ⟨gB, 0, none⟩) q q (q : Int) A n c ls (w1.alloc (.cells #[.slice (some ⟨gL, 0, none⟩) m m, .slice (some ⟨gB, 0, none⟩) q q] 74)) hm1000 hmn hL2.out (HR.out.below b2.out)).mono ?_
    rintro e w2 ⟨v, rfl, hO2, hb2⟩
    obtain ⟨A2, c2, rfl, _⟩ := hO2.sl
    have b3 := Lib.hid (b2.out.trans (hb2.mono b2.out.size))
    have hB3 := Lib.hid (hB2.out.below hb2)
    obtain ⟨f0, f1, _, _⟩ := (KF.out.keep hb2).two
    clear hO2 hb2 hL2 hB2 p0 p1
    by_cases hz : (ofN (overTo ls (floL ls ts us q m) m)).length = 0
    · have HG2 := Lib.hid (show godF q ls ts us = true ↔ EnoughTo ls ts us q q by rw [HG.out]; exact ⟨fun h => h.2, fun h => ⟨hz, h⟩⟩)
      rw [hz]
      clear hz
      go_wp2
      clear f0 f1
      go_loopw [30] (fun i wr => ∃ k : Nat, k ≤ q ∧ i = .int .i64 k ∧ wr = w2 ∧ EnoughTo ls ts us q k) (fun i _ => q - (intOf i).toNat)
      case atStart => exact ⟨0, by omega, rfl, rfl, fun b hb => absurd hb (by omega)⟩
      case round =>
        obtain ⟨k, hk, rfl, rfl, hen⟩ := hrel
        have HEN := Lib.hid hen
        clear hen
        by_cases hlt : k < q
        · obtain ⟨b, off, z, e9, hb, hkz, c0⟩ := hB3.out.at_ hlt
          injection e9 with e9
          injection e9 with e91 e92
          subst e91 e92
          rw [givL_get hlt] at hkz
          injection hkz with hkz
          rw [Nat.zero_add] at c0
          obtain ⟨b', off', u, rfl, hb', hku, g0, _⟩ := (HU.out.below b3.out).at_ hlt
          have hfd := fd_at hku
          have ii0 : (0 : Int) ≤ (k : Int) := by omega
          have ii1 : (k : Int) < (q : Int) := by omega
          have HKZ := Lib.hid hkz
          have HFK := Lib.hid hfd
          clear hku hkz hfd
          by_cases hgt : u.1 < z
          · have HBAD := Lib.hid (show godF q ls ts us = false by
              rw [Bool.eq_false_iff]
              intro h
              exact enough_bad hlt (HFD.out k) (by rw [HFK.out, HKZ.out]; exact hgt) (HG2.out.1 h))
            go_wp2
            go_ret
            exact ⟨retB HBAD.out.symm, b3.out⟩
          · have HN := Lib.hid (enough_next HEN.out (HFD.out k) (by rw [HFK.out, HKZ.out]; exact hgt))
            go_wp2
            go_roundw
            case rel => exact ⟨k + 1, by omega, by go_num, by trivial, HN.out⟩
            case measure => simp [intOf]; omega
        · obtain rfl : k = q := by omega
          have HT2 := Lib.hid (HG2.out.2 HEN.out)
          go_wp2
          go_ret
          exact ⟨retB HT2.out.symm, b3.out⟩
    · have HBAD := Lib.hid (show godF q ls ts us = false by
        rw [Bool.eq_false_iff]
        intro h
        exact hz (HG.out.1 h).1)
      have hpos : 0 < (ofN (overTo ls (floL ls ts us q m) m)).length := by omega
      generalize (ofN (overTo ls (floL ls ts us q m) m)).length = len at *
      go_wp2
      go_ret
      exact ⟨retB HBAD.out.symm, b3.out⟩
end Go.Proofs.Ytpmkeagdoehbhaa
