/- Permits: how all work ends, of the program and of the model. -/
import Derived.Test.YtafgfhjlkdjngaaWk7
namespace Go.Proofs.Ytafgfhjlkdjngaa
open Go.ChangeShapes Go.WideShapes Go.ChangeAt Go.RowKit

/-- The deeds of a kind for the first k lines of which something is told. -/
def whereTo (ts : List Bool) (is : Bool) (kind : Int) (k : Nat) : List TH := ((List.range k).filter fun j => ts.getD j false == is).map fun (j : Nat) => (kind, (j : Int), 0)
theorem whereTo_succ {ts : List Bool} {is : Bool} {kind : Int} {k : Nat} {t : Bool} (h : ts[k]? = some t) : whereTo ts is kind (k + 1) = if t = is then whereTo ts is kind k ++ [(kind, (k : Int), 0)] else whereTo ts is kind k := by
  rw [whereTo, List.range_succ, List.filter_append, List.map_append, List.filter_cons, getD_some h]
  by_cases hz : t = is
  · rw [if_pos hz, if_pos (by simpa using hz)]; simp [whereTo]
  · rw [if_neg hz, if_neg (by simpa using hz)]; simp [whereTo]
theorem whereTo_len (ts : List Bool) (is : Bool) (kind : Int) (k : Nat) : (whereTo ts is kind k).length ≤ k := by
  rw [whereTo, List.length_map]; exact Nat.le_trans (List.length_filter_le _ _) (by simp)
/-- The deeds that return the first k permits. -/
def backTo (ps : List TJ) (k : Nat) : List TH := (ps.take k).map fun p => (5, p.2, p.1)
theorem backTo_succ {ps : List TJ} {k : Nat} {x y : Int} (h : ps[k]? = some (x, y)) : backTo ps (k + 1) = backTo ps k ++ [(5, y, x)] := by
  rw [backTo, List.take_add_one, h, Option.toList_some, List.map_append]; rfl
theorem backTo_len (ps : List TJ) (k : Nat) : (backTo ps k).length ≤ k := by rw [backTo, List.length_map, List.length_take]; exact Nat.min_le_left _ _
theorem closeL_eq {a e : List Bool} {ps : List TJ} {n q : Nat} (ha : a.length = n) (he : e.length = n) (hp : ps.length = q) : closeL (a, e, ps) = backTo ps q ++ whereTo e true 3 n ++ whereTo a false 0 n := by
  subst ha hp
  simp only [closeL, backTo, whereTo, earthL, offLW, List.take_length, he, beq_true, beq_false]

/-- A box that stays, beside a list of deeds in the making. -/
structure ClsSt (w wr : World) (cs : Array Value) (t : TypeId) (v : Value) (us : List TH) : Prop where
  own : OwnH wr (w.heap.size + 1) v us
  bel : Below w.heap.size w wr
  box : IsBlk wr w.heap.size t cs
section
variable {w wr w' : World} {cs : Array Value} {t : TypeId} {v v' : Value} {us us' : List TH}
theorem ClsSt.next (h : ClsSt w wr cs t v us) (hb : Below wr.heap.size wr w') : ClsSt w w' cs t v us := ⟨h.own.keep hb, h.bel.trans (hb.mono h.bel.size), h.box.keep hb⟩
theorem ClsSt.alloc (h : ClsSt w wr cs t v us) (o : Obj) : ClsSt w (wr.alloc o) cs t v us := h.next (below_bx _ _)
theorem ClsSt.push (h : ClsSt w wr cs t v us) (hv : OwnH w' (w.heap.size + 1) v' us') (hg : wr.grownBy w' v.ownBlock) : ClsSt w w' cs t v' us' :=
  ⟨hv, h.bel.grown hg h.bel.size (fun q hq => by have := (h.own.lt q hq).1; omega), h.box.farG hg (fun e => by have := (h.own.lt _ e).1; omega)⟩
end
theorem OwnH.shape {w : World} {base : Nat} {v : Value} {us : List TH} (h : OwnH w base v us) : ∃ A c, v = .slice A us.length c := by
  obtain ⟨A, c, h, _⟩ := h.row; exact ⟨A, c, h⟩

set_option maxRecDepth 100000 in
set_option maxHeartbeats 4000000 in
theorem deedsWhere_any (A : Option Addr) (n c : Nat) (ts : List Bool) (is : Bool) (kind : Int) (w : World) (hn : n ≤ 1000) (hr : RowT w A n ts) :
    Calls Try.prog 52 #[.slice A n c, .bool is, .int .i64 kind] w fun e w' => ∃ v, e = .returned v ∧ OwnH w' w.heap.size v (whereTo ts is kind n) ∧ Below w.heap.size w w' := by
  have HR := Lib.hid hr
  clear hr
  go_enter Try.func52, Try.ntmps52
  go_wp2
  go_loopw [7, 11] (fun v i wr => ∃ k : Nat, k ≤ n ∧ i = .int .i64 k ∧ OwnH wr w.heap.size v (whereTo ts is kind k) ∧ Below w.heap.size w wr) (fun _ i _ => n - (intOf i).toNat)
  case atStart => exact ⟨0, by omega, rfl, by simpa [whereTo] using OwnH.nil, Below.refl _ _⟩
  case round =>
    obtain ⟨k, hk, rfl, hown, hbel⟩ := hrel
    have O := Lib.hid hown
    have BL := Lib.hid hbel
    clear hown hbel
    by_cases hlt : k < n
    · obtain ⟨b, off, t, rfl, hb, hkt, g0⟩ := HR.out.at_ hlt
      rw [← BL.out.cell (p := ⟨b, off + k, none⟩) hb] at g0
      have HT := Lib.hid (whereTo_succ (is := is) (kind := kind) hkt)
      have HLN := Lib.hid (whereTo_len ts is kind k)
      clear hkt
      have q0 : (0 : Int) ≤ (k : Int) := by omega
      have q1 : (k : Int) < (n : Int) := by omega
      by_cases hti : t = is
      · subst hti
        have HT2 := Lib.hid (show whereTo ts t kind (k + 1) = whereTo ts t kind k ++ [(kind, (k : Int), 0)] by rw [HT.out, if_pos rfl])
        have hw := BL.out.size
        go_wp2_with (
          at_builtin
          refine wpList_append_deed rfl (.tmp 20) (.tmp 24) rfl w.heap.size wr.heap.size _ _ (kind, (k : Int), 0) rfl rfl (O.out.alloc _) (newH wr (kind, (k : Int), 0) _) (by have := HLN.out; omega) (by simp; omega) ?_
          intro v' w8 hown hgrow hat
          have O8 := Lib.hid hown
          have B8 := Lib.hid ((BL.out.alloc hw _).grown hgrow (by simp; omega) (fun q hq => (O.out.lt q hq).1)))
        go_roundw
        case rel => exact ⟨k + 1, by omega, by go_num, by rw [HT2.out]; exact O8.out, B8.out⟩
        case measure => simp [intOf]; omega
      · have HT2 := Lib.hid (show whereTo ts is kind (k + 1) = whereTo ts is kind k by rw [HT.out, if_neg hti])
        have hte : (t == is) = false := by simpa using hti
        clear hti
        go_wp2
        go_roundw
        case rel => exact ⟨k + 1, by omega, by go_num, by rw [HT2.out]; exact O.out, BL.out⟩
        case measure => simp [intOf]; omega
    · obtain rfl : k = n := by omega
      go_wp2
      go_ret
      exact ⟨_, rfl, O.out, BL.out⟩
set_option maxRecDepth 100000 in
set_option maxHeartbeats 4000000 in
theorem workClose_any (A : Option Addr) (n c : Nat) (B : Option Addr) (m d : Nat) (C : Option Addr) (q r : Nat) (a e : List Bool) (ps : List TJ) (w : World) (hn : n ≤ 1048576) (hm : m ≤ 1048576) (hq : q ≤ 1048576) (hqr : q ≤ r) (hr : RowW w A n B m C q a e ps) :
    Calls Try.prog 27 #[.agg #[.slice A n c, .slice B m d, .slice C q r]] w fun e' w' => ∃ v, e' = .returned v ∧ OwnH w' w.heap.size v (closeF (a, e, ps)) ∧ Below w.heap.size w w' := by
  have b0 := below_bx w (.cells #[.slice A n c, .slice B m d, .slice C q r] 44)
  have K0 := Lib.hid (IsBlk.new w 44 #[.slice A n c, .slice B m d, .slice C q r])
  have HR := Lib.hid hr
  have HP := Lib.hid hr.pe.len
  have HA := Lib.hid hr.on.len
  have HE := Lib.hid hr.ea.len
  clear hr
  obtain ⟨p0, p1, p2, -⟩ := K0.out.three
  cases hok : wkOk (a, e, ps)
  · have HF := Lib.hid (show closeF (a, e, ps) = [] by rw [closeF, if_neg (by rw [hok]; simp)])
    go_enter Try.func27, Try.ntmps27
    go_wp2_with fail
    refine (workValid_any A n c B m d C q r a e ps _ hn hm hq hqr (HR.out.below b0)).mono ?_
    rintro e1 w1 ⟨rfl, hb1⟩
    rw [hok]
    go_wp2
    go_ret
    exact ⟨_, rfl, by rw [HF.out]; exact OwnH.nil, b0.trans (hb1.mono b0.size)⟩
  have hsz := wk_sizes hok
  rw [HP.out, HA.out, HE.out] at hsz
  obtain ⟨hn1, hn10, hnm, h6⟩ := hsz
  have HF := Lib.hid (show closeF (a, e, ps) = backTo ps q ++ whereTo e true 3 n ++ whereTo a false 0 n by rw [closeF, if_pos hok, closeL_eq HA.out (HE.out.trans hnm.symm) HP.out])
  subst hnm
  go_enter Try.func27, Try.ntmps27
  go_wp2_with fail
  refine (workValid_any A n c B n d C q r a e ps _ hn hm hq hqr (HR.out.below b0)).mono ?_
  rintro e1 w1 ⟨rfl, hb1⟩
  rw [hok]
  have S1 := Lib.hid (show ClsSt w w1 #[.slice A n c, .slice B n d, .slice C q r] 44 (.slice none 0 0) (backTo ps 0) from ⟨by simpa [backTo] using OwnH.nil, b0.trans (hb1.mono b0.size), K0.out.keep hb1⟩)
  clear hok hb1 b0 p0 p1 p2 K0
  obtain ⟨p0, p1, p2, -⟩ := S1.out.box.three
  go_wp2
  go_loopw [3, 12] (fun v i wr => ∃ k : Nat, k ≤ q ∧ i = .int .i64 k ∧ ClsSt w wr #[.slice A n c, .slice B n d, .slice C q r] 44 v (backTo ps k)) (fun _ i _ => q - (intOf i).toNat)
  case atStart => exact ⟨0, by omega, rfl, S1.out⟩
  case round =>
    obtain ⟨k, hk, rfl, hst⟩ := hrel
    have S := Lib.hid hst
    have HLN := Lib.hid (backTo_len ps k)
    clear hst p0 p1 p2
    by_cases hlt : k < q
    · obtain ⟨b, off, p, rfl, hb, hkp, g0, g1⟩ := HR.out.pe.at_ hlt
      rw [← S.out.bel.cell (p := ⟨b, off + k * 2, none⟩) hb] at g0
      rw [← S.out.bel.cell (p := ⟨b, off + k * 2 + 1, none⟩) hb] at g1
      obtain ⟨x, y⟩ := p
      have HT := Lib.hid (backTo_succ hkp)
      clear hkp
      simp only at g0 g1
      have q0 : (0 : Int) ≤ (k : Int) := by omega
      have q1 : (k : Int) < (q : Int) := by omega
      have S2 := Lib.hid (S.out.alloc (.cells #[.int .i64 x, .int .i64 y] 66))
      have S3 := Lib.hid (S2.out.alloc (.cells #[.int .i64 5, .int .i64 y, .int .i64 x] 75))
      have hz := S.out.box.lt
      have C9 := Lib.hid (show ∀ j u, (fH (5, y, x))[j]? = some u → ((wr.alloc (.cells #[.int .i64 x, .int .i64 y] 66)).alloc (.cells #[.int .i64 5, .int .i64 y, .int .i64 x] 75)).cell? ((⟨wr.heap.size + 1, 0, none⟩ : Addr).add j) = some u from by
        have := newH (wr.alloc (.cells #[.int .i64 x, .int .i64 y] 66)) (5, y, x) 75
        simpa [fH] using this)
      go_wp2_with (
        at_builtin
        refine wpList_append_deed rfl (.tmp 16) (.tmp 22) rfl (w.heap.size + 1) (wr.heap.size + 1) _ _ (5, y, x) rfl rfl S3.out.own C9.out (by have := HLN.out; omega) (by simp; omega) ?_
        intro v' w8 hown hgrow hat
        have S8 := Lib.hid (S3.out.push hown hgrow))
      go_roundw
      case rel => exact ⟨k + 1, by omega, by go_num, by rw [HT.out]; exact S8.out⟩
      case measure => simp [intOf]; omega
    · obtain rfl : k = q := by omega
      have hbz := S.out.box.lt
      obtain ⟨p0, p1, p2, -⟩ := S.out.box.three
      go_wp2_with fail
      refine (deedsWhere_any B n d e true 3 _ (by omega) (HR.out.ea.below S.out.bel)).mono ?_
      rintro e2 w2 ⟨v2, rfl, hO2, hb2⟩
      have T2 := Lib.hid (S.out.next hb2)
      have O2 := Lib.hid hO2
      have HL2 := Lib.hid (whereTo_len e true 3 n)
      have hz2 := hb2.size
      clear hO2 hb2 p0 p1 p2
      go_wp2_with (
        at_builtin
        refine wpList_append_deeds rfl (.tmp 25) (.tmp 28) rfl (w.heap.size + 1) wr.heap.size _ _ (backTo ps k) (whereTo e true 3 n) rfl rfl T2.out.own O2.out (by omega) (by have := HLN.out; have := HL2.out; omega) ?_
        intro v3 w3 hown hgrow hat
        have S3 := Lib.hid (T2.out.push hown hgrow)
        have hz3 := hgrow.size
        obtain ⟨p0, p1, p2, -⟩ := S3.out.box.three)
      refine (deedsWhere_any A n c a false 0 _ (by omega) (HR.out.on.below S3.out.bel)).mono ?_
      rintro e4 w4 ⟨v4, rfl, hO4, hb4⟩
      have T4 := Lib.hid (S3.out.next hb4)
      have O4 := Lib.hid hO4
      have HL4 := Lib.hid (whereTo_len a false 0 n)
      have hz4 := hb4.size
      clear hO4 hb4 p0 p1 p2
      go_wp2_with (
        at_builtin
        refine wpList_append_deeds rfl (.tmp 30) (.tmp 33) rfl (w.heap.size + 1) w3.heap.size _ _ (backTo ps k ++ whereTo e true 3 n) (whereTo a false 0 n) rfl rfl T4.out.own O4.out (by omega) (by rw [List.length_append]; have := HLN.out; have := HL2.out; have := HL4.out; omega) ?_
        intro v5 w5 hown hgrow hat
        have S5 := Lib.hid (T4.out.push hown hgrow))
      go_ret
      exact ⟨_, rfl, by rw [HF.out]; exact S5.out.own.more (by omega), S5.out.bel⟩
end Go.Proofs.Ytafgfhjlkdjngaa
