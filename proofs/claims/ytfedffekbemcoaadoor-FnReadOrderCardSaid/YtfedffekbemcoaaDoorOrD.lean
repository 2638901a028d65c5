/- Switching orders: OrderText, of the program. What Itoa and Join say comes in as hypotheses (the shelf gives them). -/
import Derived.Test.YtfedffekbemcoaaDoorOr0
import Derived.Test.YtfedffekbemcoaaDoorOr2
import Derived.Test.YtfedffekbemcoaaDoorR3
import Derived.Test.YtfedffekbemcoaaDoorT3
namespace Go.Proofs.YtfedffekbemcoaaDoor
open Go.ChangeShapes Go.WideShapes Go.ChangeAt Go.RowKit

def JoinSays : Prop := ∀ (b off c : Nat) (xs : List Bs) (w : World), 0 < xs.length → xs.length ≤ 1000 → xs.length ≤ c → (Lib.join xs [59]).length ≤ 100000 → RowV w (some ⟨b, off, none⟩) xs.length (xs.map strV) →
  Calls Tryd.prog 46 #[.slice (some ⟨b, off, none⟩) xs.length c, .string ⟨#[59]⟩] w fun e w' => e = .returned (strV (Lib.join xs [59])) ∧ Below w.heap.size w w'
theorem join_steps (p : TP) (r : List TP) : Lib.join ((p :: r).map stepW) [59] = listO (p :: r) := by
  rw [List.map_cons, Lib.join_cons, listO, Lib.joinTail, List.map_map]; rfl
theorem textO_eq {ss : List TP} (h : ordOk ss = true) : Value.string (textO ss) = strV (listO ss) := by rw [textO, if_pos h]; rfl

set_option maxHeartbeats 1000000 in
theorem stepText_any (hI : ItoaSays) (x : Int) (t : Bool) (w : World) (h : 0 ≤ x ∧ x ≤ 9) (ht : PowTab w) :
    Calls Tryd.prog 45 #[.agg #[.int .i64 x, .bool t]] w fun e w' => e = .returned (strV (stepW (x, t))) ∧ Below w.heap.size w w' := by
  have hb0 := below_bx w (.cells #[.int .i64 x, .bool t] 27)
  obtain ⟨p0, p1, p2, p3⟩ := (IsBlk.new w 27 #[.int .i64 x, .bool t]).two
  have P1 := Lib.hid (ht.keep hb0 (Nat.le_refl _))
  have hd := decStr_size x.toNat
  have n1 : ¬ 9223372036854775807 < 2 + 1 + (decStr x.toNat).size := by omega
  have n2 : ¬ 9223372036854775807 < 3 + 1 + (decStr x.toNat).size := by omega
  have n3 : ¬ 9223372036854775807 < 3 + (decStr x.toNat).size := by omega
  have n4 : ¬ 9223372036854775807 < 4 + (decStr x.toNat).size := by omega
  have e1 : (⟨#[111, 110]⟩ : ByteArray) ++ ⟨#[32]⟩ ++ decStr x.toNat = ⟨(stepW (x, true)).toArray⟩ := by apply ByteArray.ext; simp [decStr, stepW, wordO]
  have e2 : (⟨#[111, 102, 102]⟩ : ByteArray) ++ ⟨#[32]⟩ ++ decStr x.toNat = ⟨(stepW (x, false)).toArray⟩ := by apply ByteArray.ext; simp [decStr, stepW, wordO]
  have E1 := Lib.hid e1
  have E2 := Lib.hid e2
  clear ht hd e1 e2
  have hx0 := h.1
  have hx9 := h.2
  cases t
  · go_enter Tryd.func45, Tryd.ntmps45
    go_wp2_with fail
    refine (hI x _ hx0 (by omega) P1.out).mono ?_
    rintro e w1 ⟨rfl, hb1⟩
    go_wp2
    go_ret
    exact ⟨by rw [strV, ← E2.out]; rfl, hb0.trans (hb1.mono hb0.size)⟩
  · go_enter Tryd.func45, Tryd.ntmps45
    go_wp2_with fail
    refine (hI x _ hx0 (by omega) P1.out).mono ?_
    rintro e w1 ⟨rfl, hb1⟩
    go_wp2
    go_ret
    exact ⟨by rw [strV, ← E1.out]; rfl, hb0.trans (hb1.mono hb0.size)⟩

set_option maxRecDepth 100000 in
set_option maxHeartbeats 2000000 in
theorem orderText_any (hI : ItoaSays) (hJ : JoinSays) (A : Option Addr) (n c : Nat) (ss : List TP) (w : World) (hn : n ≤ 1048577) (hr : RowP w A n ss) (ht : PowTab w) :
    Calls Tryd.prog 16 #[.slice A n c] w fun e w' => e = .returned (.string (textO ss)) ∧ Below w.heap.size w w' := by
  have HR := Lib.hid hr
  have HL := Lib.hid hr.len
  have HT := Lib.hid ht
  clear hr ht
  cases ho : ordOk ss
  · have HF := Lib.hid (textO_no ho)
    go_enter Tryd.func16, Tryd.ntmps16
    go_wp2_with fail
    refine (orderValid_any A n c ss _ hn HR.out).mono ?_
    rintro e w1 ⟨rfl, hb1⟩
    rw [ho]
    go_wp2
    go_ret
    exact ⟨by rw [HF.out]; rfl, hb1⟩
  have HOk := Lib.hid ho
  have HF := Lib.hid (textO_eq ho)
  clear ho
  have hn12 : n ≤ 12 := by have := ordOk_len HOk.out; have := HL.out; omega
  rcases Nat.eq_zero_or_pos n with rfl | hpos
  · obtain rfl : ss = [] := List.eq_nil_of_length_eq_zero HL.out
    go_enter Tryd.func16, Tryd.ntmps16
    go_wp2_with fail
    refine (orderValid_any A 0 c [] _ hn HR.out).mono ?_
    rintro e w1 ⟨rfl, hb1⟩
    rw [HOk.out]
    go_wp2
    go_ret
    exact ⟨by rw [HF.out]; rfl, hb1⟩
  · obtain ⟨i0, hi, hz0, hz1, hz2⟩ := info_parts strInfo
    have HI := Lib.hid hi
    have hne : ((n : Int) == 0) = false := by rw [beq_eq_false_iff_ne]; omega
    have HLO := Lib.hid (listO_size HOk.out)
    clear hi
    go_enter Tryd.func16, Tryd.ntmps16
    go_wp2_with fail
    refine (orderValid_any A n c ss _ hn HR.out).mono ?_
    rintro e w1 ⟨rfl, hb1⟩
    rw [HOk.out]
    have B1 := Lib.hid hb1
    clear hb1
    go_wp2
    go_loopw [3, 14] (fun v i wr => ∃ k : Nat, k ≤ n ∧ i = .int .i64 (k : Int) ∧ OwnS wr w.heap.size v ((ss.take k).map stepW) ∧ Below w.heap.size w wr) (fun _ i _ => n - (intOf i).toNat)
    case atStart => exact ⟨0, by omega, rfl, World.ownsRow_nil _ _ _ _, B1.out⟩
    case round =>
      obtain ⟨k, hk, rfl, hown, hbel⟩ := hrel
      have O := Lib.hid hown
      have BL := Lib.hid hbel
      clear hown hbel
      by_cases hlt : k < n
      · obtain ⟨b, off, p, rfl, hb, hkp, g0, g1⟩ := HR.out.at_ hlt
        rw [← BL.out.cell (p := ⟨b, off + k * 2, none⟩) hb] at g0
        rw [← BL.out.cell (p := ⟨b, off + k * 2 + 1, none⟩) hb] at g1
        have HP := Lib.hid (ordOk_get HOk.out hkp)
        have HS := Lib.hid (show (ss.take (k + 1)).map stepW = (ss.take k).map stepW ++ [stepW p] by rw [List.take_add_one, hkp, List.map_append]; rfl)
        have hlk : ((ss.take k).map stepW).length ≤ 12 := by rw [List.length_map, List.length_take]; omega
        have LK := Lib.hid hlk
        obtain ⟨x, t⟩ := p
        simp only at g0 g1
        have hz : w.heap.size ≤ wr.heap.size := BL.out.size
        have BA := Lib.hid (BL.out.alloc hz (.cells #[.int .i64 x, .bool t] 27))
        have OA := Lib.hid (OwnS.keep O.out (below_bx wr (.cells #[.int .i64 x, .bool t] 27)))
        clear hkp hlk
        generalize (ss.take k).map stepW = ps at *
        go_wp2_with fail
        refine (stepText_any hI x t _ HP.out (HT.out.keep BA.out (Nat.le_refl _))).mono ?_
        rintro e w2 ⟨rfl, hb2⟩
        have B2 := Lib.hid (BA.out.trans (hb2.mono BA.out.size))
        have O2 := Lib.hid (OwnS.keep OA.out hb2)
        clear hb2
        unfold strV
        go_wp2_with (
          at_builtin
          refine wpList_append_own _ rfl _ _ _ rfl w.heap.size 9 i0 (.string ByteArray.empty) 1 16 Tryd.underlying65 HI.out hz0 hz1 hz2 rfl (by decide) _ _ _ rfl (World.ownsRow.alloc O2.out _) ⟨w2.heap.size, 0, none⟩ 1 1 [.string ⟨(stepW (x, t)).toArray⟩] rfl rfl ?c1 ?c2 ?c3 ?c4 ?c5 ?_
          case c1 => exact cell_one_new _ _ _
          case c2 => intro u hu; simp at hu; subst hu; rfl
          case c3 => have := LK.out; simp only [maxLen]; omega
          case c4 => have := LK.out; omega
          case c5 => have := B2.out.size; simp; omega
          intro v' w3 hown' hgrow _
          have hb3 : Below w.heap.size w w3 := (B2.out.alloc B2.out.size _).grown hgrow (by have := B2.out.size; simp; omega) (fun q hq => (World.ownsRow.lt O2.out q hq).1))
        go_roundw
        case rel => exact ⟨k + 1, by omega, by go_num, by rw [HS.out]; simpa [OwnS, strV] using hown', hb3⟩
        case measure => simp [intOf]; omega
      · obtain rfl : k = n := by omega
        rw [← HL.out, List.take_length] at O
        obtain ⟨A', c', rfl, hrow⟩ := O.out.row
        have hcap : ss.length ≤ c' := by
          rcases O.out.2 with ⟨h1, h2⟩ | ⟨g, cap, cur, h1, _, _, h3, _⟩
          · rw [List.length_map] at h2; have := HL.out; omega
          · injection h1 with h1 h4 h5; rw [List.length_map] at h3; omega
        obtain ⟨b', off', e1, _⟩ := hrow.2 (by rw [List.length_map, HL.out]; exact hpos)
        subst e1
        have hjoin : Lib.join (ss.map stepW) [59] = listO ss := by
          cases ss with
          | nil => have := HL.out; simp at this; omega
          | cons p r => exact join_steps p r
        have HJn := Lib.hid hjoin
        have R := Lib.hid hrow
        have hlen : (ss.map stepW).length = k := by rw [List.length_map, HL.out]
        rw [hlen]
        go_wp2_with fail
        have hc := hJ b' off' c' (ss.map stepW) _ (by rw [hlen]; exact hpos) (by rw [hlen]; omega) (by rw [List.length_map]; exact hcap) (by rw [HJn.out]; have := HLO.out; have := HL.out; omega) R.out
        rw [hlen, HJn.out] at hc
        refine hc.mono ?_
        rintro e w2 ⟨rfl, hb2⟩
        unfold strV
        go_wp2
        go_ret
        exact ⟨by rw [HF.out]; rfl, BL.out.trans (hb2.mono BL.out.size)⟩
end Go.Proofs.YtfedffekbemcoaaDoor
