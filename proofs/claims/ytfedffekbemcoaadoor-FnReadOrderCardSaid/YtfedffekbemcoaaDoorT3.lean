/- NetText of the program. Itoa's contract comes in as a hypothesis (the shelf gives it). -/
import Derived.Test.YtfedffekbemcoaaDoorT2
import Derived.Deep.RegionHeld3
namespace Go.Proofs.YtfedffekbemcoaaDoor
open Go.ChangeShapes Go.WideShapes Go.ChangeAt Go.RowKit

def PowTab (w : World) : Prop := Lib.TabIs Tryd.prog w "internal/strconv.uint64pow10" .u64 Lib.pow10Tab
theorem pow_named : Tryd.prog.globalNamed "internal/strconv.uint64pow10" = some 1 := by kernel_rfl
theorem PowTab.keep {B : Nat} {w w' : World} (h : PowTab w) (hb : Below B w w') (hB : w.heap.size ≤ B) : PowTab w' := by
  unfold PowTab Lib.TabIs World.var? at *
  rw [pow_named] at *
  simp only [Option.bind_some] at *
  have hlt : 1 < w.heap.size := by
    rcases Nat.lt_or_ge 1 w.heap.size with h1 | h1
    · exact h1
    · rw [Array.getElem?_eq_none h1] at h
      simp at h
  rw [hb.block _ (Nat.lt_of_lt_of_le hlt hB)]
  exact h
def ItoaSays : Prop := ∀ (x : Int) (w : World), 0 ≤ x → x ≤ 9223372036854775807 → PowTab w →
  Calls Tryd.prog 66 #[.int .i64 x] w fun e w' => e = .returned (.string (decStr x.toNat)) ∧ Below w.heap.size w w'

theorem pow3 {W wA : World} {g : Nat} {a b c : Value}
    (h : Below W.heap.size W wA ∧ wA.cell? ⟨g, 0, none⟩ = some a ∧ wA.cell? ⟨g, 1, none⟩ = some b ∧ wA.cell? ⟨g, 2, none⟩ = some c) (hp : PowTab W) : PowTab wA := hp.keep h.1 (Nat.le_refl _)
theorem text_right (s : ByteArray) (l : L3) : addLine s l = s ++ (chr 32 ++ decStr l.1.toNat ++ chr 45 ++ decStr l.2.1.toNat ++ chr 58 ++ decStr l.2.2.toNat) := by
  simp only [addLine, ByteArray.append_assoc]

theorem netText_any (hI : ItoaSays) (bs : Int) (A : Option Addr) (n c : Nat) (ls : List L3) (w : World) (hn : n ≤ 1048576) (hr : RowL w A n ls) (ht : PowTab w) :
    Calls Tryd.prog 44 #[.agg #[.int .i64 bs, .slice A n c]] w fun e w' => e = .returned (.string (textF bs ls)) ∧ Below w.heap.size w w' := by
  have HR := Lib.hid hr
  have HP := Lib.hid ht
  clear ht
  by_cases hv : netOk bs ls = true
  · have HV := Lib.hid hv
    have hn10 : n ≤ 10 := by have := (netOk_len hv).2.2; have := hr.1; omega
    have hb1 : 1 ≤ bs ∧ bs ≤ 8 := ⟨(netOk_len hv).1, (netOk_len hv).2.1⟩
    have HF := Lib.hid (show textF bs ls = textTo bs ls n by rw [textF, if_pos hv, hr.1])
    clear hv hr hn
    go_enter Tryd.func44, Tryd.ntmps44
    go_wp2_with fail
    have hb0 := below_bx w (.cells #[.int .i64 bs, .slice A n c] 41)
    refine (netValid_any bs _ n c ls _ (by omega) (HR.out.below hb0)).mono ?_
    rintro e w1 ⟨rfl, hb1⟩
    rw [HV.out]
    have a1 : Below w.heap.size w w1 := hb0.trans (hb1.mono (by simp))
    have hs1 : w.heap.size + 1 ≤ w1.heap.size := by have := hb1.size; simpa using this
    obtain ⟨p0, p1, _, _⟩ := ((IsBlk.new w 41 #[.int .i64 bs, .slice A n c]).keep hb1).two
    go_wp2_with fail
    refine (hI bs _ (by omega) (by omega) (HP.out.keep a1 (Nat.le_refl _))).mono ?_
    rintro e w2 ⟨rfl, hb2⟩
    have a2 : Below w.heap.size w w2 := a1.trans (hb2.mono a1.size)
    have hs2 : w.heap.size + 1 ≤ w2.heap.size := by have := hb2.size; omega
    rw [← hb2.cell (p := ⟨w.heap.size, 0, none⟩) (by show w.heap.size < _; omega)] at p0
    rw [← hb2.cell (p := ⟨w.heap.size, 1, none⟩) (by show w.heap.size < _; omega)] at p1
    go_wp2_with fail
    have t0 : textTo bs ls 0 = decStr bs.toNat := by simp [textTo]
    rw [← t0]
    clear t0
    go_loopw [3, 15] (fun s i wr => ∃ k : Nat, k ≤ n ∧ i = .int .i64 k ∧ s = .string (textTo bs ls k) ∧ Below w.heap.size w wr ∧ w.heap.size + 1 ≤ wr.heap.size) (fun _ i _ => n - (intOf i).toNat)
    case atStart => exact ⟨0, by omega, rfl, rfl, a2, hs2⟩
    case round =>
      obtain ⟨k, hk, rfl, rfl, hbel, hsz⟩ := hrel
      by_cases hlt : k < n
      · obtain ⟨b, off, rfl, hb, HC'⟩ := HR.out.2 (by omega)
        have hkl : ls[k]? = some (ls[k]'(by have := HR.out.1; omega)) := List.getElem?_eq_getElem _
        generalize (ls[k]'(by have := HR.out.1; omega)) = l at hkl
        obtain ⟨g0, g1, g2⟩ := HC' k l hkl
        rw [← hbel.cell (p := ⟨b, off + k * 3, none⟩) hb] at g0
        rw [← hbel.cell (p := ⟨b, off + k * 3 + 1, none⟩) hb] at g1
        rw [← hbel.cell (p := ⟨b, off + k * 3 + 2, none⟩) hb] at g2
        have HL := Lib.hid (netOk_line HV.out hkl)
        have HK := Lib.hid hkl
        clear hkl HC'
        obtain ⟨x, y, z⟩ := l
        simp only at g0 g1 g2
        have hz : w.heap.size ≤ wr.heap.size := hbel.size
        go_wp2_with fail
        have hx : 0 ≤ x ∧ x ≤ 9 := by have := HL.out; simp [lineOk, inB] at this; omega
        have hy : 0 ≤ y ∧ y ≤ 9 := by have := HL.out; simp [lineOk, inB] at this; omega
        have hw : 0 ≤ z ∧ z ≤ 999 := by have := HL.out; simp [lineOk, inB] at this; omega
        have hx0 := hx.1
        have hy0 := hy.1
        have hz0 := hw.1
        have hsX := decStr_size x.toNat
        have hsY := decStr_size y.toNat
        have hsZ := decStr_size z.toNat
        have hT := textTo_size HV.out k
        have n1 : ¬ 9223372036854775807 < 1 + (decStr x.toNat).size := by omega
        have n2 : ¬ 9223372036854775807 < 1 + (decStr x.toNat).size + 1 := by omega
        have n3 : ¬ 9223372036854775807 < 1 + (decStr x.toNat).size + 1 + (decStr y.toNat).size := by omega
        have n4 : ¬ 9223372036854775807 < 1 + (decStr x.toNat).size + 1 + (decStr y.toNat).size + 1 := by omega
        have n5 : ¬ 9223372036854775807 < 1 + (decStr x.toNat).size + 1 + (decStr y.toNat).size + 1 + (decStr z.toNat).size := by omega
        have n6 : ¬ 9223372036854775807 < (textTo bs ls k).size + (1 + (decStr x.toNat).size + 1 + (decStr y.toNat).size + 1 + (decStr z.toNat).size) := by omega
        clear hT hsX hsY hsZ
        have HW : PowTab (wr.alloc (.cells #[.int .i64 x, .int .i64 y, .int .i64 z] 43)) := HP.out.keep (hbel.alloc hz _) (Nat.le_refl _)
        go_region_held3 (fun w' => Below (wr.alloc (.cells #[.int .i64 x, .int .i64 y, .int .i64 z] 43)).heap.size (wr.alloc (.cells #[.int .i64 x, .int .i64 y, .int .i64 z] 43)) w' ∧ w'.cell? ⟨wr.heap.size, 0, none⟩ = some (.int .i64 x) ∧ w'.cell? ⟨wr.heap.size, 1, none⟩ = some (.int .i64 y) ∧ w'.cell? ⟨wr.heap.size, 2, none⟩ = some (.int .i64 z))
          (first | exact start3 _ _ _ _ _ | exact keep3 (by assumption) hbc)
          (first | (go_at_call 66; refine (hI _ _ ?_ ?_ ?_).mono ?_; assumption; omega; exact pow3 (by assumption) HW; rintro e w' ⟨rfl, hbc⟩))
        rename_i hF
        have hq := hF.1.size
        have hq1 : wr.heap.size + 1 ≤ w'.heap.size := by simpa using hq
        have hB : Below w.heap.size w w' := (hbel.alloc hz _).trans (hF.1.mono (hbel.alloc hz _).size)
        go_wp2_with fail
        go_roundw
        case rel => exact ⟨k + 1, by omega, by go_num, by rw [textTo_succ HK.out, text_right]; rfl, hB, by omega⟩
        case measure => simp [intOf]; omega
      · go_wp2
        go_ret
        obtain rfl : k = n := by omega
        rw [HF.out]
        exact ⟨rfl, hbel⟩
  · rw [Bool.not_eq_true] at hv
    have HV := Lib.hid hv
    have HF := Lib.hid (show textF bs ls = ⟨#[]⟩ by rw [textF, if_neg (by simp [hv])])
    clear hv
    go_enter Tryd.func44, Tryd.ntmps44
    go_wp2_with fail
    have hb0 := below_bx w (.cells #[.int .i64 bs, .slice A n c] 41)
    refine (netValid_any bs _ n c ls _ (by omega) (HR.out.below hb0)).mono ?_
    rintro e w1 ⟨rfl, hb1⟩
    rw [HV.out]
    go_wp2
    go_ret
    rw [HF.out]
    exact ⟨rfl, hb0.trans (hb1.mono (by simp))⟩
end Go.Proofs.YtfedffekbemcoaaDoor
