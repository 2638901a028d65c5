/- NetText of the model: the text of a network. -/
import Derived.Test.YtciciidndjkdiaaDoorT1
import Derived.Deep.RegionHeld3
namespace Go.Proofs.YtciciidndjkdiaaDoor
open Go.ChangeShapes Go.WideShapes Go.ChangeAt Go.RowKit

theorem l1Number_int (x : Int) (w : World) (h0 : 0 ≤ x) (h1 : x ≤ 9223372036854775807) :
    Calls Tryd.prog 26 #[.int .i64 x] w fun e w' => e = .returned (.string (decStr x.toNat)) ∧ Below w.heap.size w w' := by
  have h := l1Number_any x.toNat w (by omega)
  rwa [show ((x.toNat : Nat) : Int) = x by omega] at h

def chr (c : UInt8) : ByteArray := ⟨#[c]⟩
def addLine (s : ByteArray) (l : L3) : ByteArray := s ++ chr 32 ++ decStr l.1.toNat ++ chr 45 ++ decStr l.2.1.toNat ++ chr 58 ++ decStr l.2.2.toNat
def textTo (bs : Int) (ls : List L3) (k : Nat) : ByteArray := (ls.take k).foldl addLine (decStr bs.toNat)
def textF (bs : Int) (ls : List L3) : ByteArray := if netOk bs ls = true then textTo bs ls ls.length else ⟨#[]⟩
theorem textTo_succ {bs : Int} {ls : List L3} {k : Nat} {l : L3} (h : ls[k]? = some l) : textTo bs ls (k + 1) = addLine (textTo bs ls k) l := by
  unfold textTo
  rw [List.take_add_one, h]
  simp

theorem addLine_size (s : ByteArray) (l : L3) : (addLine s l).size ≤ s.size + l.1.toNat + l.2.1.toNat + l.2.2.toNat + 6 := by
  have h1 := decStr_size l.1.toNat
  have h2 := decStr_size l.2.1.toNat
  have h3 := decStr_size l.2.2.toNat
  simp [addLine, chr, ByteArray.size_append]
  have e : ∀ c, ByteArray.size ⟨#[c]⟩ = 1 := fun _ => rfl
  simp [e]
  omega
theorem textTo_size {bs : Int} {ls : List L3} (h : netOk bs ls = true) (k : Nat) : (textTo bs ls k).size ≤ 9 + k * 1030 := by
  induction k with
  | zero =>
    have h1 := decStr_size bs.toNat
    have h2 := netOk_len h
    simp [textTo]
    omega
  | succ k ih =>
    rcases hk : ls[k]? with _ | l
    · have e : textTo bs ls (k + 1) = textTo bs ls k := by
        unfold textTo
        rw [List.take_add_one, hk, Option.toList, List.append_nil]
      rw [e]
      exact Nat.le_trans ih (by omega)
    · rw [textTo_succ hk]
      have h1 := addLine_size (textTo bs ls k) l
      have h2 := netOk_line h hk
      have h3 := netOk_len h
      simp [lineOk, inB] at h2
      omega

theorem start3 (w : World) (t : TypeId) (a b c : Value) :
    Below (w.alloc (.cells #[a, b, c] t)).heap.size (w.alloc (.cells #[a, b, c] t)) (w.alloc (.cells #[a, b, c] t)).drew ∧ (w.alloc (.cells #[a, b, c] t)).drew.cell? ⟨w.heap.size, 0, none⟩ = some a ∧ (w.alloc (.cells #[a, b, c] t)).drew.cell? ⟨w.heap.size, 1, none⟩ = some b ∧ (w.alloc (.cells #[a, b, c] t)).drew.cell? ⟨w.heap.size, 2, none⟩ = some c := by
  obtain ⟨h0, h1, h2, _⟩ := (IsBlk.new w t #[a, b, c]).three
  exact ⟨(Below.refl _ _).drew, h0, h1, h2⟩
theorem keep3 {W wA w' : World} {g : Nat} {a b c : Value}
    (h : Below W.heap.size W wA ∧ wA.cell? ⟨g, 0, none⟩ = some a ∧ wA.cell? ⟨g, 1, none⟩ = some b ∧ wA.cell? ⟨g, 2, none⟩ = some c) (hb : Below wA.heap.size wA w') :
    Below W.heap.size W w' ∧ w'.cell? ⟨g, 0, none⟩ = some a ∧ w'.cell? ⟨g, 1, none⟩ = some b ∧ w'.cell? ⟨g, 2, none⟩ = some c := by
  obtain ⟨h0, h1, h2, h3⟩ := h
  have hg := World.block_lt_of_cell? wA _ h1
  refine ⟨h0.trans (hb.mono h0.size), ?_, ?_, ?_⟩
  · rw [hb.cell (p := ⟨g, 0, none⟩) hg]; exact h1
  · rw [hb.cell (p := ⟨g, 1, none⟩) hg]; exact h2
  · rw [hb.cell (p := ⟨g, 2, none⟩) hg]; exact h3

theorem specNetText_any (bs : Int) (A : Option Addr) (n c : Nat) (ls : List L3) (w : World) (hn : n ≤ 1048576) (hr : RowL w A n ls) :
    Calls Tryd.prog 9 #[.agg #[.int .i64 bs, .slice A n c]] w fun e w' => e = .returned (.string (textF bs ls)) ∧ Below w.heap.size w w' := by
  have HR := Lib.hid hr
  by_cases hv : netOk bs ls = true
  · have HV := Lib.hid hv
    have hn10 : n ≤ 10 := by have := (netOk_len hv).2.2; have := hr.1; omega
    have hb1 : 1 ≤ bs ∧ bs ≤ 8 := ⟨(netOk_len hv).1, (netOk_len hv).2.1⟩
    have HF := Lib.hid (show textF bs ls = textTo bs ls n by rw [textF, if_pos hv, hr.1])
    clear hv hr hn
    go_enter Tryd.func9, Tryd.ntmps9
    go_wp2_with fail
    have hb0 := below_bx w (.cells #[.int .i64 bs, .slice A n c] 25)
    refine (specNetValid_any bs _ n c ls _ (by omega) (HR.out.below hb0)).mono ?_
    rintro e w1 ⟨rfl, hb1⟩
    rw [HV.out]
    have a1 : Below w.heap.size w w1 := hb0.trans (hb1.mono (by simp))
    have hs1 : w.heap.size + 1 ≤ w1.heap.size := by have := hb1.size; simpa using this
    obtain ⟨p0, p1, _, _⟩ := ((IsBlk.new w 25 #[.int .i64 bs, .slice A n c]).keep hb1).two
    go_wp2_with fail
    refine (l1Number_int bs _ (by omega) (by omega)).mono ?_
    rintro e w2 ⟨rfl, hb2⟩
    have a2 : Below w.heap.size w w2 := a1.trans (hb2.mono a1.size)
    have hs2 : w.heap.size + 1 ≤ w2.heap.size := by have := hb2.size; omega
    rw [← hb2.cell (p := ⟨w.heap.size, 0, none⟩) (by show w.heap.size < _; omega)] at p0
    rw [← hb2.cell (p := ⟨w.heap.size, 1, none⟩) (by show w.heap.size < _; omega)] at p1
    go_wp2_with fail
    have t0 : textTo bs ls 0 = decStr bs.toNat := by simp [textTo]
    rw [← t0]
    clear t0
    go_loopw [3, 4] (fun s i wr => ∃ k : Nat, k ≤ n ∧ i = .int .i64 k ∧ s = .string (textTo bs ls k) ∧ Below w.heap.size w wr ∧ w.heap.size + 1 ≤ wr.heap.size ∧ wr.cell? ⟨w.heap.size, 0, none⟩ = some (.int .i64 bs) ∧ wr.cell? ⟨w.heap.size, 1, none⟩ = some (.slice A n c)) (fun _ i _ => n - (intOf i).toNat)
    case atStart => exact ⟨0, by omega, rfl, rfl, a2, hs2, p0, p1⟩
    case round =>
      obtain ⟨k, hk, rfl, rfl, hbel, hsz, hc0, hc1⟩ := hrel
      by_cases hlt : k < n
      · obtain ⟨b, off, rfl, hb, HC'⟩ := HR.out.2 (by omega)
        have hkl : ls[k]? = some (ls[k]'(by have := HR.out.1; omega)) := List.getElem?_eq_getElem _
        generalize (ls[k]'(by have := HR.out.1; omega)) = l at hkl
        obtain ⟨g0, g1, g2⟩ := HC' k l hkl
        rw [← hbel.cell (p := ⟨b, off + k * 3, none⟩) hb] at g0
        rw [← hbel.cell (p := ⟨b, off + k * 3 + 1, none⟩) hb] at g1
        rw [← hbel.cell (p := ⟨b, off + k * 3 + 2, none⟩) hb] at g2
        have HL := Lib.hid (netOk_line HV.out hkl)
        have HK := Lib.hid hkl
        clear hkl HC'
        obtain ⟨x, y, z⟩ := l
        simp only at g0 g1 g2
        have hz : w.heap.size ≤ wr.heap.size := hbel.size
        go_wp2_with fail
        have hx : 0 ≤ x ∧ x ≤ 9 := by have := HL.out; simp [lineOk, inB] at this; omega
        have hy : 0 ≤ y ∧ y ≤ 9 := by have := HL.out; simp [lineOk, inB] at this; omega
        have hw : 0 ≤ z ∧ z ≤ 999 := by have := HL.out; simp [lineOk, inB] at this; omega
        have hx0 := hx.1
        have hy0 := hy.1
        have hz0 := hw.1
        have hsX := decStr_size x.toNat
        have hsY := decStr_size y.toNat
        have hsZ := decStr_size z.toNat
        have hT := textTo_size HV.out k
        have n1 : ¬ 9223372036854775807 < (textTo bs ls k).size + 1 := by omega
        have n2 : ¬ 9223372036854775807 < (textTo bs ls k).size + 1 + (decStr x.toNat).size := by omega
        have n3 : ¬ 9223372036854775807 < (textTo bs ls k).size + 1 + (decStr x.toNat).size + 1 := by omega
        have n4 : ¬ 9223372036854775807 < (textTo bs ls k).size + 1 + (decStr x.toNat).size + 1 + (decStr y.toNat).size := by omega
        have n5 : ¬ 9223372036854775807 < (textTo bs ls k).size + 1 + (decStr x.toNat).size + 1 + (decStr y.toNat).size + 1 := by omega
        have n6 : ¬ 9223372036854775807 < (textTo bs ls k).size + 1 + (decStr x.toNat).size + 1 + (decStr y.toNat).size + 1 + (decStr z.toNat).size := by omega
        clear hT hsX hsY hsZ
        go_region_held3 (fun w' => Below (wr.alloc (.cells #[.int .i64 x, .int .i64 y, .int .i64 z] 46)).heap.size (wr.alloc (.cells #[.int .i64 x, .int .i64 y, .int .i64 z] 46)) w' ∧ w'.cell? ⟨wr.heap.size, 0, none⟩ = some (.int .i64 x) ∧ w'.cell? ⟨wr.heap.size, 1, none⟩ = some (.int .i64 y) ∧ w'.cell? ⟨wr.heap.size, 2, none⟩ = some (.int .i64 z))
          (first | exact start3 _ _ _ _ _ | exact keep3 (by assumption) hbc)
          (first | (go_at_call 26; refine (l1Number_int _ _ ?_ ?_).mono ?_; assumption; omega; rintro e w' ⟨rfl, hbc⟩))
        rename_i hF
        have hq := hF.1.size
        have hq1 : wr.heap.size + 1 ≤ w'.heap.size := by simpa using hq
        have hB : Below w.heap.size w w' := (hbel.alloc hz _).trans (hF.1.mono (hbel.alloc hz _).size)
        have hC0 : w'.cell? ⟨w.heap.size, 0, none⟩ = some (.int .i64 bs) := by
          rw [hF.1.cell (p := ⟨w.heap.size, 0, none⟩) (by simp; omega), World.cell?_alloc_lt _ _ _ (by show w.heap.size < _; omega)]; exact hc0
        have hC1 : w'.cell? ⟨w.heap.size, 1, none⟩ = some (.slice (some ⟨b, off, none⟩) n c) := by
          rw [hF.1.cell (p := ⟨w.heap.size, 1, none⟩) (by simp; omega), World.cell?_alloc_lt _ _ _ (by show w.heap.size < _; omega)]; exact hc1
        go_wp2_with fail
        go_roundw
        case rel => exact ⟨k + 1, by omega, by go_num, by rw [textTo_succ HK.out]; rfl, hB, by omega, hC0, hC1⟩
        case measure => simp [intOf]; omega
      · go_wp2
        go_ret
        obtain rfl : k = n := by omega
        rw [HF.out]
        exact ⟨rfl, hbel⟩
  · rw [Bool.not_eq_true] at hv
    have HV := Lib.hid hv
    have HF := Lib.hid (show textF bs ls = ⟨#[]⟩ by rw [textF, if_neg (by simp [hv])])
    clear hv
    go_enter Tryd.func9, Tryd.ntmps9
    go_wp2_with fail
    have hb0 := below_bx w (.cells #[.int .i64 bs, .slice A n c] 25)
    refine (specNetValid_any bs _ n c ls _ (by omega) (HR.out.below hb0)).mono ?_
    rintro e w1 ⟨rfl, hb1⟩
    rw [HV.out]
    go_wp2
    go_ret
    rw [HF.out]
    exact ⟨rfl, hb0.trans (hb1.mono (by simp))⟩
end Go.Proofs.YtciciidndjkdiaaDoor
