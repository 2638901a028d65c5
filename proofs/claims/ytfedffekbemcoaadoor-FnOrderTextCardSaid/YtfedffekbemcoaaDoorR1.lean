/- Reading of texts, the model's half: l1Read, l1Cut. -/
import Derived.Test.YtfedffekbemcoaaDoorR0
import Derived.Test.YtfedffekbemcoaaDoorBCA
import Derived.Test.YtfedffekbemcoaaDoorBPA
import Derived.Lib.LaidTab
import Derived.Lib.SmallJoins
import Derived.Lib.Strings
import Derived.Lib.IndexBytes
import Derived.Maps.AppendAt
import Derived.OwnWalk
import Derived.WalkSpells
import Derived.Deep.RegionWith
import Derived.Below
import Derived.IntWalk
namespace Go.Proofs.YtfedffekbemcoaaDoor
open Go.ChangeShapes Go.WideShapes Go.ChangeAt Go.RowKit

def strV (p : Bs) : Value := .string ⟨p.toArray⟩
/-- A slice of texts of the call's own. -/
def OwnS (w : World) (base : Nat) (v : Value) (ps : List Bs) : Prop := w.ownsRow base 9 1 v ps.length (ps.map strV)
theorem OwnS.keep {w w' : World} {base : Nat} {v : Value} {xs : List Bs} (h : OwnS w base v xs) (hb : Below w.heap.size w w') : OwnS w' base v xs :=
  World.ownsRow.kept (row := none) h ⟨hb.os, hb.tape, hb.output, hb.size, fun i hi _ => hb.block i hi⟩ (Classical.em _)
theorem OwnS.row {w : World} {base : Nat} {v : Value} {ps : List Bs} (h : OwnS w base v ps) : ∃ A c, v = .slice A ps.length c ∧ RowV w A ps.length (ps.map strV) := by
  rcases h.2 with ⟨rfl, h0⟩ | ⟨g, cap, cur, rfl, hb, hg, hn, hc, hsz, ht⟩
  · exact ⟨none, 0, by rw [h0], by simp, fun hp => absurd hp (by omega)⟩
  · refine ⟨some ⟨g, 0, none⟩, cap, rfl, by simp, fun _ => ⟨g, 0, rfl, (Array.getElem?_eq_some_iff.1 hg).1, fun k x hk => ?_⟩⟩
    have hlt : k < ps.length := by have := (List.getElem?_eq_some_iff.1 hk).1; simpa using this
    rw [cell_of_row w g _ cur 9 (0, 0) hg, Nat.zero_add, ← Array.getElem?_toList]
    rw [Nat.mul_one] at ht
    rw [← ht, List.getElem?_take_of_lt (by omega)] at hk
    exact hk

theorem strInfo : (Tryd.prog.info? 9).map (fun i => (i.zero, i.size, i.bytes)) = some (some (.string ByteArray.empty), 1, 16) := by kernel_rfl

theorem valA_stop {c : UInt8} {r : Bs} {a : Int} (h : (c.toNat : Int) < 48 ∨ 57 < (c.toNat : Int)) : valA a (c :: r) = -1 := by
  rw [valA, if_neg (by omega)]
theorem valA_step {c : UInt8} {r : Bs} {a : Int} (h : 48 ≤ (c.toNat : Int) ∧ (c.toNat : Int) ≤ 57) : valA a (c :: r) = valA (10 * a + ((c.toNat : Int) - 48)) r := by
  rw [valA, if_pos (by omega)]
theorem sized (s : ByteArray) : s.data.toList.length = s.size := (Lib.size_eq s).symm
theorem drop_at {s : ByteArray} {k : Nat} (h : k < s.size) : s.data.toList.drop k = s[k] :: s.data.toList.drop (k + 1) := by
  have hl : k < s.data.toList.length := by rw [sized]; exact h
  rw [List.drop_eq_getElem_cons hl]; rfl
set_option maxHeartbeats 1000000 in
theorem l1Read_any (s : ByteArray) (w : World) (hs : s.size ≤ 9223372036854775807) :
    Calls Tryd.prog 52 #[.string s] w fun e w' => e = .returned (.int .i64 (readS s.data.toList)) ∧ w = w' := by
  by_cases h0 : 1 ≤ s.size ∧ s.size ≤ 3
  · obtain ⟨h1, h3⟩ := h0
    have hc0 : 0 < s.size := by omega
    have hd0 := drop_at hc0
    rw [List.drop_zero] at hd0
    have HD := Lib.hid hd0
    clear hd0
    by_cases hz : 1 < s.size ∧ (s[0].toNat : Int) = 48
    · obtain ⟨h4, h5⟩ := hz
      have HF := Lib.hid (show readS s.data.toList = -1 by
        rw [readS, if_pos]
        refine .inr (.inr ⟨by rw [sized]; exact h4, ?_⟩)
        rw [HD.out]
        have : s[0] = 48 := UInt8.toNat_inj.1 (by simpa using (by omega : s[0].toNat = 48))
        rw [this]; rfl)
      have h6 : (1 : Int) < (s.size : Int) := by omega
      have h7 : ((s[0].toNat : Int) == 48) = true := by simpa using h5
      have H5 := Lib.hid h5
      clear h5
      go_enter Tryd.func52, Tryd.ntmps52
      go_wp2
      go_ret
      exact ⟨retI HF.out.symm, rfl⟩
    · have HF := Lib.hid (show readS s.data.toList = valA 0 s.data.toList by
        rw [readS, if_neg]
        rw [sized]
        rintro (h | h | ⟨h, h5⟩)
        · omega
        · omega
        · refine hz ⟨h, ?_⟩
          rw [HD.out, List.head?_cons] at h5
          rw [Option.some.inj h5]; rfl)
      have hcase : (s.size = 1 ∧ ¬ (1 : Int) < (s.size : Int)) ∨ ((1 : Int) < (s.size : Int) ∧ ((s[0].toNat : Int) == 48) = false) := by
        by_cases h4 : 1 < s.size
        · exact .inr ⟨by omega, by rw [beq_eq_false_iff_ne]; exact fun e => hz ⟨h4, e⟩⟩
        · exact .inl ⟨by omega, by omega⟩
      clear hz
      rcases hcase with ⟨_, h5⟩ | ⟨h5, h6⟩
      all_goals
        go_enter Tryd.func52, Tryd.ntmps52
        go_wp2
        go_loop [3, 4] (fun n i => ∃ (k : Nat) (a : Int), k ≤ s.size ∧ i = .int .i64 k ∧ n = .int .i64 a ∧ 0 ≤ a ∧ ((k = 0 ∧ a = 0) ∨ (k = 1 ∧ a ≤ 9) ∨ (k = 2 ∧ a ≤ 99) ∨ (k = 3 ∧ a ≤ 999)) ∧ valA 0 s.data.toList = valA a (s.data.toList.drop k)) (fun _ i => s.size - (intOf i).toNat)
        case atStart => exact ⟨0, 0, by omega, rfl, rfl, by omega, by omega, by rw [List.drop_zero]⟩
        case round =>
          obtain ⟨k, a, hk, rfl, rfl, ha, hb, hv⟩ := hrel
          have HV := Lib.hid hv
          clear hv
          by_cases hlt : k < s.size
          · have HK := Lib.hid (drop_at hlt)
            have ha2 : a ≤ 999 := by omega
            rcases (show (s[k].toNat : Int) < 48 ∨ 57 < (s[k].toNat : Int) ∨ (48 ≤ (s[k].toNat : Int) ∧ (s[k].toNat : Int) ≤ 57) by omega) with hc | hc | ⟨hc, hc2⟩
            · have HR := Lib.hid (show readS s.data.toList = -1 by rw [HF.out, HV.out, HK.out, valA_stop (.inl hc)])
              go_wp2
              go_ret
              exact ⟨retI HR.out.symm, rfl⟩
            · have HR := Lib.hid (show readS s.data.toList = -1 by rw [HF.out, HV.out, HK.out, valA_stop (.inr hc)])
              have hc3 : ¬ (s[k].toNat : Int) < 48 := by omega
              go_wp2
              go_ret
              exact ⟨retI HR.out.symm, rfl⟩
            · have HR := Lib.hid (show valA 0 s.data.toList = valA (10 * a + ((s[k].toNat : Int) - 48)) (s.data.toList.drop (k + 1)) by rw [HV.out, HK.out, valA_step ⟨hc, hc2⟩])
              have hc3 : ¬ (s[k].toNat : Int) < 48 := by omega
              have hc4 : ¬ 57 < (s[k].toNat : Int) := by omega
              go_wp2
              go_round
              case rel => exact ⟨k + 1, 10 * a + ((s[k].toNat : Int) - 48), by omega, by go_num, rfl, by omega, by omega, HR.out⟩
              case measure => simp [intOf]; omega
          · obtain rfl : k = s.size := by omega
            have HR := Lib.hid (show readS s.data.toList = a by rw [HF.out, HV.out, List.drop_of_length_le (by rw [sized]; exact Nat.le_refl _)]; rfl)
            go_wp2
            go_ret
            exact ⟨retI HR.out.symm, rfl⟩
  · have HF := Lib.hid (show readS s.data.toList = -1 by
      rw [readS, if_pos]
      rw [sized]
      omega)
    have h1 : (s.size : Int) < 1 ∨ 3 < (s.size : Int) := by omega
    clear h0
    rcases h1 with h1 | h1
    · have h2 : ¬ (1 : Int) ≤ (s.size : Int) := by omega
      go_enter Tryd.func52, Tryd.ntmps52
      go_wp2
      all_goals go_ret
      all_goals exact ⟨retI HF.out.symm, rfl⟩
    · have h2 : ¬ (s.size : Int) ≤ 3 := by omega
      have h3 : (1 : Int) ≤ (s.size : Int) := by omega
      go_enter Tryd.func52, Tryd.ntmps52
      go_wp2
      all_goals go_ret
      all_goals exact ⟨retI HF.out.symm, rfl⟩
end Go.Proofs.YtfedffekbemcoaaDoor
