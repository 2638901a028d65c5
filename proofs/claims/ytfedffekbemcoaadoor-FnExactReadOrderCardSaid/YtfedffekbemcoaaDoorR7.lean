/- What the library says, off the shelf. -/
import Derived.Test.YtfedffekbemcoaaDoorShelf
import Derived.Test.YtfedffekbemcoaaDoorR5
import Derived.Lib.AppendIntMem
namespace Go.Proofs.YtfedffekbemcoaaDoor
open Go.ChangeShapes Go.WideShapes Go.ChangeAt Go.RowKit

theorem cutSays : CutSays := fun p sep w hp hl => by
  obtain ⟨m, hm⟩ := hl.maxl
  refine (Tryd.strings_Cut ⟨p.toArray⟩ ⟨#[sep]⟩ m w (by rw [size_str]; omega) hm).mono ?_
  rintro e w' ⟨rfl, n, rfl⟩
  exact ⟨rfl, below_drewN (Below.refl _ _) n⟩
theorem below_bytes (w : World) (t : TypeId) (x : ByteArray) : Below w.heap.size w (Lib.bytesWorld w t x) := by
  exact ⟨rfl, rfl, rfl, by rw [Lib.bytesWorld_size]; omega, fun j hj => Lib.bytesWorld_at_old w t x j hj⟩
theorem atoiSays : AtoiSays := fun p w hp hl => by
  obtain ⟨tp, q, hs⟩ := hl.syn
  obtain ⟨tp', q', hr⟩ := hl.ran
  rcases h : Lib.atoiAll p with v | _ | _
  all_goals unfold AtoiEnd
  all_goals rw [h]
  · refine (Tryd.strconv_Atoi_ok ⟨p.toArray⟩ (by rw [size_str]; omega) v h w).mono ?_
    rintro e w' ⟨rfl, rfl | ⟨t, rfl⟩⟩
    · exact ⟨rfl, Below.refl _ _⟩
    · exact ⟨rfl, below_bytes _ _ _⟩
  · refine Calls.mono (show Calls Tryd.prog 82 #[.string ⟨p.toArray⟩] w _ from Any.strconv_Atoi_syntax Tryd.laysC172 ⟨p.toArray⟩ (by rw [size_str]; omega) h _ w hs (.inr ⟨tp, q, rfl⟩)) ?_
    rintro e w' ⟨N, rfl, _, _, hb⟩
    exact ⟨⟨_, _, N, rfl⟩, hb⟩
  · refine Calls.mono (show Calls Tryd.prog 82 #[.string ⟨p.toArray⟩] w _ from Any.strconv_Atoi_range Tryd.laysC172 ⟨p.toArray⟩ (by rw [size_str]; omega) h _ w hr (.inr ⟨tp', q', rfl⟩)) ?_
    rintro e w' ⟨N, rfl, _, _, hb⟩
    exact ⟨⟨_, _, N, rfl⟩, hb⟩
theorem splitSays : SplitSays := fun s w hs hl => by
  obtain ⟨m, hm⟩ := hl.maxl
  refine (Tryd.strings_SplitN s ⟨#[32]⟩ 12 m w (by omega) hm (by decide) (by omega) (by omega)).mono ?_
  rintro e w' ⟨rfl, rfl⟩
  have hd := Lib.splitB_data ⟨#[32]⟩ 0 (min 12 (s.size + 1) - 1) s
  have hle := Lib.splitB_length_le ⟨#[32]⟩ 0 (min 12 (s.size + 1) - 1) s
  generalize Lib.splitB ⟨#[32]⟩ 0 (min 12 (s.size + 1) - 1) s = xs at *
  have e1 : Lib.splitK [32] 0 (min 12 (s.size + 1) - 1) s.data.toList = xs.map (·.data.toList) := hd.symm
  rw [e1, List.length_map]
  refine ⟨_, _, rfl, by omega, by omega, ⟨by simp, fun hp => ⟨w.heap.size, 0, rfl, by simp, fun k x hk => ?_⟩⟩, below_bx _ _⟩
  have hb := IsBlk.new w 9 (Lib.cellsOf xs (min 12 (s.size + 1)))
  rw [Nat.zero_add]
  refine (hb.cell k).trans ?_
  rw [List.map_map, List.getElem?_map] at hk
  have hkl : k < xs.length := by
    rcases Nat.lt_or_ge k xs.length with h | h
    · exact h
    · rw [List.getElem?_eq_none h] at hk; cases hk
  rw [List.getElem?_eq_getElem hkl] at hk
  simp only [Lib.cellsOf, List.getElem?_toArray]
  rw [List.getElem?_append_left (by simpa using hkl), List.getElem?_map, List.getElem?_eq_getElem hkl, ← hk]
  simp [strV]
end Go.Proofs.YtfedffekbemcoaaDoor
