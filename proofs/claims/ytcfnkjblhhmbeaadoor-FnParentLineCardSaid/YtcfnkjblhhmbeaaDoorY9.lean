/- FnAliveBuses: the walk. -/
import Derived.Test.YtcfnkjblhhmbeaaDoorD3
import Derived.Test.YtcfnkjblhhmbeaaDoorG3
import Derived.Test.YtcfnkjblhhmbeaaDoorK4
import Derived.Test.YtcfnkjblhhmbeaaDoorK5
import Derived.Test.YtcfnkjblhhmbeaaDoorY4
import Derived.Deep.RegionHeld3
namespace Go.Proofs.YtcfnkjblhhmbeaaDoor
open Go.ChangeShapes Go.WideShapes Go.ChangeAt Go.RowKit

section
variable {bs : Int} {ls : List L3} {ts : List Bool} {us : List U2}
theorem aliF_of (h : okU bs ls ts.length us = true) : aliF bs ls ts us = ofN (aliTo (edgesOn ls ts) bs.toNat us bs.toNat) := by rw [aliF, if_pos h]
theorem aliF_asc : ∀ (k : Nat) (x y : Int), (aliF bs ls ts us)[k]? = some x → (aliF bs ls ts us)[k + 1]? = some y → x < y := by
  intro k x y hx hy
  rw [aliF] at hx hy
  split at hx
  · rename_i hc
    rw [if_pos hc] at hy
    simp only [ofN, List.getElem?_map, Option.map_eq_some_iff] at hx hy
    obtain ⟨a, ha, rfl⟩ := hx
    obtain ⟨b, hb, rfl⟩ := hy
    have h := List.pairwise_iff_getElem.1 (range_filter_ascend (aliB (edgesOn ls ts) bs.toNat us) bs.toNat) k (k + 1) (List.getElem?_eq_some_iff.1 ha).1 (List.getElem?_eq_some_iff.1 hb).1 (Nat.lt_succ_self k)
    have e1 := (List.getElem?_eq_some_iff.1 ha).2
    have e2 := (List.getElem?_eq_some_iff.1 hb).2
    have h' : a < b := by rw [← e1, ← e2]; exact h
    exact Int.ofNat_lt.2 h'
  · simp at hx
theorem mem_aliF (h : okU bs ls ts.length us = true) {z : Int} : z ∈ aliF bs ls ts us ↔ ∃ b : Nat, z = (b : Int) ∧ b < bs.toNat ∧ 0 < isum (edgesOn ls ts) bs.toNat (fd us) b := by
  rw [aliF_of h, ofN_mem]
  constructor
  · rintro ⟨b, hb, rfl⟩
    rw [aliTo, List.mem_filter, List.mem_range] at hb
    exact ⟨b, rfl, hb.1, by simpa [aliB] using hb.2⟩
  · rintro ⟨b, rfl, h1, h2⟩
    exact ⟨b, by rw [aliTo, List.mem_filter, List.mem_range]; exact ⟨h1, by simpa [aliB] using h2⟩, rfl⟩
/-- P3: with a line on, all buses are alive that are with it off. -/
theorem aliF_sub {k : Nat} {l : L3} (h : okU bs ls ts.length us = true) (hk : ls[k]? = some l) (hkt : k < ts.length) : ∀ z ∈ aliF bs ls (ts.set k false) us, z ∈ aliF bs ls (ts.set k true) us := by
  intro z hz
  have h0 : okU bs ls (ts.set k false).length us = true := by rw [List.length_set]; exact h
  have h1 : okU bs ls (ts.set k true).length us = true := by rw [List.length_set]; exact h
  obtain ⟨b, rfl, hb, hp⟩ := (mem_aliF h0).1 hz
  refine (mem_aliF h1).2 ⟨b, rfl, hb, Int.lt_of_lt_of_le hp ?_⟩
  exact gsum_le (fun c _ => (fd_bd (okU_bu h) c).1) (fun c _ hc => connB_iff.2 ((connB_iff.1 hc).mono fun x y hxy => (adj_set hk hkt x y).2 (.inl hxy)))
/-- Both ends of a line that is on are alive together. -/
theorem aliF_line {k : Nat} {l : L3} (h : okU bs ls ts.length us = true) (hk : ls[k]? = some l) (hkt : ts[k]? = some true) : decide (l.1 ∈ aliF bs ls ts us) = decide (l.2.1 ∈ aliF bs ls ts us) := by
  obtain ⟨a0, a1, b0, b1⟩ := line_in (okU_st h) hk
  have hc : Conn (edgesOn ls ts) l.1.toNat l.2.1.toNat := Conn.one (.inl (mem_edgesOn.2 ⟨k, l, hk, hkt, rfl⟩))
  have he := isum_congr (nb := bs.toNat) (f := fd us) hc
  rw [decide_eq_decide, mem_aliF h, mem_aliF h]
  constructor
  · rintro ⟨b, hb, _, hp⟩
    exact ⟨l.2.1.toNat, by omega, by omega, by rw [← he, show l.1.toNat = b by omega]; exact hp⟩
  · rintro ⟨b, hb, _, hp⟩
    exact ⟨l.1.toNat, by omega, by omega, by rw [he, show l.2.1.toNat = b by omega]; exact hp⟩
end
theorem swV_at {bs : Int} {ls : List L3} {ts : List Bool} {k : Nat} (hk : k < ts.length) (hs : stOk bs ls ts.length = true) (sw : Bool) : swF bs ls ts (k : Int) sw = ts.set k sw := by
  rw [swF, if_pos hs, if_pos (by omega)]; rfl
theorem holdA {w w' : World} {X b o o1 b' o' : Nat} {u v x y z : Value} (p0 : w.cell? ⟨X, 0, none⟩ = some u) (p1 : w.cell? ⟨X, 1, none⟩ = some v) (hX : X < w.heap.size) (g0 : w.cell? ⟨b, o, none⟩ = some x) (g1 : w.cell? ⟨b, o1, none⟩ = some y) (hbb : b < w.heap.size) (e0 : w.cell? ⟨b', o', none⟩ = some z) (hbe : b' < w.heap.size) (hb : Below w.heap.size w w') :
    Below w.heap.size w w' ∧ w'.cell? ⟨X, 0, none⟩ = some u ∧ w'.cell? ⟨X, 1, none⟩ = some v ∧ w'.cell? ⟨b, o, none⟩ = some x ∧ w'.cell? ⟨b, o1, none⟩ = some y ∧ w'.cell? ⟨b', o', none⟩ = some z :=
  ⟨hb, (hb.cell (p := ⟨X, 0, none⟩) hX).trans p0, (hb.cell (p := ⟨X, 1, none⟩) hX).trans p1, (hb.cell (p := ⟨b, o, none⟩) hbb).trans g0, (hb.cell (p := ⟨b, o1, none⟩) hbb).trans g1, (hb.cell (p := ⟨b', o', none⟩) hbe).trans e0⟩
theorem hasInt_v (v : Value) (xs : List Int) (x : Int) {t : Bool} (ht : decide (x ∈ xs) = t) (w : World) (hl : xs.length ≤ 1048576) (hr : RowI w v xs) :
    Calls Tryd.prog 17 #[v, .int .i64 x] w fun e w' => e = .returned (.bool t) ∧ Below w.heap.size w w' := by
  subst ht
  refine (hasInt_any v xs x w hl hr).mono ?_
  rintro e w' ⟨rfl, rfl⟩
  exact ⟨rfl, Below.refl _ _⟩
end Go.Proofs.YtcfnkjblhhmbeaaDoor
