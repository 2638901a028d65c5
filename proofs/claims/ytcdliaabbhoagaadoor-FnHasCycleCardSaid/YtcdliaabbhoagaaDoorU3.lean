/- The laws' own helpers of chapter 4: how many truths hold; a state of the lines of a list. -/
import Derived.Test.YtcdliaabbhoagaaDoorP1
import Derived.Test.YtcdliaabbhoagaaDoorBCE
namespace Go.Proofs.YtcdliaabbhoagaaDoor
open Go.ChangeShapes Go.WideShapes Go.ChangeAt Go.RowKit

set_option maxRecDepth 100000 in
theorem count_any (A : Option Addr) (n c : Nat) (ts : List Bool) (w : World) (hn : n ≤ 1048576) (hr : RowT w A n ts) :
    Calls Tryd.prog 10 #[.slice A n c] w fun e w' => e = .returned (.int .i64 (ts.countP id : Nat)) ∧ w' = w := by
  have HR := Lib.hid hr
  have HL := Lib.hid hr.len
  clear hr
  go_enter Tryd.func10, Tryd.ntmps10
  go_wp2
  go_loopw [3, 4] (fun s i wr => ∃ k : Nat, k ≤ n ∧ i = .int .i64 k ∧ s = .int .i64 ((ts.take k).countP id : Nat) ∧ wr = w) (fun _ i _ => n - (intOf i).toNat)
  case atStart => exact ⟨0, by omega, rfl, by simp, rfl⟩
  case round =>
    obtain ⟨k, hk, rfl, rfl, rfl⟩ := hrel
    by_cases hlt : k < n
    · obtain ⟨b, off, t, rfl, hb, hkt, g0⟩ := HR.out.at_ hlt
      have i0 : (0 : Int) ≤ (k : Int) := by omega
      have i1 : (k : Int) < (n : Int) := by omega
      have hle : (ts.take k).countP id ≤ k := Nat.le_trans List.countP_le_length (by simp; omega)
      have hsu : (ts.take (k + 1)).countP id = (ts.take k).countP id + (if t = true then 1 else 0) := by
        rw [List.take_add_one, hkt, List.countP_append]; cases t <;> rfl
      have HSU := Lib.hid hsu
      generalize (ts.take k).countP id = s at *
      have hs0 : (0 : Int) ≤ (s : Int) := by omega
      have hs1 : (s : Int) ≤ 1048576 := by omega
      clear hkt hb hsu
      cases t
      · go_wp2
        go_roundw
        case rel => exact ⟨k + 1, by omega, by go_num, by rw [HSU.out]; rfl, trivial⟩
        case measure => simp [intOf]; omega
      · go_wp2
        go_roundw
        case rel => exact ⟨k + 1, by omega, by go_num, by rw [HSU.out]; rfl, trivial⟩
        case measure => simp [intOf]; omega
    · obtain rfl : k = n := by omega
      have e : ts.take k = ts := List.take_of_length_le (by have := HL.out; omega)
      rw [e]
      go_wp2
      go_ret
      exact ⟨rfl, rfl⟩

/-- The lines of a list, and no others. -/
def onStep (M : Nat) (x : List Bool) (z : Int) : List Bool := if 0 ≤ z ∧ z < (M : Int) then x.set z.toNat true else x
def onF (M : Nat) (zs : List Int) : List Bool := zs.foldl (onStep M) (List.replicate M false)
theorem onStep_len (M : Nat) (x : List Bool) (z : Int) : (onStep M x z).length = x.length := by unfold onStep; split <;> simp
theorem onFold_len (M : Nat) (zs : List Int) : ∀ x : List Bool, (zs.foldl (onStep M) x).length = x.length := by
  induction zs with
  | nil => intro x; rfl
  | cons z zs ih => intro x; rw [List.foldl_cons, ih, onStep_len]
theorem onF_len (M : Nat) (zs : List Int) : (onF M zs).length = M := by rw [onF, onFold_len]; simp
theorem onFold_get (M : Nat) (zs : List Int) : ∀ (x : List Bool) (j : Nat), x.length = M → ((zs.foldl (onStep M) x)[j]? = some true ↔ x[j]? = some true ∨ (j < M ∧ (j : Int) ∈ zs)) := by
  induction zs with
  | nil => intro x j _; simp
  | cons z zs ih =>
    intro x j hx
    rw [List.foldl_cons, ih _ j (by rw [onStep_len, hx]), List.mem_cons]
    have e : (onStep M x z)[j]? = some true ↔ x[j]? = some true ∨ (j < M ∧ (j : Int) = z) := by
      unfold onStep
      split
      · rename_i h
        by_cases hj : z.toNat = j
        · subst hj
          rw [List.getElem?_set_self (by omega)]
          simp; omega
        · rw [List.getElem?_set_ne hj]
          exact ⟨.inl, fun h2 => h2.elim id fun ⟨_, h3⟩ => absurd (by omega) hj⟩
      · rename_i h
        exact ⟨.inl, fun h2 => h2.elim id fun ⟨h3, h4⟩ => absurd ⟨by omega, by omega⟩ h⟩
    rw [e]
    constructor
    · rintro ((h | ⟨h1, h2⟩) | ⟨h1, h2⟩)
      · exact .inl h
      · exact .inr ⟨h1, .inl h2⟩
      · exact .inr ⟨h1, .inr h2⟩
    · rintro (h | ⟨h1, h2 | h2⟩)
      · exact .inl (.inl h)
      · exact .inl (.inr ⟨h1, h2⟩)
      · exact .inr ⟨h1, h2⟩
theorem onF_get (M : Nat) (zs : List Int) (j : Nat) : (onF M zs)[j]? = some true ↔ j < M ∧ (j : Int) ∈ zs := by
  rw [onF, onFold_get M zs _ j (by simp), List.getElem?_replicate]
  constructor
  · rintro (h | h)
    · split at h <;> simp at h
    · exact h
  · exact .inr
theorem onF_span {bs : Int} {ls : List L3} {ts : List Bool} (hs : stOk bs ls ts.length = true) : onF ts.length (spaF bs ls ts) = spX ls ts ts.length := by
  obtain ⟨_, _, _, _, i5⟩ := span_inv (stOk_net hs) (stOk_len hs).1 ts.length (Nat.le_refl _)
  have key : ∀ j : Nat, (onF ts.length (spaF bs ls ts))[j]? = some true ↔ (spX ls ts ts.length)[j]? = some true := by
    intro j
    rw [onF_get, i5, spaF_of hs, ofN_mem]
    constructor
    · rintro ⟨_, b, hb, e⟩
      rw [show j = b by omega]; exact hb
    · intro h
      refine ⟨?_, j, h, rfl⟩
      rw [spTo, List.mem_filter, List.mem_range] at h
      exact h.1
  apply List.ext_getElem?
  intro j
  have h := key j
  rcases Nat.lt_or_ge j ts.length with hj | hj
  · rw [getD_get (s := onF ts.length (spaF bs ls ts)) (by rw [onF_len]; exact hj), getD_get (s := spX ls ts ts.length) (by rw [spX_len]; exact hj)] at h ⊢
    congr 1
    rw [Bool.eq_iff_iff]
    simpa using h
  · rw [List.getElem?_eq_none (by rw [onF_len]; exact hj), List.getElem?_eq_none (by rw [spX_len]; exact hj)]

set_option maxRecDepth 100000 in
theorem onOnly_any (M : Nat) (hM : M ≤ 1048576) (A : Option Addr) (n c : Nat) (zs : List Int) (w : World) (hn : n ≤ 1048576) (hr : RowZ w A n zs) :
    Calls Tryd.prog 16 #[.int .i64 (M : Int), .slice A n c] w fun e w' => e = .returned (.slice (some ⟨w.heap.size, 0, none⟩) M M) ∧ OwnT w' w.heap.size (.slice (some ⟨w.heap.size, 0, none⟩) M M) (onF M zs) ∧ Below w.heap.size w w' := by
  have hmk := makeTruthsN M hM
  have HR := Lib.hid hr
  have HL := Lib.hid hr.len
  clear hr
  go_enter Tryd.func16, Tryd.ntmps16
  go_wp2
  clear hmk
  go_loopw [6] (fun i wr => ∃ k : Nat, k ≤ n ∧ i = .int .i64 k ∧ Below w.heap.size w wr ∧ IsBlk wr w.heap.size 4 (truthsB ((zs.take k).foldl (onStep M) (List.replicate M false)))) (fun i _ => n - (intOf i).toNat)
  case atStart =>
    refine ⟨0, by omega, rfl, below_bx _ _, ?_⟩
    have : madeCells #[Value.bool false] M = truthsB (List.replicate M false) := truthsB_made M
    rw [List.take_zero, List.foldl_nil, ← this]
    exact IsBlk.new w _ _
  case round =>
    obtain ⟨k, hk, rfl, hbel, hblk⟩ := hrel
    by_cases hlt : k < n
    · obtain ⟨b, off, z, rfl, hb, hkz, g0⟩ := HR.out.at_ hlt
      rw [← hbel.cell (p := ⟨b, off + k, none⟩) hb] at g0
      have i0 : (0 : Int) ≤ (k : Int) := by omega
      have i1 : (k : Int) < (n : Int) := by omega
      have hst : (zs.take (k + 1)).foldl (onStep M) (List.replicate M false) = onStep M ((zs.take k).foldl (onStep M) (List.replicate M false)) z := by
        rw [List.take_add_one, hkz, List.foldl_append]; rfl
      have hxl : ((zs.take k).foldl (onStep M) (List.replicate M false)).length = M := by rw [onFold_len]; simp
      generalize (zs.take k).foldl (onStep M) (List.replicate M false) = x at *
      have HB := Lib.hid hblk
      by_cases h0 : 0 ≤ z
      · by_cases h1 : z < (M : Int)
        · have HS := Lib.hid (show (zs.take (k + 1)).foldl (onStep M) (List.replicate M false) = x.set z.toNat true by rw [hst, onStep, if_pos ⟨h0, h1⟩])
          obtain ⟨a, rfl⟩ := Int.eq_ofNat_of_zero_le h0
          have hax : a < (truthsB x).size := by simp [truthsB, hxl]; omega
          have c0 : wr.cell? ⟨w.heap.size, a, none⟩ = some (truthsB x)[a] := (hblk.cell a).trans (Array.getElem?_eq_getElem hax)
          have f0 : wr.frozen? ⟨w.heap.size, a, none⟩ = false := hblk.thaw a
          generalize (truthsB x)[a] = u at c0
          clear hst hkz hblk
          go_wp2
          go_roundw
          case rel => exact ⟨k + 1, by omega, by go_num, hbel.setCell (Nat.le_refl _) _, by rw [HS.out, ← truthsB_set]; exact HB.out.put _ _⟩
          case measure => simp [intOf]; omega
        · have HS := Lib.hid (show (zs.take (k + 1)).foldl (onStep M) (List.replicate M false) = x by rw [hst, onStep, if_neg (fun h => h1 h.2)])
          clear hst hkz hblk
          go_wp2
          go_roundw
          case rel => exact ⟨k + 1, by omega, by go_num, hbel, by rw [HS.out]; exact HB.out⟩
          case measure => simp [intOf]; omega
      · have HS := Lib.hid (show (zs.take (k + 1)).foldl (onStep M) (List.replicate M false) = x by rw [hst, onStep, if_neg (fun h => h0 h.1)])
        clear hst hkz hblk
        go_wp2
        go_roundw
        case rel => exact ⟨k + 1, by omega, by go_num, hbel, by rw [HS.out]; exact HB.out⟩
        case measure => simp [intOf]; omega
    · obtain rfl : k = n := by omega
      have e : zs.take k = zs := List.take_of_length_le (by have := HL.out; omega)
      rw [e] at hblk
      have HB := Lib.hid hblk
      clear hblk
      go_wp2
      go_ret
      refine ⟨rfl, OwnT.mk (onF_len M zs) (Nat.le_refl _) HB.out (Nat.le_refl _) ?_ ?_, hbel⟩
      · have := onF_len M zs; rw [onF] at this; simp [truthsB, this]
      · rw [List.take_of_length_le (by have := onF_len M zs; rw [onF] at this; simp [truthsB, this])]; rfl
end Go.Proofs.YtcdliaabbhoagaaDoor
