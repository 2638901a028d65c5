/- Busbars: a copy of bars, of the model. -/
import Derived.Test.YtafgfhjlkdjngaaDoorBrA
import Derived.Deep.AppendLies
import Derived.Deep.RegionLaw
namespace Go.Proofs.YtafgfhjlkdjngaaDoor
open Go.ChangeShapes Go.WideShapes Go.ChangeAt Go.RowKit

theorem ints_one (zs : List Int) : ∀ u ∈ zs.map (Value.int .i64), u.oneCell' = true := by
  intro u hu
  obtain ⟨z, _, rfl⟩ := List.mem_map.1 hu
  rfl
theorem src_ints {w : World} {ad : Addr} {n : Nat} {zs : List Int} (h : RowZ w (some ad) n zs) : ∀ j u, (zs.map (Value.int .i64))[j]? = some u → w.cell? (ad.add j) = some u := by
  intro j u hj
  have hn : 0 < n := by have := (List.getElem?_eq_some_iff.1 hj).1; have := h.1; omega
  obtain ⟨b, off, e, _, hc⟩ := h.2 hn
  injection e with e
  have ha : (⟨b, off, none⟩ : Addr).add j = ⟨b, off + j, none⟩ := by unfold Addr.add; split <;> simp_all
  rw [e, ha]; exact hc j u hj

set_option maxRecDepth 100000 in
set_option maxHeartbeats 4000000 in
theorem specCopy_any (A : Option Addr) (n c : Nat) (ss : List Int) (cp : Bool) (w : World) (hn1 : 1 ≤ n) (hn : n ≤ 1048576) (hr : RowZ w A n ss) :
    Calls Tryd.prog 63 #[.agg #[.slice A n c, .bool cp]] w fun e w' => ∃ v, e = .returned (vR v cp) ∧ OwnI 3 w' w.heap.size v ss ∧ Below w.heap.size w w' := by
  obtain ⟨i0, hi, hz0, hz1, hz2⟩ := info_parts intInfo6
  have HI := Lib.hid hi
  have HL := Lib.hid hr.len
  obtain ⟨b, off, e, hb, hc⟩ := hr.2 (by omega)
  subst e
  have HR := Lib.hid hr
  have K0 := Lib.hid ((IsBlk.new w 25 #[.slice (some ⟨b, off, none⟩) n c, .bool cp]).alloc (.cells #[.slice none 0 0, .bool false] 25))
  have R0 := Lib.hid (IsBlk.new (w.alloc (.cells #[.slice (some ⟨b, off, none⟩) n c, .bool cp] 25)) 25 #[.slice none 0 0, .bool false])
  simp only [World.size_alloc] at R0
  have b0 : Below w.heap.size w ((w.alloc (.cells #[.slice (some ⟨b, off, none⟩) n c, .bool cp] 25)).alloc (.cells #[.slice none 0 0, .bool false] 25)) := (below_bx w _).alloc (by simp) _
  clear hi hr hc
  go_enter Tryd.func63, Tryd.ntmps63
  go_upto_region 1 with fail
  have hsz : ((w.alloc (.cells #[.slice (some ⟨b, off, none⟩) n c, .bool cp] 25)).alloc (.cells #[.slice none 0 0, .bool false] 25)).heap.size = w.heap.size + 2 := by simp
  generalize (w.alloc (.cells #[.slice (some ⟨b, off, none⟩) n c, .bool cp] 25)).alloc (.cells #[.slice none 0 0, .bool false] 25) = W at *
  have HSZ := Lib.hid hsz
  have B0 := Lib.hid b0
  clear hsz b0
  have K1 := Lib.hid (show IsBlk (W.alloc (.cells #[] 3)).drew w.heap.size 25 #[.slice (some ⟨b, off, none⟩) n c, .bool cp] from K0.out.alloc _)
  have R1 := Lib.hid (show IsBlk (W.alloc (.cells #[] 3)).drew (w.heap.size + 1) 25 #[.slice none 0 0, .bool false] from R0.out.alloc _)
  have B1 := Lib.hid (show Below w.heap.size w (W.alloc (.cells #[] 3)).drew from (B0.out.alloc B0.out.size _).drew)
  have O1 := Lib.hid (show OwnI 3 (W.alloc (.cells #[] 3)).drew (w.heap.size + 2) (.slice (some ⟨W.heap.size, 0, none⟩) 0 0) [] from OwnI.moreR (ownLitR W) (by rw [HSZ.out]; exact Nat.le_refl _))
  have C1 := Lib.hid (src_ints (HR.out.below B1.out))
  obtain ⟨p0, p1, -⟩ := K0.out.two
  have hlt : w.heap.size < W.heap.size := K0.out.lt
  have hlt1 : w.heap.size + 1 < W.heap.size := R0.out.lt
  have q0 : W.drew.cell? ⟨w.heap.size, 0, none⟩ = some (.slice (some ⟨b, off, none⟩) n c) := p0
  have q1 : W.drew.cell? ⟨w.heap.size, 1, none⟩ = some (.bool cp) := p1
  go_region_law (
    refine step_append_lies _ rfl (.tmp 3) (.tmp 5) 23 rfl (w.heap.size + 2) 3 i0 (.int .i64 0) 1 8 Tryd.underlying23 HI.out hz0 hz1 hz2 rfl (by decide) (.slice (some ⟨W.heap.size, 0, none⟩) 0 0) 0 [] rfl O1.out ⟨b, off, none⟩ n c (ss.map (.int .i64)) rfl ?c0 ?c1 ?c2 ?cm ?c3 ?c4 ?c5 _ rfl ?_
    case c0 => rw [List.length_map, HL.out, Nat.mul_one]
    case c1 => exact C1.out
    case c2 => exact ints_one ss
    case cm => omega
    case c3 => simp only [maxLen]; omega
    case c4 => omega
    case c5 => have := R1.out.lt; omega
    intro g cap w6 hown' hgrow _ _
    have O6 := Lib.hid (show OwnI 3 w6 (w.heap.size + 2) (.slice (some ⟨g, 0, none⟩) n cap) ss by simpa [OwnI, HL.out] using hown')
    have hne : ∀ q, (Value.slice (some ⟨W.heap.size, 0, none⟩) 0 0).ownBlock = some q → w.heap.size + 2 ≤ q := fun q hq => (OwnI.lt O1.out q hq).1
    have R6 := Lib.hid (R1.out.farG hgrow (fun e => by have := hne _ e; omega))
    have B6 := Lib.hid (B1.out.grown hgrow (by have := B1.out.size; omega) (fun q hq => by have := hne q hq; omega))
    obtain ⟨s0, s1, -⟩ := (K1.out.farG hgrow (fun e => by have := hne _ e; omega)).two
    obtain ⟨r0, r1, f0, f1⟩ := R6.out.two
    clear hown' hgrow hne)
  all_goals go_wp2
  all_goals refine bodyPost_ret (v := vR (.slice (some ⟨g, 0, none⟩) n cap) cp) (by simp [results, Tryd.results63, go_sem, r0, r1, vR]) rfl ⟨_, rfl, ?_, below_two B6.out (by omega) _ _⟩
  all_goals exact OwnI.ret2 (OwnI.moreR O6.out (by omega)) (fun q hq => by have := (OwnI.lt O6.out q hq).1; omega) _ _
end Go.Proofs.YtafgfhjlkdjngaaDoor
