/- Texts joined: The numbers of the buses apart, of the program; IslandNumbers, of the program; Reached and SameIsland, of the program; SameIsland, of the program. -/
import Derived.Test.YtapbmpodimdkpaaDoorBPC
import Derived.Test.YtapbmpodimdkpaaDoorBCC
import Derived.ScopeJumps
import Derived.Deep.DeepCutAuto
import Derived.Laws.Small
import Derived.WalkMore
import Derived.StillTailTactics
import Derived.Deep.RegionHeld3

/- The numbers of the buses apart, of the program. -/
namespace Go.Proofs.YtapbmpodimdkpaaDoor
open Go.ChangeShapes Go.WideShapes Go.ChangeAt Go.RowKit

theorem makeIntsN (n : Nat) (hn : n ≤ 1048576) (w : World) : (Instr.makeSlice 34 (.int .i64 (n : Int)) (.int .i64 (n : Int))).run Tryd.prog w = .ok (.slice (some ⟨w.heap.size, 0, none⟩) n n) (w.alloc (.cells (madeCells (Value.int .i64 0).cells n) 3)) := by
  obtain ⟨i0, hi, hz0, hz1, hz2⟩ := info_parts intInfo6
  have := run_make (P := Tryd.prog) w 34 3 i0 _ Tryd.underlying34 hi hz0 .i64 .i64 n n (by omega) (by omega) (by rw [hz2]; omega) (by omega)
  rw [this, Int.toNat_natCast, hz1, Nat.mul_one]

def intsB (zs : List Nat) : Array Value := ((ofN zs).map (Value.int .i64)).toArray
theorem intsB_set (zs : List Nat) (a z : Nat) : (intsB zs).setIfInBounds a (.int .i64 (z : Int)) = intsB (zs.set a z) := by
  apply Array.ext'
  simp [intsB, ofN, List.map_set]

end Go.Proofs.YtapbmpodimdkpaaDoor

/- IslandNumbers, of the program. -/
namespace Go.Proofs.YtapbmpodimdkpaaDoor
open Go.ChangeShapes Go.WideShapes Go.ChangeAt Go.RowKit

/-- A scope with one label behind which the run may come back to it: the code behind the label once, from whatever frame holds J. -/
theorem wp_scope_again {P : Program} {a : Act} {w : World} {Q : Exit → Act → World → Prop} {c b : Code} (l : Nat) (J : Act → World → Prop) (μ : Act → World → Nat) (hf : findLabel c l = some (.seq .skip b))
    (pass : ∀ a w, J a w → b.wp P (Exit.jump l (fun a' w' => J a' w' ∧ μ a' w' < μ a w) Q) a w)
    (first : (∀ a w, J a w → b.wp P (Exit.jump l J Q) a w) → c.wp P (Exit.jump l J Q) a w) : (Code.scope c).wp P Q a w := by
  refine wp_scope_jumps l J μ hf (first fun a w h => wp_mono (pass a w h) ?_) (fun a w h => wp_seq (wp_skip (pass a w h)))
  intro e a' w' hq
  cases e with
  | goto l' => exact ⟨hq.1, hq.2.1⟩
  | _ => exact hq

/-- The frame at the label. -/
def IslFrame (nb n m c d g0 g : Nat) (A B : Option Addr) (a : Act) : Prop := ∃ u3 u6 u7 u8 u9 u10 u11 u12 u13 u14 u15 u16 u17 u18 u19 u20 u21 u22 u23 u24 u25 u26 u27 u28 u29 u30 u31 u32 u33 u34 u35 u36 u37 u38 u39 u40 u41 u42 u43 u44 u45 u46 u47 u48 u49 u50 u51 u52 u53 u54 u55 u56 u57 u58 u59 u60 u61 u62 u63 : Value, a = { tmps := #[.agg #[.int .i64 (nb : Int), .slice A n c], .slice B m d, .pointer (some ⟨g0, 0, none⟩), u3, .slice none 0 0, .slice (some ⟨g, 0, none⟩) nb nb, u6, u7, u8, u9, u10, u11, u12, u13, u14, u15, u16, u17, u18, u19, u20, u21, u22, u23, u24, u25, u26, u27, u28, u29, u30, u31, u32, u33, u34, u35, u36, u37, u38, u39, u40, u41, u42, u43, u44, u45, u46, u47, u48, u49, u50, u51, u52, u53, u54, u55, u56, u57, u58, u59, u60, u61, u62, u63], defers := [] }
/-- What holds at the label: the numbers lie in a block of the call's own. -/
structure IslSt (es : List E2) (nb n c : Nat) (A : Option Addr) (w wx : World) (g : Nat) (zs : List Nat) : Prop where
  lt : w.heap.size < g
  bel : Below w.heap.size w wx
  box : IsBlk wx w.heap.size 60 #[.int .i64 (nb : Int), .slice A n c]
  blk : IsBlk wx g 3 (intsB zs)
  inv : NumInv es nb zs
section
variable {es : List E2} {nb n c : Nat} {A : Option Addr} {w wx w' : World} {g : Nat} {zs : List Nat}
theorem IslSt.next (h : IslSt es nb n c A w wx g zs) (hb : Below wx.heap.size wx w') : IslSt es nb n c A w w' g zs :=
  ⟨h.lt, h.bel.trans (hb.mono h.bel.size), h.box.keep hb, h.blk.keep hb, h.inv⟩
theorem IslSt.cell {k z : Nat} (h : IslSt es nb n c A w wx g zs) (hz : zs[k]? = some z) : wx.cell? ⟨g, k, none⟩ = some (.int .i64 (z : Int)) := by
  rw [h.blk.cell]; simp [intsB, ofN, hz]
end
def IslJ (es : List E2) (nb n m c d : Nat) (A B : Option Addr) (w : World) (a : Act) (wx : World) : Prop := ∃ g zs, IslFrame nb n m c d w.heap.size g A B a ∧ IslSt es nb n c A w wx g zs
open Classical in
/-- The sum of the numbers. -/
noncomputable def islMu (a : Act) (wx : World) : Nat := match a.tmps.getD 5 undef with | .slice (some ad) _ _ => (match wx.heap[ad.block]? with | some (.cells cs _ _) => (cs.toList.map fun v => (intOf v).toNat).sum | _ => 0) | _ => 0
theorem islMu_eq {es : List E2} {nb n m c d g0 g : Nat} {A B : Option Addr} {w wx : World} {a : Act} {zs : List Nat} (hf : IslFrame nb n m c d g0 g A B a) (hs : IslSt es nb n c A w wx g zs) : islMu a wx = zs.sum := by
  obtain ⟨u3, u6, u7, u8, u9, u10, u11, u12, u13, u14, u15, u16, u17, u18, u19, u20, u21, u22, u23, u24, u25, u26, u27, u28, u29, u30, u31, u32, u33, u34, u35, u36, u37, u38, u39, u40, u41, u42, u43, u44, u45, u46, u47, u48, u49, u50, u51, u52, u53, u54, u55, u56, u57, u58, u59, u60, u61, u62, u63, rfl⟩ := hf
  have hb := hs.blk
  rw [IsBlk] at hb
  simp only [islMu, Array.getD]
  simp [hb, intsB, ofN, intOf, Function.comp_def]

theorem lineS_start {w : World} {gl : Nat} {u v : Value} (h : w.cell? ⟨gl, 0, none⟩ = some u) (k : w.cell? ⟨gl, 1, none⟩ = some v) : w.drew.cell? ⟨gl, 0, none⟩ = some u ∧ w.drew.cell? ⟨gl, 1, none⟩ = some v := ⟨h, k⟩
theorem lineS_put {w : World} {gl g a : Nat} {u v x : Value} (hg : g ≠ gl) (h : w.cell? ⟨gl, 0, none⟩ = some u ∧ w.cell? ⟨gl, 1, none⟩ = some v) : (w.setCell ⟨g, a, none⟩ x).cell? ⟨gl, 0, none⟩ = some u ∧ (w.setCell ⟨g, a, none⟩ x).cell? ⟨gl, 1, none⟩ = some v := by
  have e := fun i => World.cell?_of_block (w := w) (a := ⟨gl, i, none⟩) (Below.heap_setCell w ⟨g, a, none⟩ x gl (fun e => hg e.symm))
  rw [e, e]; exact h
theorem islJ_mu {es : List E2} {nb n m c d s g : Nat} {A B : Option Addr} {w wx : World} {a : Act} {zs : List Nat} (hf : IslFrame nb n m c d w.heap.size g A B a) (hs : IslSt es nb n c A w wx g zs) (h : zs.sum < s) : IslJ es nb n m c d A B w a wx ∧ islMu a wx < s :=
  ⟨⟨g, zs, hf, hs⟩, by rw [islMu_eq hf hs]; exact h⟩
theorem IslSt.lower {es : List E2} {nb n c : Nat} {A : Option Addr} {w wx : World} {g : Nat} {zs : List Nat} {a b x y M : Nat} (h : IslSt es nb n c A w wx g zs) (he : (a, b) ∈ es) (hx : zs[a]? = some x) (hy : zs[b]? = some y) (hM : M = min x y) :
    IslSt es nb n c A w ((wx.setCell ⟨g, a, none⟩ (.int .i64 (M : Int))).setCell ⟨g, b, none⟩ (.int .i64 (M : Int))) g ((zs.set a M).set b M) := by
  subst hM
  have hl := h.lt
  refine ⟨h.lt, (h.bel.setCell (Nat.le_of_lt h.lt) _).setCell (Nat.le_of_lt h.lt) _, (h.box.far (by simp; omega) _).far (by simp; omega) _, ?_, numInv_step h.inv he hx hy⟩
  rw [← intsB_set, ← intsB_set]
  exact (h.blk.put a _).put b _

end Go.Proofs.YtapbmpodimdkpaaDoor

/- Reached and SameIsland, of the program. -/
namespace Go.Proofs.YtapbmpodimdkpaaDoor
open Go.ChangeShapes Go.WideShapes Go.ChangeAt Go.RowKit

theorem OwnI.sl {e : TypeId} {w : World} {base : Nat} {v : Value} {zs : List Int} (h : OwnI e w base v zs) : ∃ A c, v = .slice A zs.length c ∧ RowZ w A zs.length zs := by
  rcases h.2 with ⟨rfl, h0⟩ | ⟨g, cap, cur, rfl, hb, hg, hn, hc, hsz, ht⟩
  · exact ⟨none, 0, by rw [h0], by
      have hz : zs = [] := List.eq_nil_of_length_eq_zero h0
      subst hz; exact RowZ.none_⟩
  · exact ⟨_, cap, rfl, OwnI.rowZ h⟩
theorem OwnI.more {e : TypeId} {w : World} {base base' : Nat} {v : Value} {zs : List Int} (h : OwnI e w base v zs) (hb : base' ≤ base) : OwnI e w base' v zs := by
  refine ⟨h.1, ?_⟩
  rcases h.2 with h2 | ⟨g, cap, cur, h1, h2, h3⟩
  · exact .inl h2
  · exact .inr ⟨g, cap, cur, h1, Nat.le_trans hb h2, h3⟩
theorem RowZ.keepB {w w' : World} {A : Option Addr} {n : Nat} {zs : List Int} (h : RowZ w A n zs) (hb : Below w.heap.size w w') : RowZ w' A n zs := h.below hb
theorem least_beq (es : List E2) (a b : Nat) : (((leastF es a : Nat) : Int) == ((leastF es b : Nat) : Int)) = connB es a b := by
  rw [Bool.eq_iff_iff, beq_iff_eq, connB_iff, ← leastF_eq]; omega
theorem rchTo_next (es : List E2) (bus k : Nat) : ofN (rchTo es bus (k + 1)) = ofN (rchTo es bus k) ++ (if connB es bus k = true then [(k : Int)] else []) := by
  cases h : connB es bus k
  · rw [rchTo_no h]; simp
  · rw [rchTo_yes h]; simp [ofN]

end Go.Proofs.YtapbmpodimdkpaaDoor

/- SameIsland, of the program. -/
namespace Go.Proofs.YtapbmpodimdkpaaDoor
open Go.ChangeShapes Go.WideShapes Go.ChangeAt Go.RowKit

theorem within_q (x a b : Int) {t : Bool} (ht : inB x a b = t) (w : World) :
    Calls Tryd.prog 40 #[.int .i64 x, .int .i64 a, .int .i64 b] w fun e w' => e = .returned (.bool t) ∧ w' = w := by
  subst ht
  refine (within_any x a b w).mono ?_
  rintro e w' ⟨rfl, rfl⟩
  exact ⟨rfl, rfl⟩

end Go.Proofs.YtapbmpodimdkpaaDoor
