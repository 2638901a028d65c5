/- The drawing of a radial network: what is in memory while lines, truths and buses grow together. -/
import Derived.Test.YtbhlkcnkijihcaaDoorBDC
namespace Go.Proofs.YtbhlkcnkijihcaaDoor
open Go.ChangeShapes Go.WideShapes Go.ChangeAt Go.RowKit

def OwnB (w : World) (base : Nat) (v : Value) (ts : List Bool) : Prop := w.ownsRow base 4 1 v ts.length (ts.map Value.bool)
theorem OwnB.far {w w' : World} {base : Nat} {v : Value} {ts : List Bool} {row : Option Nat} (h : OwnB w base v ts) (hg : w.grownBy w' row) (hne : ∀ q, v.ownBlock = some q → row ≠ some q) : OwnB w' base v ts := by
  refine World.ownsRow.kept h hg ?_
  rcases hq : v.ownBlock with _ | q
  · exact .inl rfl
  · exact .inr (fun e => hne q hq e.symm)
theorem OwnB.lt {w : World} {base : Nat} {v : Value} {ts : List Bool} (h : OwnB w base v ts) : ∀ q, v.ownBlock = some q → base ≤ q ∧ q < w.heap.size := fun q hq => World.ownsRow.lt h q hq
theorem OwnL.lt {w : World} {base : Nat} {v : Value} {ls : List L3} (h : OwnL w base v ls) : ∀ q, v.ownBlock = some q → base ≤ q ∧ q < w.heap.size := fun q hq => World.ownsRow.lt h q hq
theorem OwnB.ownT {w : World} {base : Nat} {v : Value} {ts : List Bool} (h : OwnB w base v ts) : OwnT w base v ts := OwnT.of_own h
theorem OwnB.lit (w : World) : OwnB (w.alloc (.cells #[] 4)) w.heap.size (.slice (some ⟨w.heap.size, 0, none⟩) 0 0) [] := by
  have := World.ownsRow_lit (base := w.heap.size) (size := 1) (e := 4) w #[] 0 (by omega) (by decide) rfl
  simpa [OwnB] using this
/-- A truth is stored. -/
theorem OwnB.put {w : World} {base : Nat} {v : Value} {ts : List Bool} (h : OwnB w base v ts) {k : Nat} (hk : k < ts.length) (b : Bool) :
    ∃ g cap, v = .slice (some ⟨g, 0, none⟩) ts.length cap ∧ base ≤ g ∧ g < w.heap.size ∧ w.frozen? ⟨g, k, none⟩ = false ∧ (∃ z, w.cell? ⟨g, k, none⟩ = some z) ∧ OwnB (w.setCell ⟨g, k, none⟩ (.bool b)) base v (ts.set k b) := by
  rcases h.2 with ⟨_, h0⟩ | ⟨g, cap, cur, rfl, hb, hg, hn, hc, hsz, ht⟩
  · omega
  · have hB : IsBlk w g 4 cur := hg
    have hcs : k < cur.size := by omega
    refine ⟨g, cap, rfl, hb, hB.lt, hB.thaw _, ⟨cur[k], (hB.cell _).trans (Array.getElem?_eq_getElem hcs)⟩, ?_⟩
    refine ⟨by simp, .inr ⟨g, cap, _, by simp, hb, hB.put k _, by simpa using hn, hc, by simpa using hsz, ?_⟩⟩
    simp only [List.length_set]
    rw [Array.toList_setIfInBounds, List.take_set, ht, List.map_set]

structure RadSt (w wr : World) (R X : Nat) (lim bs : Int) (vl : Value) (ls : List L3) (vt : Value) (ts : List Bool) (vu : Value) (us : List TU) : Prop where
  hR : R < w.heap.size
  ret : IsBlk wr w.heap.size 25 #[.int .i64 0, .slice none 0 0]
  hX : w.heap.size < X
  var : IsBlk wr X 25 #[.int .i64 bs, vl]
  ol : OwnL wr (w.heap.size + 1) vl ls
  ot : OwnB wr (w.heap.size + 1) vt ts
  ou : OwnU wr (w.heap.size + 1) vu us
  rd : Rd wr R lim
  gr : w.grownBy wr (some R)
  nl : vl.ownBlock ≠ some X
  nt : vt.ownBlock ≠ some X
  nu : vu.ownBlock ≠ some X
  lt : ∀ q, vl.ownBlock = some q → vt.ownBlock ≠ some q
  lu : ∀ q, vl.ownBlock = some q → vu.ownBlock ≠ some q
  tu : ∀ q, vt.ownBlock = some q → vu.ownBlock ≠ some q
section
variable {w wr w' : World} {R X : Nat} {lim lim' bs : Int} {vl vt vu v' : Value} {ls ls' : List L3} {ts ts' : List Bool} {us us' : List TU}
theorem RadSt.grow (h : RadSt w wr R X lim bs vl ls vt ts vu us) {row : Option Nat} (hg : wr.grownBy w' row) (hr : ∀ q, row = some q → q = R ∨ w.heap.size ≤ q) : w.grownBy w' (some R) :=
  ⟨hg.os.trans h.gr.os, hg.tape.trans h.gr.tape, hg.output.trans h.gr.output, Nat.le_trans h.gr.size hg.size, fun p hp hne => (hg.block p (Nat.lt_of_lt_of_le hp h.gr.size) (fun e => by
    rcases hr p e.symm with e2 | e2
    · subst e2; exact hne rfl
    · omega)).trans (h.gr.block p hp hne)⟩
theorem RadSt.mono (h : RadSt w wr R X lim bs vl ls vt ts vu us) (hl : lim ≤ lim') : RadSt w wr R X lim' bs vl ls vt ts vu us := ⟨h.hR, h.ret, h.hX, h.var, h.ol, h.ot, h.ou, h.rd.mono hl, h.gr, h.nl, h.nt, h.nu, h.lt, h.lu, h.tu⟩
theorem RadSt.pick (h : RadSt w wr R X lim bs vl ls vt ts vu us) (hr : Rd w' R lim') (hg : wr.grownBy w' (some R)) : RadSt w w' R X lim' bs vl ls vt ts vu us := by
  have h1 := h.hR
  have h2 := h.hX
  exact ⟨h.hR, h.ret.farG hg (fun e => by injection e with e; omega), h.hX, h.var.farG hg (fun e => by injection e with e; omega), h.ol.far hg (fun q hq e => by injection e with e; have := (h.ol.lt q hq).1; omega), h.ot.far hg (fun q hq e => by injection e with e; have := (h.ot.lt q hq).1; omega), h.ou.far hg (fun q hq e => by injection e with e; have := (h.ou.lt q hq).1; omega), hr, h.grow hg (fun q hq => by injection hq with hq; exact .inl hq.symm), h.nl, h.nt, h.nu, h.lt, h.lu, h.tu⟩
theorem RadSt.keep (h : RadSt w wr R X lim bs vl ls vt ts vu us) (hb : Below wr.heap.size wr w') : RadSt w w' R X lim bs vl ls vt ts vu us := by
  have hg : wr.grownBy w' none := ⟨hb.os, hb.tape, hb.output, hb.size, fun i hi _ => hb.block i hi⟩
  exact ⟨h.hR, h.ret.keep hb, h.hX, h.var.keep hb, h.ol.keep hb, h.ot.far hg (fun q hq e => by cases e), h.ou.keep hb, h.rd.keep hb, h.grow hg (fun q hq => by cases hq), h.nl, h.nt, h.nu, h.lt, h.lu, h.tu⟩
theorem RadSt.alloc (h : RadSt w wr R X lim bs vl ls vt ts vu us) (o : Obj) : RadSt w (wr.alloc o) R X lim bs vl ls vt ts vu us := h.keep (below_bx _ _)
theorem RadSt.drew (h : RadSt w wr R X lim bs vl ls vt ts vu us) : RadSt w wr.drew R X lim bs vl ls vt ts vu us := ⟨h.hR, h.ret, h.hX, h.var, h.ol, h.ot, h.ou, h.rd, ⟨h.gr.os, h.gr.tape, h.gr.output, h.gr.size, h.gr.block⟩, h.nl, h.nt, h.nu, h.lt, h.lu, h.tu⟩
/-- A line is appended, and stored into the variable. -/
theorem RadSt.pushL (h : RadSt w wr R X lim bs vl ls vt ts vu us) (o : Obj) {g n cap : Nat} (hown : OwnL w' (w.heap.size + 1) (.slice (some ⟨g, 0, none⟩) n cap) ls') (hg : (wr.alloc o).grownBy w' vl.ownBlock) (hat : vl.ownBlock = some g ∨ g = (wr.alloc o).heap.size) :
    RadSt w (w'.setCell ⟨X, 1, none⟩ (.slice (some ⟨g, 0, none⟩) n cap)) R X lim bs (.slice (some ⟨g, 0, none⟩) n cap) ls' vt ts vu us ∧ IsBlk w' X 25 #[.int .i64 bs, vl] := by
  have ha := h.alloc o
  have h1 := h.hR
  have h2 := h.hX
  have hX := ha.var.lt
  have hl := fun q hq => (ha.ol.lt q hq).1
  have hne : g ≠ X := by
    rcases hat with e | e
    · intro e2; subst e2; exact h.nl e
    · omega
  have var8 := ha.var.farG hg h.nl
  have hgp : w'.grownBy (w'.setCell ⟨X, 1, none⟩ (.slice (some ⟨g, 0, none⟩) n cap)) (some X) := grown_put _ _ _ _
  have gnew : ∀ q, vt.ownBlock = some q ∨ vu.ownBlock = some q → g ≠ q := by
    rintro q (e | e) rfl
    · rcases hat with e2 | e2
      · exact h.lt _ e2 e
      · have := (ha.ot.lt _ e).2; omega
    · rcases hat with e2 | e2
      · exact h.lu _ e2 e
      · have := (ha.ou.lt _ e).2; omega
  have gr8 := ha.grow hg (fun q hq => .inr (by have := hl q hq; omega))
  refine ⟨⟨h.hR, (ha.ret.farG hg (fun e => by have := hl _ e; omega)).far (by simp; omega) _, h.hX, var8.put 1 _, hown.far hgp (fun q hq e => by injection e with e; simp [Value.ownBlock] at hq; omega), (ha.ot.far hg (fun q hq e => h.lt q e hq)).far hgp (fun q hq e => h.nt (by rw [hq]; exact e.symm)), (ha.ou.far hg (fun q hq e => h.lu q e hq)).far hgp (fun q hq e => h.nu (by rw [hq]; exact e.symm)), (ha.rd.grown hg (fun q hq => by have := hl q hq; omega)).far (by omega) hgp, grown_new gr8 hgp (by omega), ?_, h.nt, h.nu, ?_, ?_, h.tu⟩, var8⟩
  · simp [Value.ownBlock]; exact hne
  · intro q hq e; simp [Value.ownBlock] at hq; exact gnew q (.inl e) hq
  · intro q hq e; simp [Value.ownBlock] at hq; exact gnew q (.inr e) hq
/-- A truth is appended. -/
theorem RadSt.pushT (h : RadSt w wr R X lim bs vl ls vt ts vu us) (o : Obj) {g n cap : Nat} (hown : OwnB w' (w.heap.size + 1) (.slice (some ⟨g, 0, none⟩) n cap) ts') (hg : (wr.alloc o).grownBy w' vt.ownBlock) (hat : vt.ownBlock = some g ∨ g = (wr.alloc o).heap.size) :
    RadSt w w' R X lim bs vl ls (.slice (some ⟨g, 0, none⟩) n cap) ts' vu us := by
  have ha := h.alloc o
  have h1 := h.hR
  have h2 := h.hX
  have hX := ha.var.lt
  have hl := fun q hq => (ha.ot.lt q hq).1
  have hne : g ≠ X := by
    rcases hat with e | e
    · intro e2; subst e2; exact h.nt e
    · omega
  refine ⟨h.hR, ha.ret.farG hg (fun e => by have := hl _ e; omega), h.hX, ha.var.farG hg h.nt, ha.ol.far hg (fun q hq e => h.lt q hq e), hown, ha.ou.far hg (fun q hq e => h.tu q e hq), ha.rd.grown hg (fun q hq => by have := hl q hq; omega), ha.grow hg (fun q hq => .inr (by have := hl q hq; omega)), h.nl, ?_, h.nu, ?_, h.lu, ?_⟩
  · simp [Value.ownBlock]; exact hne
  · intro q hq e
    simp [Value.ownBlock] at e
    subst e
    rcases hat with e2 | e2
    · exact h.lt _ hq e2
    · have := (ha.ol.lt _ hq).2; omega
  · intro q hq e
    simp [Value.ownBlock] at hq
    subst hq
    rcases hat with e2 | e2
    · exact h.tu _ e2 e
    · have := (ha.ou.lt _ e).2; omega
/-- A bus is appended. -/
theorem RadSt.pushU (h : RadSt w wr R X lim bs vl ls vt ts vu us) (o : Obj) {g n cap : Nat} (hown : OwnU w' (w.heap.size + 1) (.slice (some ⟨g, 0, none⟩) n cap) us') (hg : (wr.alloc o).grownBy w' vu.ownBlock) (hat : vu.ownBlock = some g ∨ g = (wr.alloc o).heap.size) :
    RadSt w w' R X lim bs vl ls vt ts (.slice (some ⟨g, 0, none⟩) n cap) us' := by
  have ha := h.alloc o
  have h1 := h.hR
  have h2 := h.hX
  have hX := ha.var.lt
  have hl := fun q hq => (ha.ou.lt q hq).1
  have hne : g ≠ X := by
    rcases hat with e | e
    · intro e2; subst e2; exact h.nu e
    · omega
  refine ⟨h.hR, ha.ret.farG hg (fun e => by have := hl _ e; omega), h.hX, ha.var.farG hg h.nu, ha.ol.far hg (fun q hq e => h.lu q hq e), ha.ot.far hg (fun q hq e => h.tu q hq e), hown, ha.rd.grown hg (fun q hq => by have := hl q hq; omega), ha.grow hg (fun q hq => .inr (by have := hl q hq; omega)), h.nl, h.nt, ?_, h.lt, ?_, ?_⟩
  · simp [Value.ownBlock]; exact hne
  · intro q hq e
    simp [Value.ownBlock] at e
    subst e
    rcases hat with e2 | e2
    · exact h.lu _ hq e2
    · have := (ha.ol.lt _ hq).2; omega
  · intro q hq e
    simp [Value.ownBlock] at e
    subst e
    rcases hat with e2 | e2
    · exact h.tu _ hq e2
    · have := (ha.ot.lt _ hq).2; omega
/-- A bus's feed is stored. -/
theorem RadSt.putU (h : RadSt w wr R X lim bs vl ls vt ts vu us) {k : Nat} {u : TU} (hk : us[k]? = some u) (x : Int) :
    ∃ g cap, vu = .slice (some ⟨g, 0, none⟩) us.length cap ∧ wr.frozen? ⟨g, k * 2, none⟩ = false ∧ (∃ z, wr.cell? ⟨g, k * 2, none⟩ = some z) ∧ g ≠ X ∧ RadSt w (wr.setCell ⟨g, k * 2, none⟩ (.int .i64 x)) R X lim bs vl ls vt ts vu (us.set k (x, u.2)) := by
  obtain ⟨g, cap, e, hb, hg, hf, hz, ho⟩ := h.ou.put (k := k) (j := 0) (u := u) (u' := (x, u.2)) (x := .int .i64 x) hk (by decide) rfl
  have h1 := h.hR
  have hq : vu.ownBlock = some g := by rw [e]; rfl
  have hgX : g ≠ X := fun e2 => h.nu (by rw [hq, e2])
  have hgr : wr.grownBy (wr.setCell ⟨g, k * 2, none⟩ (.int .i64 x)) (some g) := grown_put _ _ _ _
  refine ⟨g, cap, e, hf, hz, hgX, h.hR, h.ret.farG hgr (fun e => by injection e with e; omega), h.hX, h.var.farG hgr (fun e => by injection e with e; exact hgX e), h.ol.far hgr (fun q hq2 e2 => h.lu q hq2 (by rw [hq]; exact e2)), h.ot.far hgr (fun q hq2 e2 => h.tu q hq2 (by rw [hq]; exact e2)), ho, h.rd.far (by omega) hgr, grown_new h.gr hgr (by omega), h.nl, h.nt, h.nu, h.lt, h.lu, h.tu⟩
/-- A truth is stored. -/
theorem RadSt.putT (h : RadSt w wr R X lim bs vl ls vt ts vu us) {k : Nat} (hk : k < ts.length) (b : Bool) :
    ∃ g cap, vt = .slice (some ⟨g, 0, none⟩) ts.length cap ∧ wr.frozen? ⟨g, k, none⟩ = false ∧ (∃ z, wr.cell? ⟨g, k, none⟩ = some z) ∧ g ≠ X ∧ RadSt w (wr.setCell ⟨g, k, none⟩ (.bool b)) R X lim bs vl ls vt (ts.set k b) vu us := by
  obtain ⟨g, cap, e, hb, hg, hf, hz, ho⟩ := h.ot.put hk b
  have h1 := h.hR
  have hq : vt.ownBlock = some g := by rw [e]; rfl
  have hgX : g ≠ X := fun e2 => h.nt (by rw [hq, e2])
  have hgr : wr.grownBy (wr.setCell ⟨g, k, none⟩ (.bool b)) (some g) := grown_put _ _ _ _
  refine ⟨g, cap, e, hf, hz, hgX, h.hR, h.ret.farG hgr (fun e => by injection e with e; omega), h.hX, h.var.farG hgr (fun e => by injection e with e; exact hgX e), h.ol.far hgr (fun q hq2 e2 => h.lt q hq2 (by rw [hq]; exact e2)), ho, h.ou.far hgr (fun q hq2 e2 => h.tu q (by rw [hq]; exact e2) hq2), h.rd.far (by omega) hgr, grown_new h.gr hgr (by omega), h.nl, h.nt, h.nu, h.lt, h.lu, h.tu⟩
end
/-- A row of buses that lies from base on. -/
def RowUB (w : World) (base : Nat) (A : Option Addr) (n : Nat) (us : List TU) : Prop := RowU w A n us ∧ ∀ b off, A = some ⟨b, off, none⟩ → base ≤ b
/-- What such a drawing hands back. -/
def DrawnU (w w' : World) (e : Ending) (bs : Int) (A : Option Addr) (c : Nat) (ls : List L3) (B : Option Addr) (d : Nat) (ts : List Bool) (U : Option Addr) (r : Nat) (us : List TU) : Prop :=
  e = .returned (.tuple #[.agg #[.int .i64 bs, .slice A ls.length c], .slice B ts.length d, .slice U us.length r]) ∧ OwnL w' (w.heap.size + 1) (.slice A ls.length c) ls ∧ ls.length ≤ 12 ∧ -1 ≤ bs ∧ bs ≤ 9 ∧ OwnT w' (w.heap.size + 1) (.slice B ts.length d) ts ∧ ts.length ≤ 13 ∧ RowUB w' (w.heap.size + 1) U us.length us ∧ us.length ≤ 10
def RadDrawn (w : World) (R : Nat) (l : Int) (e : Ending) (w' : World) : Prop := ∃ bs A c ls B d ts U r us, DrawnU w w' e bs A c ls B d ts U r us ∧ Rd w' R l ∧ w.grownBy w' (some R)
theorem ownU_cap {w : World} {base g n c : Nat} {us : List TU} (h : OwnU w base (.slice (some ⟨g, 0, none⟩) n c) us) : n ≤ c := by
  rcases h.2 with ⟨h1, _⟩ | ⟨g', cap', cur, h1, _, _, hn, _⟩
  · cases h1
  · injection h1 with e1 e2 e3
    omega
theorem RadSt.done {w wr : World} {R X : Nat} {lim bs : Int} {vl vt vu : Value} {ls : List L3} {ts : List Bool} {us : List TU} (h : RadSt w wr R X lim bs vl ls vt ts vu us) (x y : Value) :
    OwnL ((wr.setCell ⟨w.heap.size, 0, none⟩ x).setCell ⟨w.heap.size, 1, none⟩ y) (w.heap.size + 1) vl ls ∧ OwnB ((wr.setCell ⟨w.heap.size, 0, none⟩ x).setCell ⟨w.heap.size, 1, none⟩ y) (w.heap.size + 1) vt ts ∧ OwnU ((wr.setCell ⟨w.heap.size, 0, none⟩ x).setCell ⟨w.heap.size, 1, none⟩ y) (w.heap.size + 1) vu us ∧ Rd ((wr.setCell ⟨w.heap.size, 0, none⟩ x).setCell ⟨w.heap.size, 1, none⟩ y) R lim ∧ w.grownBy ((wr.setCell ⟨w.heap.size, 0, none⟩ x).setCell ⟨w.heap.size, 1, none⟩ y) (some R) := by
  have h1 := h.hR
  have g2 : wr.grownBy ((wr.setCell ⟨w.heap.size, 0, none⟩ x).setCell ⟨w.heap.size, 1, none⟩ y) (some w.heap.size) := grown_then (grown_put _ _ _ _) (grown_put _ _ _ _)
  exact ⟨h.ol.far g2 (fun q hq e => by injection e with e; have := (h.ol.lt q hq).1; omega), h.ot.far g2 (fun q hq e => by injection e with e; have := (h.ot.lt q hq).1; omega), h.ou.far g2 (fun q hq e => by injection e with e; have := (h.ou.lt q hq).1; omega), h.rd.far (by omega) g2, grown_new h.gr g2 (Nat.le_refl _)⟩
theorem OwnU.ub {w : World} {base : Nat} {A : Option Addr} {n c : Nat} {us : List TU} (h : OwnU w base (.slice A n c) us) : us.length = n ∧ RowUB w base A n us := by
  obtain ⟨A', c', e, hr⟩ := h.row
  injection e with e1 e2 e3
  subst e1
  exact ⟨e2.symm, by rw [e2]; exact hr, fun b off e => by subst e; exact (h.lt b rfl).1⟩
/-- Without the first bus. -/
theorem RowUB.rest {w : World} {base g off n : Nat} {us : List TU} (h : RowUB w base (some ⟨g, off, none⟩) n us) (hn : 0 < n) : RowUB w base (some ⟨g, off + 2, none⟩) (n - 1) us.tail := by
  obtain ⟨⟨h1, h2⟩, h3⟩ := h
  refine ⟨⟨by rw [List.length_tail, h1], fun _ => ?_⟩, fun b o e => by injection e with e; injection e with e1; have := h3 g off rfl; omega⟩
  obtain ⟨b, o, e, hb, hc⟩ := h2 hn
  injection e with e; injection e with e1 e2
  subst e1 e2
  refine ⟨g, off + 2, rfl, hb, fun k u hk => ?_⟩
  rw [List.getElem?_tail] at hk
  obtain ⟨c0, c1⟩ := hc (k + 1) u hk
  exact ⟨by rw [show off + 2 + k * 2 = off + (k + 1) * 2 by omega]; exact c0, by rw [show off + 2 + k * 2 + 1 = off + (k + 1) * 2 + 1 by omega]; exact c1⟩
end Go.Proofs.YtbhlkcnkijihcaaDoor
