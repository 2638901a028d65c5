/- Texts joined: The drawing of a radial network: what is in memory while lines, truths and buses grow together; The drawing of a radial network; The drawings of FnRadial, FnFedBy, FnParentLine, FnPathLines and FnBelowLine; The drawings of FnLineFlow, FnFeedFlow, FnOverloads and FnNetGood. -/
import Derived.Test.YtpmkeagdoehbhaaDoorBDC
import Derived.Deep.RegionHeld3

/- The drawing of a radial network: what is in memory while lines, truths and buses grow together. -/
namespace Go.Proofs.YtpmkeagdoehbhaaDoor
open Go.ChangeShapes Go.WideShapes Go.ChangeAt Go.RowKit

def OwnB (w : World) (base : Nat) (v : Value) (ts : List Bool) : Prop := w.ownsRow base 4 1 v ts.length (ts.map Value.bool)
theorem OwnB.far {w w' : World} {base : Nat} {v : Value} {ts : List Bool} {row : Option Nat} (h : OwnB w base v ts) (hg : w.grownBy w' row) (hne : ∀ q, v.ownBlock = some q → row ≠ some q) : OwnB w' base v ts := by
  refine World.ownsRow.kept h hg ?_
  rcases hq : v.ownBlock with _ | q
  · exact .inl rfl
  · exact .inr (fun e => hne q hq e.symm)
theorem OwnB.lt {w : World} {base : Nat} {v : Value} {ts : List Bool} (h : OwnB w base v ts) : ∀ q, v.ownBlock = some q → base ≤ q ∧ q < w.heap.size := fun q hq => World.ownsRow.lt h q hq
theorem OwnL.lt {w : World} {base : Nat} {v : Value} {ls : List L3} (h : OwnL w base v ls) : ∀ q, v.ownBlock = some q → base ≤ q ∧ q < w.heap.size := fun q hq => World.ownsRow.lt h q hq
theorem OwnB.ownT {w : World} {base : Nat} {v : Value} {ts : List Bool} (h : OwnB w base v ts) : OwnT w base v ts := OwnT.of_own h
theorem OwnB.lit (w : World) : OwnB (w.alloc (.cells #[] 4)) w.heap.size (.slice (some ⟨w.heap.size, 0, none⟩) 0 0) [] := by
  have := World.ownsRow_lit (base := w.heap.size) (size := 1) (e := 4) w #[] 0 (by omega) (by decide) rfl
  simpa [OwnB] using this
/-- A truth is stored. -/
theorem OwnB.put {w : World} {base : Nat} {v : Value} {ts : List Bool} (h : OwnB w base v ts) {k : Nat} (hk : k < ts.length) (b : Bool) :
    ∃ g cap, v = .slice (some ⟨g, 0, none⟩) ts.length cap ∧ base ≤ g ∧ g < w.heap.size ∧ w.frozen? ⟨g, k, none⟩ = false ∧ (∃ z, w.cell? ⟨g, k, none⟩ = some z) ∧ OwnB (w.setCell ⟨g, k, none⟩ (.bool b)) base v (ts.set k b) := by
  rcases h.2 with ⟨_, h0⟩ | ⟨g, cap, cur, rfl, hb, hg, hn, hc, hsz, ht⟩
  · omega
  · have hB : IsBlk w g 4 cur := hg
    have hcs : k < cur.size := by omega
    refine ⟨g, cap, rfl, hb, hB.lt, hB.thaw _, ⟨cur[k], (hB.cell _).trans (Array.getElem?_eq_getElem hcs)⟩, ?_⟩
    refine ⟨by simp, .inr ⟨g, cap, _, by simp, hb, hB.put k _, by simpa using hn, hc, by simpa using hsz, ?_⟩⟩
    simp only [List.length_set]
    rw [Array.toList_setIfInBounds, List.take_set, ht, List.map_set]

structure RadSt (w wr : World) (R X : Nat) (lim bs : Int) (vl : Value) (ls : List L3) (vt : Value) (ts : List Bool) (vu : Value) (us : List TU) : Prop where
  hR : R < w.heap.size
  ret : IsBlk wr w.heap.size 25 #[.int .i64 0, .slice none 0 0]
  hX : w.heap.size < X
  var : IsBlk wr X 25 #[.int .i64 bs, vl]
  ol : OwnL wr (w.heap.size + 1) vl ls
  ot : OwnB wr (w.heap.size + 1) vt ts
  ou : OwnU wr (w.heap.size + 1) vu us
  rd : Rd wr R lim
  gr : w.grownBy wr (some R)
  nl : vl.ownBlock ≠ some X
  nt : vt.ownBlock ≠ some X
  nu : vu.ownBlock ≠ some X
  lt : ∀ q, vl.ownBlock = some q → vt.ownBlock ≠ some q
  lu : ∀ q, vl.ownBlock = some q → vu.ownBlock ≠ some q
  tu : ∀ q, vt.ownBlock = some q → vu.ownBlock ≠ some q
section
variable {w wr w' : World} {R X : Nat} {lim lim' bs : Int} {vl vt vu v' : Value} {ls ls' : List L3} {ts ts' : List Bool} {us us' : List TU}
theorem RadSt.grow (h : RadSt w wr R X lim bs vl ls vt ts vu us) {row : Option Nat} (hg : wr.grownBy w' row) (hr : ∀ q, row = some q → q = R ∨ w.heap.size ≤ q) : w.grownBy w' (some R) :=
  ⟨hg.os.trans h.gr.os, hg.tape.trans h.gr.tape, hg.output.trans h.gr.output, Nat.le_trans h.gr.size hg.size, fun p hp hne => (hg.block p (Nat.lt_of_lt_of_le hp h.gr.size) (fun e => by
    rcases hr p e.symm with e2 | e2
    · subst e2; exact hne rfl
    · omega)).trans (h.gr.block p hp hne)⟩
theorem RadSt.mono (h : RadSt w wr R X lim bs vl ls vt ts vu us) (hl : lim ≤ lim') : RadSt w wr R X lim' bs vl ls vt ts vu us := ⟨h.hR, h.ret, h.hX, h.var, h.ol, h.ot, h.ou, h.rd.mono hl, h.gr, h.nl, h.nt, h.nu, h.lt, h.lu, h.tu⟩
theorem RadSt.pick (h : RadSt w wr R X lim bs vl ls vt ts vu us) (hr : Rd w' R lim') (hg : wr.grownBy w' (some R)) : RadSt w w' R X lim' bs vl ls vt ts vu us := by
  have h1 := h.hR
  have h2 := h.hX
  exact ⟨h.hR, h.ret.farG hg (fun e => by injection e with e; omega), h.hX, h.var.farG hg (fun e => by injection e with e; omega), h.ol.far hg (fun q hq e => by injection e with e; have := (h.ol.lt q hq).1; omega), h.ot.far hg (fun q hq e => by injection e with e; have := (h.ot.lt q hq).1; omega), h.ou.far hg (fun q hq e => by injection e with e; have := (h.ou.lt q hq).1; omega), hr, h.grow hg (fun q hq => by injection hq with hq; exact .inl hq.symm), h.nl, h.nt, h.nu, h.lt, h.lu, h.tu⟩
theorem RadSt.keep (h : RadSt w wr R X lim bs vl ls vt ts vu us) (hb : Below wr.heap.size wr w') : RadSt w w' R X lim bs vl ls vt ts vu us := by
  have hg : wr.grownBy w' none := ⟨hb.os, hb.tape, hb.output, hb.size, fun i hi _ => hb.block i hi⟩
  exact ⟨h.hR, h.ret.keep hb, h.hX, h.var.keep hb, h.ol.keep hb, h.ot.far hg (fun q hq e => by cases e), h.ou.keep hb, h.rd.keep hb, h.grow hg (fun q hq => by cases hq), h.nl, h.nt, h.nu, h.lt, h.lu, h.tu⟩
theorem RadSt.alloc (h : RadSt w wr R X lim bs vl ls vt ts vu us) (o : Obj) : RadSt w (wr.alloc o) R X lim bs vl ls vt ts vu us := h.keep (below_bx _ _)
theorem RadSt.drew (h : RadSt w wr R X lim bs vl ls vt ts vu us) : RadSt w wr.drew R X lim bs vl ls vt ts vu us := ⟨h.hR, h.ret, h.hX, h.var, h.ol, h.ot, h.ou, h.rd, ⟨h.gr.os, h.gr.tape, h.gr.output, h.gr.size, h.gr.block⟩, h.nl, h.nt, h.nu, h.lt, h.lu, h.tu⟩
/-- A line is appended, and stored into the variable. -/
theorem RadSt.pushL (h : RadSt w wr R X lim bs vl ls vt ts vu us) (o : Obj) {g n cap : Nat} (hown : OwnL w' (w.heap.size + 1) (.slice (some ⟨g, 0, none⟩) n cap) ls') (hg : (wr.alloc o).grownBy w' vl.ownBlock) (hat : vl.ownBlock = some g ∨ g = (wr.alloc o).heap.size) :
    RadSt w (w'.setCell ⟨X, 1, none⟩ (.slice (some ⟨g, 0, none⟩) n cap)) R X lim bs (.slice (some ⟨g, 0, none⟩) n cap) ls' vt ts vu us ∧ IsBlk w' X 25 #[.int .i64 bs, vl] := by
  have ha := h.alloc o
  have h1 := h.hR
  have h2 := h.hX
  have hX := ha.var.lt
  have hl := fun q hq => (ha.ol.lt q hq).1
  have hne : g ≠ X := by
    rcases hat with e | e
    · intro e2; subst e2; exact h.nl e
    · omega
  have var8 := ha.var.farG hg h.nl
  have hgp : w'.grownBy (w'.setCell ⟨X, 1, none⟩ (.slice (some ⟨g, 0, none⟩) n cap)) (some X) := grown_put _ _ _ _
  have gnew : ∀ q, vt.ownBlock = some q ∨ vu.ownBlock = some q → g ≠ q := by
    rintro q (e | e) rfl
    · rcases hat with e2 | e2
      · exact h.lt _ e2 e
      · have := (ha.ot.lt _ e).2; omega
    · rcases hat with e2 | e2
      · exact h.lu _ e2 e
      · have := (ha.ou.lt _ e).2; omega
  have gr8 := ha.grow hg (fun q hq => .inr (by have := hl q hq; omega))
  refine ⟨⟨h.hR, (ha.ret.farG hg (fun e => by have := hl _ e; omega)).far (by simp; omega) _, h.hX, var8.put 1 _, hown.far hgp (fun q hq e => by injection e with e; simp [Value.ownBlock] at hq; omega), (ha.ot.far hg (fun q hq e => h.lt q e hq)).far hgp (fun q hq e => h.nt (by rw [hq]; exact e.symm)), (ha.ou.far hg (fun q hq e => h.lu q e hq)).far hgp (fun q hq e => h.nu (by rw [hq]; exact e.symm)), (ha.rd.grown hg (fun q hq => by have := hl q hq; omega)).far (by omega) hgp, grown_new gr8 hgp (by omega), ?_, h.nt, h.nu, ?_, ?_, h.tu⟩, var8⟩
  · simp [Value.ownBlock]; exact hne
  · intro q hq e; simp [Value.ownBlock] at hq; exact gnew q (.inl e) hq
  · intro q hq e; simp [Value.ownBlock] at hq; exact gnew q (.inr e) hq
/-- A truth is appended. -/
theorem RadSt.pushT (h : RadSt w wr R X lim bs vl ls vt ts vu us) (o : Obj) {g n cap : Nat} (hown : OwnB w' (w.heap.size + 1) (.slice (some ⟨g, 0, none⟩) n cap) ts') (hg : (wr.alloc o).grownBy w' vt.ownBlock) (hat : vt.ownBlock = some g ∨ g = (wr.alloc o).heap.size) :
    RadSt w w' R X lim bs vl ls (.slice (some ⟨g, 0, none⟩) n cap) ts' vu us := by
  have ha := h.alloc o
  have h1 := h.hR
  have h2 := h.hX
  have hX := ha.var.lt
  have hl := fun q hq => (ha.ot.lt q hq).1
  have hne : g ≠ X := by
    rcases hat with e | e
    · intro e2; subst e2; exact h.nt e
    · omega
  refine ⟨h.hR, ha.ret.farG hg (fun e => by have := hl _ e; omega), h.hX, ha.var.farG hg h.nt, ha.ol.far hg (fun q hq e => h.lt q hq e), hown, ha.ou.far hg (fun q hq e => h.tu q e hq), ha.rd.grown hg (fun q hq => by have := hl q hq; omega), ha.grow hg (fun q hq => .inr (by have := hl q hq; omega)), h.nl, ?_, h.nu, ?_, h.lu, ?_⟩
  · simp [Value.ownBlock]; exact hne
  · intro q hq e
    simp [Value.ownBlock] at e
    subst e
    rcases hat with e2 | e2
    · exact h.lt _ hq e2
    · have := (ha.ol.lt _ hq).2; omega
  · intro q hq e
    simp [Value.ownBlock] at hq
    subst hq
    rcases hat with e2 | e2
    · exact h.tu _ e2 e
    · have := (ha.ou.lt _ e).2; omega
/-- A bus is appended. -/
theorem RadSt.pushU (h : RadSt w wr R X lim bs vl ls vt ts vu us) (o : Obj) {g n cap : Nat} (hown : OwnU w' (w.heap.size + 1) (.slice (some ⟨g, 0, none⟩) n cap) us') (hg : (wr.alloc o).grownBy w' vu.ownBlock) (hat : vu.ownBlock = some g ∨ g = (wr.alloc o).heap.size) :
    RadSt w w' R X lim bs vl ls vt ts (.slice (some ⟨g, 0, none⟩) n cap) us' := by
  have ha := h.alloc o
  have h1 := h.hR
  have h2 := h.hX
  have hX := ha.var.lt
  have hl := fun q hq => (ha.ou.lt q hq).1
  have hne : g ≠ X := by
    rcases hat with e | e
    · intro e2; subst e2; exact h.nu e
    · omega
  refine ⟨h.hR, ha.ret.farG hg (fun e => by have := hl _ e; omega), h.hX, ha.var.farG hg h.nu, ha.ol.far hg (fun q hq e => h.lu q hq e), ha.ot.far hg (fun q hq e => h.tu q hq e), hown, ha.rd.grown hg (fun q hq => by have := hl q hq; omega), ha.grow hg (fun q hq => .inr (by have := hl q hq; omega)), h.nl, h.nt, ?_, h.lt, ?_, ?_⟩
  · simp [Value.ownBlock]; exact hne
  · intro q hq e
    simp [Value.ownBlock] at e
    subst e
    rcases hat with e2 | e2
    · exact h.lu _ hq e2
    · have := (ha.ol.lt _ hq).2; omega
  · intro q hq e
    simp [Value.ownBlock] at e
    subst e
    rcases hat with e2 | e2
    · exact h.tu _ hq e2
    · have := (ha.ot.lt _ hq).2; omega
/-- A bus's feed is stored. -/
theorem RadSt.putU (h : RadSt w wr R X lim bs vl ls vt ts vu us) {k : Nat} {u : TU} (hk : us[k]? = some u) (x : Int) :
    ∃ g cap, vu = .slice (some ⟨g, 0, none⟩) us.length cap ∧ wr.frozen? ⟨g, k * 2, none⟩ = false ∧ (∃ z, wr.cell? ⟨g, k * 2, none⟩ = some z) ∧ g ≠ X ∧ RadSt w (wr.setCell ⟨g, k * 2, none⟩ (.int .i64 x)) R X lim bs vl ls vt ts vu (us.set k (x, u.2)) := by
  obtain ⟨g, cap, e, hb, hg, hf, hz, ho⟩ := h.ou.put (k := k) (j := 0) (u := u) (u' := (x, u.2)) (x := .int .i64 x) hk (by decide) rfl
  have h1 := h.hR
  have hq : vu.ownBlock = some g := by rw [e]; rfl
  have hgX : g ≠ X := fun e2 => h.nu (by rw [hq, e2])
  have hgr : wr.grownBy (wr.setCell ⟨g, k * 2, none⟩ (.int .i64 x)) (some g) := grown_put _ _ _ _
  refine ⟨g, cap, e, hf, hz, hgX, h.hR, h.ret.farG hgr (fun e => by injection e with e; omega), h.hX, h.var.farG hgr (fun e => by injection e with e; exact hgX e), h.ol.far hgr (fun q hq2 e2 => h.lu q hq2 (by rw [hq]; exact e2)), h.ot.far hgr (fun q hq2 e2 => h.tu q hq2 (by rw [hq]; exact e2)), ho, h.rd.far (by omega) hgr, grown_new h.gr hgr (by omega), h.nl, h.nt, h.nu, h.lt, h.lu, h.tu⟩
/-- A truth is stored. -/
theorem RadSt.putT (h : RadSt w wr R X lim bs vl ls vt ts vu us) {k : Nat} (hk : k < ts.length) (b : Bool) :
    ∃ g cap, vt = .slice (some ⟨g, 0, none⟩) ts.length cap ∧ wr.frozen? ⟨g, k, none⟩ = false ∧ (∃ z, wr.cell? ⟨g, k, none⟩ = some z) ∧ g ≠ X ∧ RadSt w (wr.setCell ⟨g, k, none⟩ (.bool b)) R X lim bs vl ls vt (ts.set k b) vu us := by
  obtain ⟨g, cap, e, hb, hg, hf, hz, ho⟩ := h.ot.put hk b
  have h1 := h.hR
  have hq : vt.ownBlock = some g := by rw [e]; rfl
  have hgX : g ≠ X := fun e2 => h.nt (by rw [hq, e2])
  have hgr : wr.grownBy (wr.setCell ⟨g, k, none⟩ (.bool b)) (some g) := grown_put _ _ _ _
  refine ⟨g, cap, e, hf, hz, hgX, h.hR, h.ret.farG hgr (fun e => by injection e with e; omega), h.hX, h.var.farG hgr (fun e => by injection e with e; exact hgX e), h.ol.far hgr (fun q hq2 e2 => h.lt q hq2 (by rw [hq]; exact e2)), ho, h.ou.far hgr (fun q hq2 e2 => h.tu q (by rw [hq]; exact e2) hq2), h.rd.far (by omega) hgr, grown_new h.gr hgr (by omega), h.nl, h.nt, h.nu, h.lt, h.lu, h.tu⟩
end
/-- A row of buses that lies from base on. -/
def RowUB (w : World) (base : Nat) (A : Option Addr) (n : Nat) (us : List TU) : Prop := RowU w A n us ∧ ∀ b off, A = some ⟨b, off, none⟩ → base ≤ b
/-- What such a drawing hands back. -/
def DrawnU (w w' : World) (e : Ending) (bs : Int) (A : Option Addr) (c : Nat) (ls : List L3) (B : Option Addr) (d : Nat) (ts : List Bool) (U : Option Addr) (r : Nat) (us : List TU) : Prop :=
  e = .returned (.tuple #[.agg #[.int .i64 bs, .slice A ls.length c], .slice B ts.length d, .slice U us.length r]) ∧ OwnL w' (w.heap.size + 1) (.slice A ls.length c) ls ∧ ls.length ≤ 12 ∧ -1 ≤ bs ∧ bs ≤ 9 ∧ OwnT w' (w.heap.size + 1) (.slice B ts.length d) ts ∧ ts.length ≤ 13 ∧ RowUB w' (w.heap.size + 1) U us.length us ∧ us.length ≤ 10
def RadDrawn (w : World) (R : Nat) (l : Int) (e : Ending) (w' : World) : Prop := ∃ bs A c ls B d ts U r us, DrawnU w w' e bs A c ls B d ts U r us ∧ Rd w' R l ∧ w.grownBy w' (some R)
theorem ownU_cap {w : World} {base g n c : Nat} {us : List TU} (h : OwnU w base (.slice (some ⟨g, 0, none⟩) n c) us) : n ≤ c := by
  rcases h.2 with ⟨h1, _⟩ | ⟨g', cap', cur, h1, _, _, hn, _⟩
  · cases h1
  · injection h1 with e1 e2 e3
    omega
theorem RadSt.done {w wr : World} {R X : Nat} {lim bs : Int} {vl vt vu : Value} {ls : List L3} {ts : List Bool} {us : List TU} (h : RadSt w wr R X lim bs vl ls vt ts vu us) (x y : Value) :
    OwnL ((wr.setCell ⟨w.heap.size, 0, none⟩ x).setCell ⟨w.heap.size, 1, none⟩ y) (w.heap.size + 1) vl ls ∧ OwnB ((wr.setCell ⟨w.heap.size, 0, none⟩ x).setCell ⟨w.heap.size, 1, none⟩ y) (w.heap.size + 1) vt ts ∧ OwnU ((wr.setCell ⟨w.heap.size, 0, none⟩ x).setCell ⟨w.heap.size, 1, none⟩ y) (w.heap.size + 1) vu us ∧ Rd ((wr.setCell ⟨w.heap.size, 0, none⟩ x).setCell ⟨w.heap.size, 1, none⟩ y) R lim ∧ w.grownBy ((wr.setCell ⟨w.heap.size, 0, none⟩ x).setCell ⟨w.heap.size, 1, none⟩ y) (some R) := by
  have h1 := h.hR
  have g2 : wr.grownBy ((wr.setCell ⟨w.heap.size, 0, none⟩ x).setCell ⟨w.heap.size, 1, none⟩ y) (some w.heap.size) := grown_then (grown_put _ _ _ _) (grown_put _ _ _ _)
  exact ⟨h.ol.far g2 (fun q hq e => by injection e with e; have := (h.ol.lt q hq).1; omega), h.ot.far g2 (fun q hq e => by injection e with e; have := (h.ot.lt q hq).1; omega), h.ou.far g2 (fun q hq e => by injection e with e; have := (h.ou.lt q hq).1; omega), h.rd.far (by omega) g2, grown_new h.gr g2 (Nat.le_refl _)⟩
theorem OwnU.ub {w : World} {base : Nat} {A : Option Addr} {n c : Nat} {us : List TU} (h : OwnU w base (.slice A n c) us) : us.length = n ∧ RowUB w base A n us := by
  obtain ⟨A', c', e, hr⟩ := h.row
  injection e with e1 e2 e3
  subst e1
  exact ⟨e2.symm, by rw [e2]; exact hr, fun b off e => by subst e; exact (h.lt b rfl).1⟩
/-- Without the first bus. -/
theorem RowUB.rest {w : World} {base g off n : Nat} {us : List TU} (h : RowUB w base (some ⟨g, off, none⟩) n us) (hn : 0 < n) : RowUB w base (some ⟨g, off + 2, none⟩) (n - 1) us.tail := by
  obtain ⟨⟨h1, h2⟩, h3⟩ := h
  refine ⟨⟨by rw [List.length_tail, h1], fun _ => ?_⟩, fun b o e => by injection e with e; injection e with e1; have := h3 g off rfl; omega⟩
  obtain ⟨b, o, e, hb, hc⟩ := h2 hn
  injection e with e; injection e with e1 e2
  subst e1 e2
  refine ⟨g, off + 2, rfl, hb, fun k u hk => ?_⟩
  rw [List.getElem?_tail] at hk
  obtain ⟨c0, c1⟩ := hc (k + 1) u hk
  exact ⟨by rw [show off + 2 + k * 2 = off + (k + 1) * 2 by omega]; exact c0, by rw [show off + 2 + k * 2 + 1 = off + (k + 1) * 2 + 1 by omega]; exact c1⟩
end Go.Proofs.YtpmkeagdoehbhaaDoor

/- The drawing of a radial network. -/
namespace Go.Proofs.YtpmkeagdoehbhaaDoor
open Go.ChangeShapes Go.WideShapes Go.ChangeAt Go.RowKit

theorem holdAl {w : World} {X : Nat} {u v : Value} (p0 : w.cell? ⟨X, 0, none⟩ = some u) (p1 : w.cell? ⟨X, 1, none⟩ = some v) (hX : X < w.heap.size) (o : Obj) : (w.alloc o).cell? ⟨X, 0, none⟩ = some u ∧ (w.alloc o).cell? ⟨X, 1, none⟩ = some v :=
  ⟨(World.cell?_alloc_lt w o ⟨X, 0, none⟩ hX).trans p0, (World.cell?_alloc_lt w o ⟨X, 1, none⟩ hX).trans p1⟩
theorem ownL_snoc {w : World} {base : Nat} {v : Value} {ls : List L3} {l : L3} (h : w.ownsRow base 58 3 v (ls.length + 1) (ls.flatMap fL ++ fL l)) : OwnL w base v (ls ++ [l]) := by
  show World.ownsRow _ _ _ _ _ (ls ++ [l]).length _
  rw [List.length_append, List.flatMap_append, List.flatMap_singleton]; exact h
theorem ownB_snoc {w : World} {base : Nat} {v : Value} {ts : List Bool} {t : Bool} (h : w.ownsRow base 4 1 v (ts.length + 1) (ts.map Value.bool ++ [.bool t])) : OwnB w base v (ts ++ [t]) := by
  show World.ownsRow _ _ _ _ _ (ts ++ [t]).length _
  rw [List.length_append, List.map_append]; exact h

set_option maxRecDepth 100000 in
set_option maxHeartbeats 16000000 in
theorem radialDraw_any (R : Nat) (nn lim : Int) (hlim : lim ≤ 700000) (hnn : nn ≤ 1000) (w : World) (hR : R < w.heap.size) (hr : Rd w R lim) :
    Calls Tryd.prog 36 #[.pointer (some ⟨R, 0, none⟩), .int .i64 nn] w (RadDrawn w R (lim + 250)) := by
  obtain ⟨il, hil, hlz0, hlz1, hlz2⟩ := info_parts lineInfo
  obtain ⟨ib, hib, hbz0, hbz1, hbz2⟩ := info_parts boolInfoG
  obtain ⟨iu, hiu, huz0, huz1, huz2⟩ := info_parts busInfo3
  have HIL := Lib.hid hil
  have HIB := Lib.hid hib
  have HIU := Lib.hid hiu
  clear hil hib hiu
  go_enter Tryd.func36, Tryd.ntmps36
  go_wp2_with fail
  refine (pick_any R 6 lim (by omega) (by omega) _ (hr.alloc _)).mono ?_
  rintro e w1 ⟨v1, rfl, hv0, hv1, _, hr1, hg1⟩
  have hv6 : v1 < 6 := hv1 (by decide)
  have hs1 : w.heap.size + 1 ≤ w1.heap.size := by have := hg1.size; simpa using this
  have hret := IsBlk.farG (IsBlk.new w 25 #[.int .i64 0, .slice none 0 0]) hg1 (fun e => by injection e with e; omega)
  have hgr1 : w.grownBy w1 (some R) := grown_then (grown_alloc _ _ _) hg1
  have hw2 : IntKind.i64.wrap (2 + v1) = 2 + v1 := IntWalk.i64_in _ (by omega)
  have hX0 : w.heap.size < w1.heap.size := by omega
  have S0 := Lib.hid (show RadSt w (((w1.alloc (.cells #[.int .i64 (2 + v1), .slice none 0 0] 25)).alloc (.cells #[] 4)).alloc (.cells #[] 34)) R w1.heap.size (lim + 1) (2 + v1) (.slice none 0 0) [] (.slice (some ⟨w1.heap.size + 1, 0, none⟩) 0 0) [] (.slice (some ⟨w1.heap.size + 2, 0, none⟩) 0 0) [] from by
    have o1 := OwnB.lit (w1.alloc (.cells #[.int .i64 (2 + v1), .slice none 0 0] 25))
    have o2 := ownU_lit ((w1.alloc (.cells #[.int .i64 (2 + v1), .slice none 0 0] 25)).alloc (.cells #[] 4))
    simp only [World.size_alloc] at o1 o2
    refine ⟨hR, ((hret.alloc _).alloc _).alloc _, hX0, ((IsBlk.new w1 _ _).alloc _).alloc _, World.ownsRow_nil _ _ _ _, ?_, ?_, ((hr1.alloc _).alloc _).alloc _, grown_then hgr1 (grown_then (grown_alloc _ _ _) (grown_then (grown_alloc _ _ _) (grown_alloc _ _ _))), by simp [Value.ownBlock], by simp [Value.ownBlock], by simp [Value.ownBlock], fun q hq => by simp [Value.ownBlock] at hq, fun q hq => by simp [Value.ownBlock] at hq, fun q hq e => ?_⟩
    · have o3 := o1.far (grown_alloc _ (.cells #[] 34) none) (fun q hq e => by cases e)
      rcases o3.2 with h | ⟨g, cap, cur, h1, h2, h3⟩
      · exact ⟨o3.1, .inl h⟩
      · exact ⟨o3.1, .inr ⟨g, cap, cur, h1, by omega, h3⟩⟩
    · exact o2.more (by omega)
    · simp [Value.ownBlock] at hq e; omega)
  clear hret hgr1 hr1 hg1 hr hw2
  obtain ⟨nb, hnb⟩ : ∃ nb : Nat, (nb : Int) = 2 + v1 := ⟨(2 + v1).toNat, by omega⟩
  go_upto_region 4 with fail
  generalize ((w1.alloc (.cells #[.int .i64 (2 + v1), .slice none 0 0] 25)).alloc (.cells #[] 4)).alloc (.cells #[] 34) = W0 at *
  generalize w1.heap.size = X at *
  rw [← hnb] at S0
  have hb7 : nb ≤ 7 := by omega
  have hb2 : 2 ≤ nb := by omega
  clear hnb hs1 hv0 hv1 hv6
  go_cut [10] (fun bw wx => (∃ wh : Bool, bw = .bool wh) ∧ RadSt w wx R X (lim + 2) nb (.slice none 0 0) [] (.slice (some ⟨X + 1, 0, none⟩) 0 0) [] (.slice (some ⟨X + 2, 0, none⟩) 0 0) [])
  case first =>
    go_wp2_with fail
    refine (pick_any R 2 _ (by omega) (by omega) _ S0.out.rd).mono ?_
    rintro e w2 ⟨v2, rfl, _, _, _, hr2, hg2⟩
    have S1 := Lib.hid (S0.out.pick hr2 hg2)
    clear S0 hr2 hg2
    go_wp2_with fail
    go_meet
    exact ⟨⟨_, rfl⟩, S1.out.mono (by omega)⟩
  case rest =>
    obtain ⟨⟨wh, rfl⟩, hS⟩ := hcut
    have S1 := Lib.hid hS
    clear hS S0
    go_wp2
    go_loopw [8, 9, 11] (fun vt vu i wr => ∃ (k : Nat) (vl : Value) (ls : List L3) (ts : List Bool) (us : List TU), k ≤ nb ∧ i = .int .i64 k ∧ RadSt w wr R X (lim + 2 + 4 * k) nb vl ls vt ts vu us ∧ ls.length = k - 1 ∧ ts.length = k - 1 ∧ us.length = k) (fun _ _ i _ => nb - (intOf i).toNat)
    case atStart => exact ⟨0, _, [], [], [], by omega, rfl, S1.out.mono (by omega), rfl, rfl, rfl⟩
    case round =>
      obtain ⟨k, vl, ls, ts, us, hk, rfl, hst, hls, hts, hus⟩ := hrel
      have SK := Lib.hid hst
      have HLS := Lib.hid hls
      have HTS := Lib.hid hts
      have HUS := Lib.hid hus
      clear hst hls hts hus S1
      obtain ⟨p0, p1, p2, p3⟩ := SK.out.var.two
      have hXs := SK.out.var.lt
      by_cases hlt : k < nb
      · have hltI : (k : Int) < (nb : Int) := by omega
        go_upto_if 32 with fail
        go_cut [8] (fun vt' wx => ∃ (vl' : Value) (ls' : List L3) (ts' : List Bool), RadSt w wx R X (lim + 2 + 4 * k + 3) nb vl' ls' vt' ts' u9 us ∧ ls'.length = k ∧ ts'.length = k)
        case first =>
          by_cases hk0 : 0 < k
          · have hk0I : (0 : Int) < (k : Int) := by omega
            go_upto_region 9 with fail
            go_cut [] (fun wx => ∃ (vl' : Value) (ls' : List L3), RadSt w wx R X (lim + 2 + 4 * k + 2) nb vl' ls' u8 ts u9 us ∧ ls'.length = k)
            case first =>
              have D0 := Lib.hid SK.out.drew
              have E1 := Lib.hid (show lim + 2 + 4 * (k : Int) ≤ 1000000 by omega)
              have E2 := Lib.hid (show lim + 2 + 4 * (k : Int) + 1 ≤ 1000000 by omega)
              have E3 := Lib.hid (show (k : Int) ≤ 1000000 by omega)
              go_region_law (first
                | (refine step_append_lies _ rfl (.tmp 34) (.tmp 43) 23 rfl (w.heap.size + 1) 58 il (.agg #[.int .i64 0, .int .i64 0, .int .i64 0]) 3 24 Tryd.underlying23 HIL.out hlz0 hlz1 hlz2 rfl (by decide) vl ls.length (ls.flatMap fL) rfl (World.ownsRow.alloc D2.out.ol _) ⟨w7.heap.size, 0, none⟩ 1 1 (fL (va, k, 10 + vb)) rfl rfl ?c1 ?c2 (by decide) ?c3 ?c4 ?c5 _ rfl ?_
                   case c1 => exact news_new w7 (va, k, 10 + vb) _
                   case c2 => intro u hu; simp [fL] at hu; rcases hu with rfl | rfl | rfl <;> rfl
                   case c3 => clear wd; simp only [maxLen]; have := HLS.out; omega
                   case c4 => clear wd; have := HLS.out; omega
                   case c5 => clear wd; have := D2.out.ret.lt; simp; omega
                   intro g cap w8 hown8 hgrow8 hat8 hlt8
                   have S11 := Lib.hid (D2.out.pushL _ (ownL_snoc hown8) hgrow8 hat8)
                   obtain ⟨t0, t1, t2, t3⟩ := S11.out.2.two)
                | (go_simp; go_at_call 38; (with_reducible refine (pick_any R 90 _ E2.out (by decide) _ D1.out.rd).mono ?_); rintro e w7 ⟨vb, rfl, hd0, hd1, _, hr7, hg7⟩; have D2 := Lib.hid (D1.out.pick hr7 hg7); obtain ⟨q0, q1, q2, q3⟩ := D2.out.var.two; have hX7 := D2.out.var.lt; have hX8 : ¬ w7.heap.size = X := (by omega); have hX9 : ¬ X = w7.heap.size := (by omega); have wd : IntKind.i64.wrap (10 + vb) = 10 + vb := IntWalk.i64_in _ (by omega))
                | (go_simp; go_at_call 38; (with_reducible refine (pick_any R (k : Int) _ E1.out E3.out _ D0.out.rd).mono ?_); rintro e w6 ⟨va, rfl, _, _, _, hr6, hg6⟩; have D1 := Lib.hid (D0.out.pick hr6 hg6); obtain ⟨s0, s1, s2, s3⟩ := D1.out.var.two))
              all_goals clear wd
              all_goals go_wp2_with fail
              all_goals go_meet
              all_goals exact ⟨_, _, S11.out.1.mono (by omega), by rw [List.length_append, List.length_singleton]; have := HLS.out; omega⟩
            case rest =>
              obtain ⟨vl', ls', hS, hl'⟩ := hcut
              have S2 := Lib.hid hS
              have HL2 := Lib.hid hl'
              have hX2 := S2.out.ret.lt
              have hle : ts.length ≤ 8 := by have := HTS.out; omega
              clear hS hl' SK p0 p1 p2 p3 hXs
              cases wh
              rotate_left
              · skip
                go_wp2_with (
                  at_builtin
                  refine wpList_append_lies _ rfl _ _ _ rfl (w.heap.size + 1) 4 ib (.bool false) 1 1 Tryd.underlying26 HIB.out hbz0 hbz1 hbz2 rfl (by decide) _ _ _ rfl (World.ownsRow.alloc S2.out.ot _) ⟨wc.heap.size, 0, none⟩ 1 1 [.bool true] rfl rfl ?c1 ?c2 (by decide) ?c3 ?c4 ?c5 _ rfl ?_
                  case c1 => exact cell_one_new _ _ _
                  case c2 => intro u hu; simp at hu; subst hu; rfl
                  case c3 => simp only [maxLen]; omega
                  case c4 => omega
                  case c5 => simp; omega
                  intro g cap w5 hown5 hgrow5 hat5 _
                  have S5 := Lib.hid (S2.out.pushT _ (ownB_snoc hown5) hgrow5 hat5))
                go_meet
                exact ⟨_, _, _, S5.out.mono (by omega), HL2.out, by rw [List.length_append, List.length_singleton]; have := HTS.out; omega⟩
              · go_wp2_with fail
                refine (pick_any R 6 _ (by omega) (by omega) _ S2.out.rd).mono ?_
                rintro e w4 ⟨v4, rfl, _, _, _, hr4, hg4⟩
                have S4 := Lib.hid (S2.out.pick hr4 hg4)
                have hX4 := S4.out.ret.lt
                clear S2 hr4 hg4
                go_wp2_with (
                  at_builtin
                  refine wpList_append_lies _ rfl _ _ _ rfl (w.heap.size + 1) 4 ib (.bool false) 1 1 Tryd.underlying26 HIB.out hbz0 hbz1 hbz2 rfl (by decide) _ _ _ rfl (World.ownsRow.alloc S4.out.ot _) ⟨w4.heap.size, 0, none⟩ 1 1 [.bool (decide (0 < v4))] rfl rfl ?c1 ?c2 (by decide) ?c3 ?c4 ?c5 _ rfl ?_
                  case c1 => exact cell_one_new _ _ _
                  case c2 => intro u hu; simp at hu; subst hu; rfl
                  case c3 => simp only [maxLen]; omega
                  case c4 => omega
                  case c5 => simp; omega
                  intro g cap w5 hown5 hgrow5 hat5 _
                  have S5 := Lib.hid (S4.out.pushT _ (ownB_snoc hown5) hgrow5 hat5))
                go_meet
                exact ⟨_, _, _, S5.out.mono (by omega), HL2.out, by rw [List.length_append, List.length_singleton]; have := HTS.out; omega⟩
          · have hk00 : k = 0 := by omega
            subst hk00
            go_wp2_with fail
            go_meet
            exact ⟨_, _, _, SK.out.mono (by omega), by have := HLS.out; omega, by have := HTS.out; omega⟩
        case rest =>
          rename_i vt2
          obtain ⟨vl', ls', ts', hS, hl', ht'⟩ := hcut
          have S2 := Lib.hid hS
          have HL2 := Lib.hid hl'
          have HT2 := Lib.hid ht'
          clear hS hl' ht' SK p0 p1 p2 p3 hXs HLS HTS
          go_wp2_with fail
          refine (pick_any R 20 _ (by omega) (by omega) _ S2.out.rd).mono ?_
          rintro e w4 ⟨v4, rfl, _, _, _, hr4, hg4⟩
          have S4 := Lib.hid (S2.out.pick hr4 hg4)
          have hX4 := S4.out.ret.lt
          have hle : us.length ≤ 8 := by have := HUS.out; omega
          clear S2 hr4 hg4
          go_wp2_with (
            at_builtin
            refine wpList_append_lies _ rfl _ _ _ rfl (w.heap.size + 1) 34 iu (.agg #[.int .i64 0, .int .i64 0]) 2 16 Tryd.underlying27 HIU.out huz0 huz1 huz2 rfl (by decide) _ _ _ rfl (World.ownsRow.alloc S4.out.ou _) ⟨w4.heap.size, 0, none⟩ 1 1 (fU (0, v4)) rfl rfl ?c1 ?c2 (by decide) ?c3 ?c4 ?c5 _ rfl ?_
            case c1 => exact newU w4 (0, v4) _
            case c2 => intro u hu; simp [fU] at hu; rcases hu with rfl | rfl <;> rfl
            case c3 => simp only [maxLen]; omega
            case c4 => omega
            case c5 => simp; omega
            intro g cap w5 hown5 hgrow5 hat5 _
            have S5 := Lib.hid (S4.out.pushU _ (OwnU.snoc hown5) hgrow5 hat5))
          go_roundw
          case rel => exact ⟨k + 1, _, _, _, _, by omega, by go_num, S5.out.mono (by omega), HL2.out, HT2.out, by rw [List.length_append, List.length_singleton]; have := HUS.out; omega⟩
          case measure => simp [intOf]; omega
      · obtain rfl : k = nb := by omega
        have hkk : 1 ≤ k := by omega
        go_wp2_with fail
        refine (pick_any R 4 _ (by omega) (by omega) _ SK.out.rd).mono ?_
        rintro e w2 ⟨v2, rfl, hj0, hj1, _, hr2, hg2⟩
        have hj4 : v2 < 4 := hj1 (by decide)
        obtain ⟨j0, rfl⟩ := Int.eq_ofNat_of_zero_le hj0
        have S2 := Lib.hid (SK.out.pick hr2 hg2)
        clear SK hr2 hg2 p0 p1 p2 p3 hXs
        go_wp2
        go_loopw [8, 12] (fun vt i wr => ∃ (j : Nat) (vl : Value) (ls : List L3) (ts : List Bool), j ≤ 3 ∧ i = .int .i64 j ∧ RadSt w wr R X (lim + 80 + 4 * (3 - (j : Int))) k vl ls vt ts u9 us ∧ ls.length + j ≤ k + 2 ∧ ts.length + j ≤ k + 2 ∧ k - 1 ≤ ts.length) (fun _ i _ => (intOf i).toNat)
        case atStart => exact ⟨j0, _, ls, ts, by omega, rfl, S2.out.mono (by omega), by have := HLS.out; omega, by have := HTS.out; omega, by have := HTS.out; omega⟩
        case round =>
          obtain ⟨j, vl2, ls2, ts2, hj, rfl, hst, hl2, ht2, ht3⟩ := hrel
          have S3 := Lib.hid hst
          have HL3 := Lib.hid hl2
          have HT3 := Lib.hid ht2
          have HT4 := Lib.hid ht3
          clear hst hl2 ht2 ht3 S2 HLS HTS
          obtain ⟨p0, p1, p2, p3⟩ := S3.out.var.two
          by_cases hgo : 0 < j
          · have hgoI : (0 : Int) < (j : Int) := by omega
            go_wp2_with fail
            refine (pick_any R (k : Int) _ (by omega) (by omega) _ S3.out.rd).mono ?_
            rintro e w4 ⟨va, rfl, ha0, ha1, _, hr4, hg4⟩
            have S4 := Lib.hid (S3.out.pick hr4 hg4)
            have hak : va < (k : Int) := ha1 (by omega)
            clear S3 hr4 hg4 p0 p1 p2 p3 ha1
            go_upto_region 16 with fail
            go_cut [] (fun wx => ∃ (vl' : Value) (ls' : List L3), RadSt w wx R X (lim + 80 + 4 * (3 - (j : Int)) + 3) k vl' ls' u8 ts2 u9 us ∧ ls'.length = ls2.length + 1)
            case first =>
              obtain ⟨p0, p1, p2, p3⟩ := S4.out.var.two
              have D0 := Lib.hid S4.out.drew
              have E1 := Lib.hid (show lim + 80 + 4 * (3 - (j : Int)) + 1 ≤ 1000000 by omega)
              have E2 := Lib.hid (show lim + 80 + 4 * (3 - (j : Int)) + 1 + 1 ≤ 1000000 by omega)
              have E3 := Lib.hid (show (k : Int) - 1 ≤ 1000000 by omega)
              have hbz : ((k : Int) == 0) = false := by rw [beq_eq_false_iff_ne]; omega
              have hbz2 : (k == 0) = false := by rw [beq_eq_false_iff_ne]; omega
              have hbz3 : ¬ k = 0 := by omega
              have hbz4 : ¬ (k : Int) = 0 := by omega
              have wb1 : IntKind.i64.wrap ((k : Int) - 1) = (k : Int) - 1 := IntWalk.i64_in _ (by omega)
              have wa1 : IntKind.i64.wrap (va + 1) = va + 1 := IntWalk.i64_in _ (by omega)
              go_region_law (first
                | (refine step_append_lies _ rfl (.tmp 72) (.tmp 89) 23 rfl (w.heap.size + 1) 58 il (.agg #[.int .i64 0, .int .i64 0, .int .i64 0]) 3 24 Tryd.underlying23 HIL.out hlz0 hlz1 hlz2 rfl (by decide) vl2 ls2.length (ls2.flatMap fL) rfl (World.ownsRow.alloc D2.out.ol _) ⟨w7.heap.size, 0, none⟩ 1 1 (fL (va, (va + 1 + vc).tmod (k : Int), 10 + vb)) rfl rfl ?c1 ?c2 (by decide) ?c3 ?c4 ?c5 _ rfl ?_
                   case c1 => exact news_new w7 (va, (va + 1 + vc).tmod (k : Int), 10 + vb) _
                   case c2 => intro u hu; simp [fL] at hu; rcases hu with rfl | rfl | rfl <;> rfl
                   case c3 => clear wd wb1 wa1 wc1; simp only [maxLen]; have := HL3.out; omega
                   case c4 => clear wd wb1 wa1 wc1; have := HL3.out; omega
                   case c5 => clear wd wb1 wa1 wc1; have := D2.out.ret.lt; simp; omega
                   intro g cap w8 hown8 hgrow8 hat8 hlt8
                   have S11 := Lib.hid (D2.out.pushL _ (ownL_snoc hown8) hgrow8 hat8)
                   obtain ⟨t0, t1, t2, t3⟩ := S11.out.2.two)
                | (go_simp; go_at_call 38; (with_reducible refine (pick_any R 50 _ E2.out (by decide) _ D1.out.rd).mono ?_); rintro e w7 ⟨vb, rfl, hd0, hd1, _, hr7, hg7⟩; have D2 := Lib.hid (D1.out.pick hr7 hg7); obtain ⟨q0, q1, q2, q3⟩ := D2.out.var.two; have hX7 := D2.out.var.lt; have hX8 : ¬ w7.heap.size = X := (by omega); have hX9 : ¬ X = w7.heap.size := (by omega); have wd : IntKind.i64.wrap (10 + vb) = 10 + vb := IntWalk.i64_in _ (by omega))
                | (go_simp; go_at_call 38; (with_reducible refine (pick_any R ((k : Int) - 1) _ E1.out E3.out _ D0.out.rd).mono ?_); rintro e w6 ⟨vc, rfl, hc0, hc1, _, hr6, hg6⟩; have D1 := Lib.hid (D0.out.pick hr6 hg6); obtain ⟨s0, s1, s2, s3⟩ := D1.out.var.two; have hck : vc < (k : Int) - 1 := hc1 (by omega); have wc1 : IntKind.i64.wrap (va + 1 + vc) = va + 1 + vc := IntWalk.i64_in _ (by omega)))
              all_goals clear wd wb1 wa1 wc1
              all_goals go_wp2_with fail
              all_goals go_meet
              all_goals exact ⟨_, _, S11.out.1.mono (by omega), by rw [List.length_append, List.length_singleton]⟩
            case rest =>
              obtain ⟨vl', ls', hS, hl'⟩ := hcut
              have S5 := Lib.hid hS
              have HL5 := Lib.hid hl'
              have hX5 := S5.out.ret.lt
              have hle : ts2.length ≤ 9 := by have := HT3.out; omega
              clear hS hl' S4
              go_wp2_with (
                at_builtin
                refine wpList_append_lies _ rfl _ _ _ rfl (w.heap.size + 1) 4 ib (.bool false) 1 1 Tryd.underlying26 HIB.out hbz0 hbz1 hbz2 rfl (by decide) _ _ _ rfl (World.ownsRow.alloc S5.out.ot _) ⟨wc.heap.size, 0, none⟩ 1 1 [.bool false] rfl rfl ?c1 ?c2 (by decide) ?c3 ?c4 ?c5 _ rfl ?_
                case c1 => exact cell_one_new _ _ _
                case c2 => intro u hu; simp at hu; subst hu; rfl
                case c3 => simp only [maxLen]; omega
                case c4 => omega
                case c5 => simp; omega
                intro g cap w6 hown6 hgrow6 hat6 _
                have S6 := Lib.hid (S5.out.pushT _ (ownB_snoc hown6) hgrow6 hat6))
              go_roundw
              case rel => exact ⟨j - 1, _, _, _, by omega, by congr 1; omega, S6.out.mono (by omega), by have := HL5.out; have := HL3.out; omega, by rw [List.length_append, List.length_singleton]; have := HT3.out; omega, by rw [List.length_append, List.length_singleton]; have := HT4.out; omega⟩
              case measure => simp [intOf]; omega
          · obtain rfl : j = 0 := by omega
            have HL33 := Lib.hid (show ls2.length ≤ k + 2 by have := HL3.out; omega)
            have hu2 : us.length = k := HUS.out
            go_wp2_with fail
            refine (pick_any R 100 _ (by omega) (by omega) _ S3.out.rd).mono ?_
            rintro e w4 ⟨v4, rfl, h40, h41, _, hr4, hg4⟩
            have h4x : v4 < 100 := h41 (by decide)
            have S4 := Lib.hid (S3.out.pick hr4 hg4)
            clear S3 hr4 hg4 p0 p1 p2 p3 h41
            have hu0 : us[0]? = some (us[0]'(by omega)) := List.getElem?_eq_getElem _
            generalize (us[0]'(by omega)) = u0 at hu0
            have w60 : IntKind.i64.wrap (60 + v4) = 60 + v4 := IntWalk.i64_in _ (by omega)
            have iu0 : (0 : Int) < (us.length : Int) := by omega
            obtain ⟨g, cap, eu, f0, ⟨z0, d0⟩, hgX, hst⟩ := S4.out.putU hu0 (60 + v4)
            rw [hu2] at eu
            subst eu
            simp only [Nat.zero_mul] at f0 d0 hst
            have S5 := Lib.hid hst
            have HU5 := Lib.hid (show (us.set 0 (60 + v4, u0.2)).length = k by rw [List.length_set]; exact hu2)
            have ik0 : (0 : Int) < (k : Int) := by omega
            clear hst hu0 S4 iu0 hu2
            go_upto_region 19 with fail
            generalize us.set 0 (60 + v4, u0.2) = us5 at *
            generalize w4.setCell ⟨g, 0, none⟩ (.int .i64 (60 + v4)) = w5 at *
            clear f0 d0 w60
            go_wp2_with fail
            refine (pick_any R 2 _ (by omega) (by omega) _ S5.out.rd).mono ?_
            rintro e w6 ⟨v6, rfl, _, _, _, hr6, hg6⟩
            have S6 := Lib.hid (S5.out.pick hr6 hg6)
            clear S5 hr6 hg6
            go_upto_if 103 with fail
            go_cut [14] (fun _ wx => ∃ (ts' : List Bool) (us' : List TU), RadSt w wx R X (lim + 100) k vl2 ls2 u8 ts' (.slice (some ⟨g, 0, none⟩) k cap) us' ∧ ts'.length = ts2.length ∧ us'.length = k)
            case first =>
              by_cases hv : v6 = 0
              · subst hv
                obtain ⟨p0, p1, p2, p3⟩ := S6.out.var.two
                have wb1 : IntKind.i64.wrap ((k : Int) - 1) = (k : Int) - 1 := IntWalk.i64_in _ (by omega)
                go_wp2_with fail
                refine (pick_any R ((k : Int) - 1) _ (by omega) (by omega) _ S6.out.rd).mono ?_
                rintro e w7 ⟨v7, rfl, h70, h71, _, hr7, hg7⟩
                have h7x : v7 < (k : Int) - 1 := h71 (by omega)
                obtain ⟨m, rfl⟩ := Int.eq_ofNat_of_zero_le h70
                have S7 := Lib.hid (S6.out.pick hr7 hg7)
                have wk : IntKind.i64.wrap (1 + (m : Int)) = ((m + 1 : Nat) : Int) := by rw [IntWalk.i64_in _ (by omega)]; omega
                clear S6 hr7 hg7 h71 p0 p1 p2 p3 wb1
                go_wp2_with fail
                refine (pick_any R 60 _ (by omega) (by omega) _ S7.out.rd).mono ?_
                rintro e w8 ⟨v8, rfl, h80, h81, _, hr8, hg8⟩
                have h8x : v8 < 60 := h81 (by decide)
                have S8 := Lib.hid (S7.out.pick hr8 hg8)
                have w30 : IntKind.i64.wrap (30 + v8) = 30 + v8 := IntWalk.i64_in _ (by omega)
                clear S7 hr8 hg8 h81 wk
                have hum : us5[m + 1]? = some (us5[m + 1]'(by have := HU5.out; omega)) := List.getElem?_eq_getElem _
                generalize (us5[m + 1]'(by have := HU5.out; omega)) = um at hum
                obtain ⟨g2, cap2, e2, f0, ⟨z2, d0⟩, hgX2, hst⟩ := S8.out.putU hum (30 + v8)
                injection e2 with e21 e22 e23
                injection e21 with e21
                injection e21 with e21
                subst e21 e23
                clear e22
                have S9 := Lib.hid hst
                clear hst hum S8
                have HU9 := Lib.hid (show (us5.set (m + 1) (30 + v8, um.2)).length = k by rw [List.length_set]; exact HU5.out)
                have im1 : (m : Int) + 1 < (k : Int) := by omega
                have im2 : (0 : Int) ≤ (m : Int) + 1 := by omega
                go_upto_region 22 with fail
                generalize us5.set (m + 1) (30 + v8, um.2) = us9 at *
                generalize w8.setCell ⟨g, (m + 1) * 2, none⟩ (.int .i64 (30 + v8)) = w9 at *
                clear f0 d0 w30
                have hmt : m < ts2.length := by have := HT4.out; omega
                obtain ⟨g3, cap3, rfl, f0, ⟨z3, d0⟩, _, hst⟩ := S9.out.putT hmt false
                have S10 := Lib.hid hst
                have HT10 := Lib.hid (show (ts2.set m false).length = ts2.length by rw [List.length_set])
                clear hst S9
                have wm1 : IntKind.i64.wrap ((m : Int) + 1 - 1) = (m : Int) := by rw [IntWalk.i64_in _ (by omega)]; omega
                have wm2 : IntKind.i64.wrap (m : Int) = (m : Int) := IntWalk.i64_in _ (by omega)
                have im3 : (m : Int) < (ts2.length : Int) := by omega
                have im4 : (0 : Int) ≤ (m : Int) := by omega
                go_wp2_with fail
                go_meet
                exact ⟨_, _, S10.out.mono (by omega), HT10.out, HU9.out⟩
              · have hv0 : (v6 == 0) = false := by rw [beq_eq_false_iff_ne]; exact hv
                go_wp2_with fail
                go_meet
                exact ⟨_, _, S6.out.mono (by omega), rfl, HU5.out⟩
            case rest =>
              obtain ⟨ts3, us3, hS, hl3, hl4⟩ := hcut
              have S7 := Lib.hid hS
              have HL3 := Lib.hid hl3
              have HL4 := Lib.hid hl4
              clear hS hl3 hl4 S6
              have HTB := Lib.hid (show ts3.length ≤ 9 by have := HL3.out; have := HT3.out; omega)
              have HLB := Lib.hid (show ls2.length ≤ 9 by have := HL33.out; omega)
              go_wp2_with fail
              refine (odd_any R nn _ (by omega) (by omega) _ S7.out.rd).mono ?_
              rintro e w8 ⟨vo, rfl, _, hr8, hg8⟩
              have S8 := Lib.hid (S7.out.pick hr8 hg8)
              clear S7 hr8 hg8
              obtain ⟨A8, c8, rfl, _⟩ := S8.out.ol.row
              obtain ⟨B8, d8, rfl, _, _⟩ := S8.out.ot.ownT.row
              obtain ⟨p0, p1, p2, p3⟩ := S8.out.var.two
              obtain ⟨q0, q1, q2, q3⟩ := S8.out.ret.two
              have hne : ¬ w.heap.size = X := by have := S8.out.hX; omega
              cases vo
              · go_wp2_with fail
                obtain ⟨o1, o2, o3, o4, o5⟩ := S8.out.done (.int .i64 (k : Int)) (.slice A8 ls2.length c8)
                obtain ⟨hu9, hub⟩ := o3.ub
                refine bodyPost_ret (v := .tuple #[.agg #[.int .i64 (k : Int), .slice A8 ls2.length c8], .slice B8 ts3.length d8, .slice (some ⟨g, 0, none⟩) k cap]) (by simp [results, Tryd.results36, go_sem, q0, q1]) rfl ⟨k, A8, c8, ls2, B8, d8, ts3, some ⟨g, 0, none⟩, cap, us3, ⟨by rw [hu9], o1, by have := HLB.out; omega, by omega, by omega, o2.ownT, by have := HTB.out; omega, by rw [hu9]; exact hub, by omega⟩, o4.mono (by omega), o5⟩
              · go_wp2_with fail
                refine (pick_any R 4 _ (by omega) (by omega) _ S8.out.rd).mono ?_
                rintro e w9 ⟨v9, rfl, h90, h91, _, hr9, hg9⟩
                have h9x : v9 < 4 := h91 (by decide)
                have S9 := Lib.hid (S8.out.pick hr9 hg9)
                clear S8 hr9 hg9 h91 p0 p1 p2 p3 q0 q1 q2 q3
                obtain ⟨p0, p1, p2, p3⟩ := S9.out.var.two
                obtain ⟨q0, q1, q2, q3⟩ := S9.out.ret.two
                rcases (show v9 = 0 ∨ v9 = 1 ∨ v9 = 2 ∨ v9 = 3 by omega) with rfl | rfl | rfl | rfl
                · obtain ⟨ka, hka⟩ : ∃ ka : Nat, ka + 1 = k := ⟨k - 1, by omega⟩
                  obtain ⟨kb, hkb⟩ : ∃ kb : Nat, kb + 2 = k := ⟨k - 2, by omega⟩
                  have wk1 : IntKind.i64.wrap ((k : Int) - 1) = (ka : Int) := by rw [IntWalk.i64_in _ (by omega)]; omega
                  have wk2 : IntKind.i64.wrap ((k : Int) - 2) = (kb : Int) := by rw [IntWalk.i64_in _ (by omega)]; omega
                  have ia0 : (0 : Int) ≤ (ka : Int) := by omega
                  have ia1 : (ka : Int) < (k : Int) := by omega
                  have ib0 : (0 : Int) ≤ (kb : Int) := by omega
                  have ib1 : (kb : Int) < (k : Int) := by omega
                  have hua : us3[ka]? = some (us3[ka]'(by have := HL4.out; omega)) := List.getElem?_eq_getElem _
                  generalize (us3[ka]'(by have := HL4.out; omega)) = ua at hua
                  obtain ⟨g2, cap2, e2, f0, ⟨z2, d0⟩, _, hst⟩ := S9.out.putU hua 5
                  injection e2 with e21 e22 e23
                  injection e21 with e21
                  injection e21 with e21
                  subst e21 e23
                  clear e22
                  have S10 := Lib.hid hst
                  have HU10 := Lib.hid (show (us3.set ka (5, ua.2)).length = k by rw [List.length_set]; exact HL4.out)
                  clear hst hua S9
                  go_upto_region 28 with fail
                  generalize us3.set ka (5, ua.2) = us4 at *
                  generalize w9.setCell ⟨g, ka * 2, none⟩ (.int .i64 5) = w10 at *
                  clear f0 d0 p0 p1 p2 p3 q0 q1 q2 q3
                  obtain ⟨p0, p1, p2, p3⟩ := S10.out.var.two
                  have hub : us4[kb]? = some (us4[kb]'(by have := HU10.out; omega)) := List.getElem?_eq_getElem _
                  generalize (us4[kb]'(by have := HU10.out; omega)) = ub at hub
                  obtain ⟨g2, cap2, e2, f0, ⟨z2, d0⟩, _, hst⟩ := S10.out.putU hub 5
                  injection e2 with e21 e22 e23
                  injection e21 with e21
                  injection e21 with e21
                  subst e21 e23
                  clear e22
                  have S11 := Lib.hid hst
                  have HU11 := Lib.hid (show (us4.set kb (5, ub.2)).length = k by rw [List.length_set]; exact HU10.out)
                  clear hst hub S10
                  go_upto_region 36 with fail
                  generalize us4.set kb (5, ub.2) = us5' at *
                  generalize w10.setCell ⟨g, kb * 2, none⟩ (.int .i64 5) = w11 at *
                  clear f0 d0 p0 p1 p2 p3 wk1 wk2
                  obtain ⟨p0, p1, p2, p3⟩ := S11.out.var.two
                  obtain ⟨q0, q1, q2, q3⟩ := S11.out.ret.two
                  go_wp2_with fail
                  obtain ⟨o1, o2, o3, o4, o5⟩ := S11.out.done (.int .i64 (k : Int)) (.slice A8 ls2.length c8)
                  obtain ⟨hu9, hub⟩ := o3.ub
                  refine bodyPost_ret (v := .tuple #[.agg #[.int .i64 (k : Int), .slice A8 ls2.length c8], .slice B8 ts3.length d8, .slice (some ⟨g, 0, none⟩) k cap]) (by simp [results, Tryd.results36, go_sem, q0, q1]) rfl ⟨k, A8, c8, ls2, B8, d8, ts3, some ⟨g, 0, none⟩, cap, us5', ⟨by first | rfl | (rw [hu9]; done) | simp [hu9], o1, by have := HLB.out; omega, by omega, by omega, o2.ownT, by have := HTB.out; (try simp); omega, by rw [hu9]; exact hub, by omega⟩, o4.mono (by omega), o5⟩
                · go_wp2_with fail
                  clear p0 p1 p2 p3 q0 q1 q2 q3
                  go_loopw [15] (fun i wr => ∃ (e : Nat) (ts9 : List Bool), e ≤ ts3.length ∧ i = .int .i64 e ∧ RadSt w wr R X (lim + 200) k (.slice A8 ls2.length c8) ls2 (.slice B8 ts3.length d8) ts9 (.slice (some ⟨g, 0, none⟩) k cap) us3 ∧ ts9.length = ts3.length) (fun i _ => ts3.length - (intOf i).toNat)
                  case atStart => exact ⟨0, ts3, by omega, rfl, S9.out.mono (by omega), rfl⟩
                  case round =>
                    obtain ⟨e, ts9, he, rfl, hst, hl9⟩ := hrel
                    have S10 := Lib.hid hst
                    have HL9 := Lib.hid hl9
                    clear hst hl9 S9
                    by_cases hle : e < ts3.length
                    · obtain ⟨g3, cap3, e3, f0, ⟨z3, d0⟩, _, hst⟩ := S10.out.putT (k := e) (by have := HL9.out; omega) true
                      injection e3 with e31 e32 e33
                      subst e31 e33
                      clear e32
                      have S11 := Lib.hid hst
                      have HL11 := Lib.hid (show (ts9.set e true).length = ts3.length by rw [List.length_set]; exact HL9.out)
                      have hle9 : ts3.length ≤ 9 := HTB.out
                      have ie0 : (0 : Int) ≤ (e : Int) := by omega
                      have ie1 : (e : Int) < (ts3.length : Int) := by omega
                      clear hst S10
                      go_wp2
                      go_roundw
                      case rel => exact ⟨e + 1, _, by omega, by go_num, S11.out, HL11.out⟩
                      case measure => simp [intOf]; omega
                    · obtain ⟨p0, p1, p2, p3⟩ := S10.out.var.two
                      obtain ⟨q0, q1, q2, q3⟩ := S10.out.ret.two
                      have hl9 := HL9.out
                      go_wp2_with fail
                      obtain ⟨o1, o2, o3, o4, o5⟩ := S10.out.done (.int .i64 (k : Int)) (.slice A8 ls2.length c8)
                      obtain ⟨hu9, hub⟩ := o3.ub
                      refine bodyPost_ret (v := .tuple #[.agg #[.int .i64 (k : Int), .slice A8 ls2.length c8], .slice B8 ts3.length d8, .slice (some ⟨g, 0, none⟩) k cap]) (by simp [results, Tryd.results36, go_sem, q0, q1]) rfl ⟨k, A8, c8, ls2, B8, d8, ts9, some ⟨g, 0, none⟩, cap, us3, ⟨by rw [hu9, hl9], o1, by have := HLB.out; omega, by omega, by omega, by rw [hl9]; exact o2.ownT, by have := HTB.out; omega, by rw [hu9]; exact hub, by omega⟩, o4.mono (by omega), o5⟩
                · have hle : ts3.length ≤ 9 := HTB.out
                  have hX9 := S9.out.ret.lt
                  go_wp2_with (
                    at_builtin
                    refine wpList_append_lies _ rfl _ _ _ rfl (w.heap.size + 1) 4 ib (.bool false) 1 1 Tryd.underlying26 HIB.out hbz0 hbz1 hbz2 rfl (by decide) _ _ _ rfl (World.ownsRow.alloc S9.out.ot _) ⟨w9.heap.size, 0, none⟩ 1 1 [.bool false] rfl rfl ?c1 ?c2 (by decide) ?c3 ?c4 ?c5 _ rfl ?_
                    case c1 => exact cell_one_new _ _ _
                    case c2 => intro u hu; simp at hu; subst hu; rfl
                    case c3 => simp only [maxLen]; omega
                    case c4 => omega
                    case c5 => simp; omega
                    intro gx capx w10 hown10 hgrow10 hat10 _
                    have S10 := Lib.hid (S9.out.pushT _ (ownB_snoc hown10) hgrow10 hat10)
                    clear p0 p1 p2 p3 q0 q1 q2 q3
                    obtain ⟨p0, p1, p2, p3⟩ := S10.out.var.two
                    obtain ⟨q0, q1, q2, q3⟩ := S10.out.ret.two)
                  obtain ⟨o1, o2, o3, o4, o5⟩ := S10.out.done (.int .i64 (k : Int)) (.slice A8 ls2.length c8)
                  obtain ⟨hu9, hub⟩ := o3.ub
                  refine bodyPost_ret (v := .tuple #[.agg #[.int .i64 (k : Int), .slice A8 ls2.length c8], .slice (some ⟨gx, 0, none⟩) (ts3.length + 1) capx, .slice (some ⟨g, 0, none⟩) k cap]) (by simp [results, Tryd.results36, go_sem, q0, q1]) rfl ⟨k, A8, c8, ls2, some ⟨gx, 0, none⟩, capx, (ts3 ++ [false]), some ⟨g, 0, none⟩, cap, us3, ⟨by first | rfl | (rw [hu9]; done) | simp [hu9], o1, by have := HLB.out; omega, by omega, by omega, by simpa using o2.ownT, by have := HTB.out; (try simp); omega, by rw [hu9]; exact hub, by omega⟩, o4.mono (by omega), o5⟩
                · have hcap := ownU_cap S9.out.ou
                  have hc1 : ¬ cap = 1 := by omega
                  have ik1 : (1 : Int) ≤ (k : Int) := by omega
                  go_upto_region 36 with fail
                  go_wp2_with fail
                  obtain ⟨o1, o2, o3, o4, o5⟩ := S9.out.done (.int .i64 (k : Int)) (.slice A8 ls2.length c8)
                  obtain ⟨hu9, hub⟩ := o3.ub
                  have hur := hub.rest (show 0 < k by omega)
                  have hul : us3.tail.length = k - 1 := by rw [List.length_tail, hu9]
                  refine bodyPost_ret (v := .tuple #[.agg #[.int .i64 (k : Int), .slice A8 ls2.length c8], .slice B8 ts3.length d8, .slice (some ⟨g, 2, none⟩) (k - 1) (cap - 1)]) (by simp [results, Tryd.results36, go_sem, q0, q1]) rfl ⟨k, A8, c8, ls2, B8, d8, ts3, some ⟨g, 2, none⟩, cap - 1, us3.tail, ⟨by rw [hul], o1, by have := HLB.out; omega, by omega, by omega, o2.ownT, by have := HTB.out; omega, by rw [hul]; exact hur, by omega⟩, o4.mono (by omega), o5⟩
end Go.Proofs.YtpmkeagdoehbhaaDoor

/- The drawings of FnRadial, FnFedBy, FnParentLine, FnPathLines and FnBelowLine. -/
namespace Go.Proofs.YtpmkeagdoehbhaaDoor
open Go.ChangeShapes Go.WideShapes Go.ChangeAt Go.RowKit

section
variable {w w' : World} {base n : Nat} {A : Option Addr} {us : List TU} {row : Option Nat}
theorem RowUB.far (h : RowUB w base A n us) (hg : w.grownBy w' row) (hne : ∀ q, row = some q → q < base) : RowUB w' base A n us := by
  refine ⟨⟨h.1.1, fun hn => ?_⟩, h.2⟩
  obtain ⟨b, off, e, hlt, hc⟩ := h.1.2 hn
  have hb := h.2 b off e
  have eq : w'.heap[b]? = w.heap[b]? := hg.block b hlt (fun e => by have := hne _ e.symm; omega)
  have hcell : ∀ o, w'.cell? ⟨b, o, none⟩ = w.cell? ⟨b, o, none⟩ := fun o => by simp [World.cell?, eq]
  refine ⟨b, off, e, Nat.lt_of_lt_of_le hlt hg.size, fun k l hk => ?_⟩
  obtain ⟨h0, h1⟩ := hc k l hk
  exact ⟨(hcell _).trans h0, (hcell _).trans h1⟩
theorem RowUB.more {base' : Nat} (h : RowUB w base A n us) (hb : base' ≤ base) : RowUB w base' A n us := ⟨h.1, fun b off e => Nat.le_trans hb (h.2 b off e)⟩
theorem RowUB.pick {R : Nat} (h : RowUB w base A n us) (hg : w.grownBy w' (some R)) (hR : R < base) : RowUB w' base A n us := h.far hg (fun q e => by injection e with e; omega)
theorem RowUB.keep (h : RowUB w base A n us) (hb : Below w.heap.size w w') : RowUB w' base A n us := ⟨h.1.below hb, h.2⟩
theorem RowUB.far1 {q : Nat} (h : RowUB w base A n us) (hq : q < base) (u u' : Value) : RowUB ((w.setCell ⟨q, 0, none⟩ u).setCell ⟨q, 1, none⟩ u') base A n us :=
  h.far (grown_then (grown_put _ _ _ _) (grown_put _ _ _ _)) (fun p e => by injection e with e; omega)
end

/-- What a drawing with a bus hands back. -/
def DrawnB (w w' : World) (e : Ending) (bs : Int) (A : Option Addr) (c : Nat) (ls : List L3) (B : Option Addr) (d : Nat) (ts : List Bool) (U : Option Addr) (r : Nat) (us : List TU) (bus : Int) : Prop :=
  e = .returned (.tuple #[.agg #[.int .i64 bs, .slice A ls.length c], .slice B ts.length d, .slice U us.length r, .int .i64 bus]) ∧ OwnL w' (w.heap.size + 1) (.slice A ls.length c) ls ∧ ls.length ≤ 12 ∧ -1 ≤ bs ∧ bs ≤ 9 ∧ OwnT w' (w.heap.size + 1) (.slice B ts.length d) ts ∧ ts.length ≤ 13 ∧ RowUB w' (w.heap.size + 1) U us.length us ∧ us.length ≤ 10
def RadBus (w : World) (R : Nat) (l : Int) (e : Ending) (w' : World) : Prop := ∃ bs A c ls B d ts U r us bus, DrawnB w w' e bs A c ls B d ts U r us bus ∧ Rd w' R l ∧ w.grownBy w' (some R)

set_option maxRecDepth 100000 in
set_option maxHeartbeats 2000000 in
theorem radialBus_any (R : Nat) (lim : Int) (hlim : lim ≤ 600000) (w : World) (hR : R < w.heap.size) (hr : Rd w R lim) :
    Calls Tryd.prog 26 #[.pointer (some ⟨R, 0, none⟩)] w (RadBus w R (lim + 260)) := by
  go_enter Tryd.func26, Tryd.ntmps26
  go_wp2_with fail
  refine (radialDraw_any R 9 lim (by omega) (by omega) _ (by simp; omega) (hr.alloc _)).mono ?_
  rintro e w2 ⟨bs, A', c', ls, As, cs, ts, Au, cu, us, ⟨rfl, ho, hl, hb0, hb9, hO, hts, hU, hus⟩, hr2, hg2⟩
  have S1 := Lib.hid (sw_start (bs := bs) hR ho hr2 hg2)
  have O1 := Lib.hid (show OwnT (w2.alloc (.cells #[.int .i64 bs, .slice A' ls.length c'] 25)) (w.heap.size + 1) (.slice As ts.length cs) ts from (hO.more (by simp)).keep (below_bx _ _))
  have U1 := Lib.hid (show RowUB (w2.alloc (.cells #[.int .i64 bs, .slice A' ls.length c'] 25)) (w.heap.size + 1) Au us.length us from (hU.more (by simp)).keep (below_bx _ _))
  clear hr2 hg2 ho hO hU hr
  go_upto_region 2 with fail
  obtain ⟨p0, p1, p2, p3⟩ := S1.out.var.two
  obtain ⟨q0, q1, q2, q3⟩ := S1.out.ret.two
  have hX1 : ¬ w.heap.size = w2.heap.size := by have := S1.out.hX; omega
  generalize w2.heap.size = X at *
  generalize hw3 : w2.alloc (.cells #[.int .i64 bs, .slice A' ls.length c'] 25) = w3 at *
  have D1 := Lib.hid S1.out.drew
  have DO := Lib.hid (show OwnT w3.drew (w.heap.size + 1) (.slice As ts.length cs) ts from O1.out)
  have DU := Lib.hid (show RowUB w3.drew (w.heap.size + 1) Au us.length us from U1.out)
  have hk1 : IntKind.i64.wrap (bs + 1) = bs + 1 := IntWalk.i64_in _ (by omega)
  have hk2 := Lib.hid (show bs + 1 ≤ 1000000 by omega)
  have hk3 := Lib.hid (show lim + 250 ≤ 1000000 by omega)
  have hk4 := Lib.hid (show lim + 250 + 1 ≤ 1000000 by omega)
  have hlt := Lib.hid (show R < w.heap.size + 1 by omega)
  clear hw3 S1 O1 U1
  go_region_with (first
    | (go_at_call 38; refine (pick_any R 12 _ hk4.out (by decide) _ T1.out.rd).mono ?_; rintro e w5 ⟨vb, rfl, hd0, hd1, _, hr5, hg5⟩; have T2 := Lib.hid (T1.out.pick hr5 hg5); have O5 := Lib.hid (O4.out.pick hg5 hlt.out); have U5 := Lib.hid (U4.out.pick hg5 hlt.out); obtain ⟨p0, p1, p2, p3⟩ := T2.out.var.two; obtain ⟨q0, q1, q2, q3⟩ := T2.out.ret.two)
    | (go_at_call 38; refine (pick_any R _ _ hk3.out hk2.out _ D1.out.rd).mono ?_; rintro e w4 ⟨va, rfl, he0, he1, _, hr4, hg4⟩; have T1 := Lib.hid (D1.out.pick hr4 hg4); have O4 := Lib.hid (DO.out.pick hg4 hlt.out); have U4 := Lib.hid (DU.out.pick hg4 hlt.out); obtain ⟨p0, p1, p2, p3⟩ := T1.out.var.two; obtain ⟨q0, q1, q2, q3⟩ := T1.out.ret.two))
  all_goals clear hk1
  all_goals go_wp2_with fail
  all_goals
    obtain ⟨o4, r4, g4⟩ := T2.out.done (.int .i64 bs) (.slice A' ls.length c')
    refine bodyPost_ret (v := .tuple #[.agg #[.int .i64 bs, .slice A' ls.length c'], .slice As ts.length cs, .slice Au us.length cu, .int .i64 (IntKind.i64.wrap (va - IntKind.i64.wrap (vb.tdiv 11)))]) (by simp [results, Tryd.results26, go_sem, q0, q1]) rfl ⟨bs, A', c', ls, As, cs, ts, Au, cu, us, _, ⟨rfl, o4, hl, hb0, hb9, O5.out.far1 (by omega) _ _, hts, U5.out.far1 (by omega) _ _, hus⟩, r4.mono (by omega), g4⟩

/-- The answer of such a drawing: rows; with a number. -/
def Drawn3 (w : World) (e : Ending) (w' : World) : Prop := ∃ bs A c ls B d ts U r us, e = .returned (.tuple #[.agg #[.int .i64 bs, .slice A ls.length c], .slice B ts.length d, .slice U us.length r]) ∧ RowL w' A ls.length ls ∧ ls.length ≤ 12 ∧ -1 ≤ bs ∧ bs ≤ 9 ∧ RowT w' B ts.length ts ∧ ts.length ≤ 13 ∧ RowU w' U us.length us ∧ us.length ≤ 10 ∧ Below w.heap.size w w'
def Drawn4 (w : World) (e : Ending) (w' : World) : Prop := ∃ bs A c ls B d ts U r us bus, e = .returned (.tuple #[.agg #[.int .i64 bs, .slice A ls.length c], .slice B ts.length d, .slice U us.length r, .int .i64 bus]) ∧ RowL w' A ls.length ls ∧ ls.length ≤ 12 ∧ -1 ≤ bs ∧ bs ≤ 9 ∧ RowT w' B ts.length ts ∧ ts.length ≤ 13 ∧ RowU w' U us.length us ∧ us.length ≤ 10 ∧ Below w.heap.size w w'
theorem stored3 {w w1 w2 : World} {A B U : Option Addr} {c d n m r : Nat} {ls : List L3} {ts : List Bool} {us : List TU} (hb1 : Below (w.heap.size + 1) (w.alloc (.cells #[.int .i64 0, .slice none 0 0] 25)) w1) (hs : w.heap.size + 1 + 1 ≤ w1.heap.size)
    (ho : OwnL w2 (w1.heap.size + 1) (.slice A n c) ls) (hO : OwnT w2 (w1.heap.size + 1) (.slice B m d) ts) (hU : RowUB w2 (w1.heap.size + 1) U r us) (hg : w1.grownBy w2 (some (w.heap.size + 1))) (x y : Value) :
    RowL ((w2.setCell ⟨w.heap.size, 0, none⟩ x).setCell ⟨w.heap.size, 1, none⟩ y) A n ls ∧ RowT ((w2.setCell ⟨w.heap.size, 0, none⟩ x).setCell ⟨w.heap.size, 1, none⟩ y) B m ts ∧ RowU ((w2.setCell ⟨w.heap.size, 0, none⟩ x).setCell ⟨w.heap.size, 1, none⟩ y) U r us ∧ Below w.heap.size w ((w2.setCell ⟨w.heap.size, 0, none⟩ x).setCell ⟨w.heap.size, 1, none⟩ y) := by
  have h12 := hg.size
  have b1 : Below w.heap.size w w1 := (below_bx w _).trans (hb1.mono (by omega))
  have b2 := b1.grown hg (by omega) (fun q hq => by injection hq with hq; omega)
  exact ⟨(ho.far1 (by omega) _ _).rowL, (hO.far1 (by omega) _ _).rowT, (hU.far1 (by omega) _ _).1, (b2.setCell (Nat.le_refl _) _).setCell (Nat.le_refl _) _⟩

/-- The answer of such a drawing: rows of its own; with a number. -/
def DrawnB4 (w : World) (e : Ending) (w' : World) : Prop := ∃ bs A c ls B d ts U r us bus, DrawnB w w' e bs A c ls B d ts U r us bus ∧ Below w.heap.size w w'

end Go.Proofs.YtpmkeagdoehbhaaDoor

/- The drawings of FnLineFlow, FnFeedFlow, FnOverloads and FnNetGood. -/
namespace Go.Proofs.YtpmkeagdoehbhaaDoor
open Go.ChangeShapes Go.WideShapes Go.ChangeAt Go.RowKit

end Go.Proofs.YtpmkeagdoehbhaaDoor
