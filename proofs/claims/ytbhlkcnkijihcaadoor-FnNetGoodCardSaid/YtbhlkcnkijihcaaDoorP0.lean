/- Bridges, plain facts: a search in depth that keeps times, and what the least time behind a line says. -/
import Derived.Test.YtbhlkcnkijihcaaDoorBPC
namespace Go.Proofs.YtbhlkcnkijihcaaDoor
open Go.RowKit

/-- Line k is on and leads from u to v. -/
def Ln (ls : List L3) (ts : List Bool) (k u v : Nat) : Prop := ∃ l : L3, ls[k]? = some l ∧ ts[k]? = some true ∧ ((u = l.1.toNat ∧ v = l.2.1.toNat) ∨ (u = l.2.1.toNat ∧ v = l.1.toNat))
/-- Joined also without line k. -/
def CW (ls : List L3) (ts : List Bool) (k a b : Nat) : Prop := Conn (edgesOn ls (ts.set k false)) a b
section
variable {ls : List L3} {ts : List Bool} {j k u v a b c : Nat}
theorem Ln.symm (h : Ln ls ts k u v) : Ln ls ts k v u := by
  obtain ⟨l, h1, h2, h3⟩ := h
  exact ⟨l, h1, h2, h3.elim (fun ⟨x, y⟩ => .inr ⟨y, x⟩) (fun ⟨x, y⟩ => .inl ⟨y, x⟩)⟩
theorem Ln.two {u' v' : Nat} (h : Ln ls ts k u v) (h' : Ln ls ts k u' v') : (u' = u ∧ v' = v) ∨ (u' = v ∧ v' = u) := by
  obtain ⟨l, h1, _, h3⟩ := h
  obtain ⟨l', h1', _, h3'⟩ := h'
  rw [h1] at h1'; injection h1' with e; subst e
  omega
theorem Ln.len (h : Ln ls ts k u v) : k < ts.length := by
  obtain ⟨l, _, h2, _⟩ := h
  exact (List.getElem?_eq_some_iff.1 h2).1
theorem Ln.ne {bs : Int} (hv : netOk bs ls = true) (h : Ln ls ts k u v) : u ≠ v := by
  obtain ⟨l, h1, _, h3⟩ := h
  have h2 := netOk_line hv h1
  have h4 := lineOk_ne h2
  simp [lineOk, inB] at h2
  omega
theorem Ln.lt {bs : Int} (hv : netOk bs ls = true) (h : Ln ls ts k u v) : u < bs.toNat := by
  obtain ⟨l, h1, _, h3⟩ := h
  have h2 := netOk_line hv h1
  simp [lineOk, inB] at h2
  omega
theorem adj_cw : Adj (edgesOn ls (ts.set k false)) u v ↔ ∃ j, j ≠ k ∧ Ln ls ts j u v := by
  unfold Adj
  rw [mem_edgesOn, mem_edgesOn]
  have off : ∀ {j : Nat}, (ts.set k false)[j]? = some true → j ≠ k ∧ ts[j]? = some true := by
    intro j h
    by_cases hj : k = j
    · subst hj
      rw [List.getElem?_set] at h
      simp at h
    · rw [List.getElem?_set_ne hj] at h
      exact ⟨fun e => hj e.symm, h⟩
  constructor
  · rintro (⟨j, l, h1, h2, h3⟩ | ⟨j, l, h1, h2, h3⟩)
    · injection h3 with e1 e2
      exact ⟨j, (off h2).1, l, h1, (off h2).2, .inl ⟨e1, e2⟩⟩
    · injection h3 with e1 e2
      exact ⟨j, (off h2).1, l, h1, (off h2).2, .inr ⟨e2, e1⟩⟩
  · rintro ⟨j, hj, l, h1, h2, h3⟩
    have h2' : (ts.set k false)[j]? = some true := by rw [List.getElem?_set_ne (fun e => hj e.symm)]; exact h2
    rcases h3 with ⟨rfl, rfl⟩ | ⟨rfl, rfl⟩
    · exact .inl ⟨j, l, h1, h2', rfl⟩
    · exact .inr ⟨j, l, h1, h2', rfl⟩
theorem CW.refl (a : Nat) : CW ls ts k a a := Conn.refl a
theorem CW.symm (h : CW ls ts k a b) : CW ls ts k b a := Conn.symm h
theorem CW.trans (h : CW ls ts k a b) (h' : CW ls ts k b c) : CW ls ts k a c := Conn.trans h h'
theorem Ln.cw (h : Ln ls ts j u v) (hj : j ≠ k) : CW ls ts k u v := Conn.one (adj_cw.2 ⟨j, hj, h⟩)
theorem CW.closed {p : Nat → Prop} (h : CW ls ts k a b) (hp : ∀ j u v, j ≠ k → Ln ls ts j u v → p u → p v) (ha : p a) : p b := by
  refine Conn.closed (p := p) (fun e he => ?_) h ha
  obtain ⟨j, hj, hl⟩ := (adj_cw (u := e.1) (v := e.2)).1 (.inl he)
  exact ⟨hp j _ _ hj hl, hp j _ _ hj hl.symm⟩
end

/-- Between two calls of the search: t the times, Act the buses from which it goes on. -/
structure DInv (ls : List L3) (ts : List Bool) (t : Nat → Nat) (now : Nat) (br : Nat → Bool) (Act : List Nat) : Prop where
  le : ∀ b, t b ≤ now
  act : ∀ b ∈ Act, t b ≠ 0
  fin : ∀ j b v, Ln ls ts j b v → t b ≠ 0 → b ∉ Act → t v ≠ 0
  con : ∀ j u v, Ln ls ts j u v → t u = 0 → ∀ a ∈ Act, ∀ b ∈ Act, CW ls ts j a b
  off : ∀ j u v, Ln ls ts j u v → t u = 0 → br j = false
  ok : ∀ j u v, Ln ls ts j u v → t u ≠ 0 → u ∉ Act → t v ≠ 0 → v ∉ Act → (br j = true ↔ ¬ CW ls ts j u v)
/-- How the search came to the bus x. -/
def DTop (ls : List L3) (ts : List Bool) (Act : List Nat) (x : Nat) (by' : Int) : Prop := (Act = [] ∧ by' = -1) ∨ ∃ p k0 : Nat, by' = (k0 : Int) ∧ Ln ls ts k0 p x ∧ p ∈ Act
/-- In the search from x, before line k. -/
structure DLoop (ls : List L3) (ts : List Bool) (t0 : Nat → Nat) (now0 : Nat) (br0 : Nat → Bool) (x : Nat) (by' : Int) (Act : List Nat) (t : Nat → Nat) (now : Nat) (br : Nat → Bool) (least k : Nat) : Prop where
  inv : DInv ls ts t now br (x :: Act)
  keep : ∀ b, t0 b ≠ 0 → t b = t0 b
  new : ∀ b, t0 b = 0 → t b ≠ 0 → now0 < t b
  tx : t x = now0 + 1
  mono : now0 < now
  cc : ∀ v, t0 v = 0 → t v ≠ 0 → ∀ j u w, Ln ls ts j u w → (¬ (t0 u = 0 ∧ t u ≠ 0) ∨ (u = x ∧ k ≤ j)) → CW ls ts j x v
  low1 : ∀ v, t0 v = 0 → t v ≠ 0 → least ≤ t v
  low2 : ∀ v, t0 v = 0 → t v ≠ 0 → v ≠ x → ∀ j u, Ln ls ts j v u → least ≤ t u
  low3 : ∀ j u : Nat, j < k → Ln ls ts j x u → (j : Int) ≠ by' → least ≤ t u
  att : ∃ u, t u = least ∧ t u ≠ 0 ∧ (t0 u = 0 ∨ ∃ j v : Nat, (j : Int) ≠ by' ∧ t0 v = 0 ∧ t v ≠ 0 ∧ Ln ls ts j v u)
  seen : ∀ j u, j < k → Ln ls ts j x u → t u ≠ 0 ∧ (t0 u = 0 → (br j = true ↔ ¬ CW ls ts j x u))
  offx : ∀ j u, k ≤ j → Ln ls ts j x u → br j = false
  frame : ∀ j u v, Ln ls ts j u v → t0 u ≠ 0 → br j = br0 j
/-- Behind the search from x. -/
structure DPost (ls : List L3) (ts : List Bool) (t0 : Nat → Nat) (now0 : Nat) (br0 : Nat → Bool) (x : Nat) (by' : Int) (Act : List Nat) (t : Nat → Nat) (now : Nat) (br : Nat → Bool) (least : Nat) : Prop where
  inv : DInv ls ts t now br Act
  keep : ∀ b, t0 b ≠ 0 → t b = t0 b
  new : ∀ b, t0 b = 0 → t b ≠ 0 → now0 < t b
  vis : t x ≠ 0
  mono : now0 < now
  cc : ∀ v, t0 v = 0 → t v ≠ 0 → ∀ j u w, Ln ls ts j u w → ¬ (t0 u = 0 ∧ t u ≠ 0) → CW ls ts j x v
  low1 : ∀ v, t0 v = 0 → t v ≠ 0 → least ≤ t v
  low2 : ∀ v, t0 v = 0 → t v ≠ 0 → ∀ j u : Nat, (j : Int) ≠ by' → Ln ls ts j v u → least ≤ t u
  att : ∃ u, t u = least ∧ t u ≠ 0 ∧ (t0 u = 0 ∨ ∃ j v : Nat, (j : Int) ≠ by' ∧ t0 v = 0 ∧ t v ≠ 0 ∧ Ln ls ts j v u)
  frame : ∀ j u v, Ln ls ts j u v → t0 u ≠ 0 → br j = br0 j

section
variable {ls : List L3} {ts : List Bool} {t0 t t2 : Nat → Nat} {now0 now now2 : Nat} {br0 br br2 : Nat → Bool} {x k c o least least2 : Nat} {by' : Int} {Act : List Nat}
theorem dfs_start (h : DInv ls ts t0 now0 br0 Act) (hx : t0 x = 0) (ht : DTop ls ts Act x by') :
    DLoop ls ts t0 now0 br0 x by' Act (fun b => if b = x then now0 + 1 else t0 b) (now0 + 1) br0 (now0 + 1) 0 := by
  have hxa : x ∉ Act := fun e => h.act x e hx
  have only : ∀ v, t0 v = 0 → (if v = x then now0 + 1 else t0 v) ≠ 0 → v = x := by
    intro v h1 h2
    by_cases e : v = x
    · exact e
    · rw [if_neg e] at h2; exact absurd h1 h2
  have un : ∀ v, (if v = x then now0 + 1 else t0 v) = 0 → t0 v = 0 ∧ v ≠ x := by
    intro v h1
    by_cases e : v = x
    · rw [if_pos e] at h1; omega
    · rw [if_neg e] at h1; exact ⟨h1, e⟩
  refine ⟨⟨fun b => ?_, fun b hb => ?_, fun j b v hl hb hba => ?_, fun j u v hl hu a ha b hb => ?_, fun j u v hl hu => ?_, fun j u v hl hu hua hv2 hva => ?_⟩, fun b hb => ?_, fun b h1 h2 => ?_, by simp, by omega, fun v h1 h2 j u w _ _ => ?_, fun v h1 h2 => ?_, fun v h1 h2 h3 => ?_, fun j u h1 => absurd h1 (by omega), ⟨x, by simp, by simp, .inl hx⟩, fun j u h1 => absurd h1 (by omega), fun j u _ hl => h.off j x u hl hx, fun j u v _ _ => rfl⟩
  · have := h.le b
    split <;> omega
  · by_cases e : b = x
    · rw [if_pos e]; omega
    · rw [if_neg e]
      rcases List.mem_cons.1 hb with e2 | e2
      · exact absurd e2 e
      · exact h.act b e2
  · have hbx : b ≠ x := fun e => hba (e ▸ List.mem_cons_self)
    simp only [if_neg hbx] at hb
    have := h.fin j b v hl hb (fun e => hba (List.mem_cons_of_mem _ e))
    split <;> omega
  · obtain ⟨hu0, hux⟩ := un u hu
    -- the bus x is joined to the buses from which the search goes on
    have key : ∀ a ∈ Act, CW ls ts j x a := by
      intro a ha
      rcases ht with ⟨e, _⟩ | ⟨p, k0, _, hk0, hp⟩
      · rw [e] at ha; cases ha
      · have hjk : k0 ≠ j := by
          intro e
          subst e
          have hp0 := h.act p hp
          rcases hk0.two hl with ⟨e1, e2⟩ | ⟨e1, e2⟩
          · rw [e1] at hu0; exact hp0 hu0
          · exact hux e1
        exact (hk0.symm.cw hjk).trans (h.con j u v hl hu0 p hp a ha)
    rcases List.mem_cons.1 ha with ea | ea <;> rcases List.mem_cons.1 hb with eb | eb
    · rw [ea, eb]; exact CW.refl _
    · rw [ea]; exact key b eb
    · rw [eb]; exact (key a ea).symm
    · exact h.con j u v hl hu0 a ea b eb
  · exact h.off j u v hl (un u hu).1
  · have e1 : u ≠ x := fun e => hua (e ▸ List.mem_cons_self)
    have e2 : v ≠ x := fun e => hva (e ▸ List.mem_cons_self)
    simp only [if_neg e1] at hu
    simp only [if_neg e2] at hv2
    exact h.ok j u v hl hu (fun e => hua (List.mem_cons_of_mem _ e)) hv2 (fun e => hva (List.mem_cons_of_mem _ e))
  · have e : b ≠ x := fun e => hb (e ▸ hx)
    simp only [if_neg e]
  · rw [only b h1 h2]; simp
  · rw [only v h1 h2]; exact CW.refl _
  · rw [only v h1 h2]; simp
  · exact absurd (only v h1 h2) h3
theorem DLoop.x0 (h : DLoop ls ts t0 now0 br0 x by' Act t now br least k) (h0 : DInv ls ts t0 now0 br0 Act) : t0 x = 0 := by
  rcases Nat.eq_zero_or_pos (t0 x) with e | e
  · exact e
  · have := h.keep x (by omega)
    have := h.tx
    have := h0.le x
    omega
theorem DLoop.vis (h : DLoop ls ts t0 now0 br0 x by' Act t now br least k) : t x ≠ 0 := by
  have := h.tx; omega
/-- A line over which the search does not go. -/
theorem dfs_skip (h0 : DInv ls ts t0 now0 br0 Act) (ht : DTop ls ts Act x by') (h : DLoop ls ts t0 now0 br0 x by' Act t now br least k) (hs : ∀ u, Ln ls ts k x u → (k : Int) = by') : DLoop ls ts t0 now0 br0 x by' Act t now br least (k + 1) := by
  have hx0 := h.x0 h0
  refine ⟨h.inv, h.keep, h.new, h.tx, h.mono, fun v h1 h2 j u w hl hc => h.cc v h1 h2 j u w hl (hc.imp id fun ⟨e, hk⟩ => ⟨e, by omega⟩), h.low1, h.low2, fun j u hj hl hb => ?_, h.att, fun j u hj hl => ?_, fun j u hj hl => h.offx j u (by omega) hl, h.frame⟩
  · by_cases e : j = k
    · rw [e] at hl hb; exact absurd (hs u hl) hb
    · exact h.low3 j u (by omega) hl hb
  · by_cases e : j = k
    · rw [e] at hl
      have hb := hs u hl
      rcases ht with ⟨_, e2⟩ | ⟨p, k0, e2, hk0, hp⟩
      · omega
      · have e3 : k0 = k := by omega
        rw [e3] at hk0
        have hp0 := h0.act p hp
        have hup : u = p := by
          rcases hk0.two hl with ⟨e1, _⟩ | ⟨_, e1⟩
          · rw [← e1] at hp0; exact absurd hx0 hp0
          · exact e1
        rw [hup, h.keep p hp0]
        exact ⟨hp0, fun e4 => absurd e4 hp0⟩
    · exact h.seen j u (by omega) hl
/-- A line that leads to a bus to which the search has come. -/
theorem dfs_back (h : DLoop ls ts t0 now0 br0 x by' Act t now br least k) (hl : Ln ls ts k x o) (hb : (k : Int) ≠ by') (ho : t o ≠ 0) (h0 : DInv ls ts t0 now0 br0 Act) : DLoop ls ts t0 now0 br0 x by' Act t now br (min least (t o)) (k + 1) := by
  have hx0 := h.x0 h0
  have hxv := h.vis
  have uniq : ∀ u, Ln ls ts k x u → u = o := by
    intro u hu
    rcases hl.two hu with ⟨_, e⟩ | ⟨e1, e2⟩
    · exact e
    · exact e2.trans e1
  refine ⟨h.inv, h.keep, h.new, h.tx, h.mono, fun v h1 h2 j u w hl hc => h.cc v h1 h2 j u w hl (hc.imp id fun ⟨e, hk⟩ => ⟨e, by omega⟩), fun v h1 h2 => Nat.le_trans (Nat.min_le_left _ _) (h.low1 v h1 h2), fun v h1 h2 h3 j u h4 => Nat.le_trans (Nat.min_le_left _ _) (h.low2 v h1 h2 h3 j u h4), fun j u hj hl' hb' => ?_, ?_, fun j u hj hl' => ?_, fun j u hj hl => h.offx j u (by omega) hl, h.frame⟩
  · by_cases e : j = k
    · subst e
      rw [uniq u hl']; exact Nat.min_le_right _ _
    · exact Nat.le_trans (Nat.min_le_left _ _) (h.low3 j u (by omega) hl' hb')
  · rcases Nat.le_total least (t o) with e | e
    · rw [Nat.min_eq_left e]; exact h.att
    · rw [Nat.min_eq_right e]
      exact ⟨o, rfl, ho, .inr ⟨k, x, hb, hx0, hxv, hl⟩⟩
  · by_cases e : j = k
    · subst e
      rw [uniq u hl']
      refine ⟨ho, fun ho0 => ?_⟩
      rw [h.offx j o (Nat.le_refl _) hl]
      have := h.cc o ho0 ho j x o hl (.inr ⟨rfl, Nat.le_refl _⟩)
      simp [this]
    · exact h.seen j u (by omega) hl'
/-- What the least time behind a line says of it. -/
theorem dfs_bridge (h : DLoop ls ts t0 now0 br0 x by' Act t now br least k) (hl : Ln ls ts k x c) (hc : t c = 0) (h0 : DInv ls ts t0 now0 br0 Act) (p : DPost ls ts t now br c (k : Int) (x :: Act) t2 now2 br2 least2) : t2 x < least2 ↔ ¬ CW ls ts k x c := by
  have hxv := h.vis
  have hx2 := p.keep x hxv
  have hxn := h.inv.le x
  have actv : ∀ a ∈ x :: Act, t a ≤ t x := by
    intro a ha
    rcases List.mem_cons.1 ha with e | e
    · rw [e]; exact Nat.le_refl _
    · have h1 := h0.act a e
      have h2 := h.keep a h1
      have h3 := h0.le a
      have := h.tx
      omega
  -- whoever has come to a bus behind the line from outside is one from which the search goes on
  have isact : ∀ j u v, Ln ls ts j v u → t v = 0 → t u ≠ 0 → u ∈ x :: Act := by
    intro j u v hl hv0 hu
    by_cases hm : u ∈ x :: Act
    · exact hm
    · exact absurd hv0 (h.inv.fin j u v hl.symm hu hm)
  have nact : ∀ v, t v = 0 → v ∉ x :: Act := fun v hv0 hm => h.inv.act v hm hv0
  constructor
  · intro hlt hcw
    have := CW.closed (p := fun b => t b = 0 ∧ t2 b ≠ 0) hcw.symm (fun j u v hj hl' hu => ?_) ⟨hc, p.vis⟩
    · exact hxv this.1
    · have hv2 : t2 v ≠ 0 := p.inv.fin j u v hl' hu.2 (nact u hu.1)
      refine ⟨?_, hv2⟩
      rcases Nat.eq_zero_or_pos (t v) with e | e
      · exact e
      · have h1 := isact j v u hl' hu.1 (by omega)
        have h2 := actv v h1
        have h3 := p.keep v (by omega)
        have h4 := p.low2 u hu.1 hu.2 j v (by omega) hl'
        omega
  · intro hn
    rcases Nat.lt_or_ge (t2 x) least2 with e | e
    · exact e
    exfalso
    apply hn
    obtain ⟨u, hu, hu2, hu3⟩ := p.att
    have hold : t u ≠ 0 := by
      intro e2
      have := p.new u e2 hu2
      omega
    rcases hu3 with e2 | ⟨j, v, hj, hv0, hv2, hl'⟩
    · exact absurd e2 hold
    · have h1 := isact j u v hl' hv0 hold
      have c1 : CW ls ts k u x := h.inv.con k c x hl.symm hc u h1 x List.mem_cons_self
      have c2 : CW ls ts k c v := p.cc v hv0 hv2 k x c hl (fun e => hxv e.1)
      have c3 : CW ls ts k v u := hl'.cw (by omega)
      exact (c2.trans (c3.trans c1)).symm
/-- A line over which the search went on. -/
theorem dfs_down (h0 : DInv ls ts t0 now0 br0 Act) (ht : DTop ls ts Act x by') (h : DLoop ls ts t0 now0 br0 x by' Act t now br least k) (hl : Ln ls ts k x c) (hc : t c = 0) (p : DPost ls ts t now br c (k : Int) (x :: Act) t2 now2 br2 least2) :
    DLoop ls ts t0 now0 br0 x by' Act t2 now2 (fun j => if j = k then decide (t2 x < least2) else br2 j) (min least least2) (k + 1) := by
  have hx0 := h.x0 h0
  have hxv := h.vis
  have hbr := dfs_bridge h hl hc h0 p
  have hmn := h.mono
  have hc0 : t0 c = 0 := by
    rcases Nat.eq_zero_or_pos (t0 c) with e | e
    · exact e
    · have := h.keep c (by omega); omega
  have k0 : ∀ {b}, t0 b ≠ 0 → t b ≠ 0 := fun {b} e => by rw [h.keep b e]; exact e
  have k1 : ∀ {b}, t b ≠ 0 → t2 b ≠ 0 := fun {b} e => by rw [p.keep b e]; exact e
  have z0 : ∀ {b}, t b = 0 → t0 b = 0 := fun {b} e => by
    rcases Nat.eq_zero_or_pos (t0 b) with e2 | e2
    · exact e2
    · exact absurd e (k0 (by omega))
  have uniq : ∀ u, Ln ls ts k x u → u = c := by
    intro u hu
    rcases hl.two hu with ⟨_, e⟩ | ⟨e1, e2⟩
    · exact e
    · exact e2.trans e1
  -- both ends of line k have been come to, and neither before this search
  have ends : ∀ u v, Ln ls ts k u v → (u = x ∨ u = c) := fun u v hu => (hl.two hu).imp (·.1) (·.1)
  have ends0 : ∀ u v, Ln ls ts k u v → t0 u = 0 ∧ t2 u ≠ 0 := by
    intro u v hu
    rcases ends u v hu with e | e
    · rw [e]; exact ⟨hx0, k1 hxv⟩
    · rw [e]; exact ⟨hc0, p.vis⟩
  have nact : ∀ v, t0 v = 0 → v ≠ x → v ∉ x :: Act := by
    intro v hv0 hvx hm
    rcases List.mem_cons.1 hm with e | e
    · exact hvx e
    · exact h0.act v e hv0
  refine ⟨⟨p.inv.le, p.inv.act, p.inv.fin, p.inv.con, fun j u v hl' hu => ?_, fun j u v hl' hu hua hv2 hva => ?_⟩, fun b hb0 => ?_, fun b hb0 hb2 => ?_, ?_, ?_, fun v hv0 hv2 j u w hl' hcd => ?_, fun v hv0 hv2 => ?_, fun v hv0 hv2 hvx j u hl' => ?_, fun j u hj hl' hb' => ?_, ?_, fun j u hj hl' => ?_, fun j u hj hl' => ?_, fun j u v hl' hu => ?_⟩
  · have e : j ≠ k := fun e => (ends0 u v (e ▸ hl')).2 hu
    simp only [if_neg e]
    exact p.inv.off j u v hl' hu
  · have e : j ≠ k := by
      intro e
      rw [e] at hl'
      rcases hl.two hl' with ⟨e1, _⟩ | ⟨_, e2⟩
      · exact hua (e1 ▸ List.mem_cons_self)
      · exact hva (e2 ▸ List.mem_cons_self)
    simp only [if_neg e]
    exact p.inv.ok j u v hl' hu hua hv2 hva
  · rw [p.keep b (k0 hb0), h.keep b hb0]
  · rcases Nat.eq_zero_or_pos (t b) with e | e
    · have := p.new b e hb2; omega
    · rw [p.keep b (by omega)]; exact h.new b hb0 (by omega)
  · rw [p.keep x hxv, h.tx]
  · have := p.mono; omega
  · have hjk : j ≠ k := by
      intro e
      rcases hcd with hcd | ⟨_, hcd⟩
      · exact hcd (ends0 u w (e ▸ hl'))
      · omega
    rcases Nat.eq_zero_or_pos (t v) with e | e
    · refine (hl.cw (fun e => hjk e.symm)).trans (p.cc v e hv2 j u w hl' fun ⟨e1, e2⟩ => ?_)
      rcases hcd with hcd | ⟨hcd, _⟩
      · exact hcd ⟨z0 e1, e2⟩
      · rw [hcd] at e1; exact hxv e1
    · refine h.cc v hv0 (by omega) j u w hl' (hcd.imp (fun hn ⟨e1, e2⟩ => hn ⟨e1, k1 e2⟩) fun ⟨e1, e2⟩ => ⟨e1, by omega⟩)
  · rcases Nat.eq_zero_or_pos (t v) with e | e
    · exact Nat.le_trans (Nat.min_le_right _ _) (p.low1 v e hv2)
    · rw [p.keep v (by omega)]; exact Nat.le_trans (Nat.min_le_left _ _) (h.low1 v hv0 (by omega))
  · rcases Nat.eq_zero_or_pos (t v) with e | e
    · by_cases hjk : j = k
      · rw [hjk] at hl'
        have hux : u = x := by
          rcases hl.two hl' with ⟨e1, _⟩ | ⟨_, e1⟩
          · exact absurd e1 hvx
          · exact e1
        rw [hux, p.keep x hxv]
        exact Nat.le_trans (Nat.min_le_left _ _) (h.low1 x hx0 hxv)
      · exact Nat.le_trans (Nat.min_le_right _ _) (p.low2 v e hv2 j u (by omega) hl')
    · have hu := h.inv.fin j v u hl' (by omega) (nact v hv0 hvx)
      rw [p.keep u hu]
      exact Nat.le_trans (Nat.min_le_left _ _) (h.low2 v hv0 (by omega) hvx j u hl')
  · by_cases hjk : j = k
    · rw [hjk] at hl'
      rw [uniq u hl']
      exact Nat.le_trans (Nat.min_le_right _ _) (p.low1 c hc p.vis)
    · have hu := (h.seen j u (by omega) hl').1
      rw [p.keep u hu]
      exact Nat.le_trans (Nat.min_le_left _ _) (h.low3 j u (by omega) hl' hb')
  · rcases Nat.le_total least least2 with e | e
    · rw [Nat.min_eq_left e]
      obtain ⟨u, h1, h2, h3⟩ := h.att
      refine ⟨u, by rw [p.keep u h2, h1], k1 h2, h3.imp id fun ⟨j, v, e1, e2, e3, e4⟩ => ⟨j, v, e1, e2, k1 e3, e4⟩⟩
    · rw [Nat.min_eq_right e]
      obtain ⟨u, h1, h2, h3⟩ := p.att
      refine ⟨u, h1, h2, h3.elim (fun e => .inl (z0 e)) fun ⟨j, v, e1, e2, e3, e4⟩ => .inr ⟨j, v, ?_, z0 e2, e3, e4⟩⟩
      intro ej
      rcases ht with ⟨_, e5⟩ | ⟨q, k9, e5, hk9, hq⟩
      · omega
      · have ejk : k9 = j := by omega
        rw [ejk] at hk9
        rcases hk9.two e4 with ⟨e6, _⟩ | ⟨e6, _⟩
        · rw [e6] at e2; exact k0 (h0.act q hq) e2
        · rw [e6] at e2; exact hxv e2
  · by_cases hjk : j = k
    · rw [hjk] at hl' ⊢
      rw [uniq u hl']
      refine ⟨p.vis, fun _ => ?_⟩
      simp only [if_pos, decide_eq_true_eq]
      exact hbr
    · obtain ⟨s1, s2⟩ := h.seen j u (by omega) hl'
      refine ⟨k1 s1, fun e => ?_⟩
      simp only [if_neg hjk]
      rw [p.frame j x u hl' hxv]
      exact s2 e
  · have hjk : j ≠ k := by omega
    simp only [if_neg hjk]
    rw [p.frame j x u hl' hxv]
    exact h.offx j u (by omega) hl'
  · have hjk : j ≠ k := fun e => hu (ends0 u v (e ▸ hl')).1
    simp only [if_neg hjk]
    rw [p.frame j u v hl' (k0 hu)]
    exact h.frame j u v hl' hu
theorem dfs_end (h0 : DInv ls ts t0 now0 br0 Act) (h : DLoop ls ts t0 now0 br0 x by' Act t now br least ts.length) : DPost ls ts t0 now0 br0 x by' Act t now br least := by
  have hx0 := h.x0 h0
  have hxv := h.vis
  have vis0 : ∀ v, v ∉ Act → ∀ j, Ln ls ts j x v → t0 v = 0 := by
    intro v hva j hl
    rcases Nat.eq_zero_or_pos (t0 v) with e | e
    · exact e
    · exact absurd hx0 (h0.fin j v x hl.symm (by omega) hva)
  have ncons : ∀ u, u ∉ Act → u ≠ x → u ∉ x :: Act := fun u h1 h2 hm => (List.mem_cons.1 hm).elim h2 h1
  refine ⟨⟨h.inv.le, fun b hb => h.inv.act b (List.mem_cons_of_mem _ hb), fun j b v hl hb hba => ?_, fun j u v hl hu a ha b hb => h.inv.con j u v hl hu a (List.mem_cons_of_mem _ ha) b (List.mem_cons_of_mem _ hb), h.inv.off, fun j u v hl hu hua hv2 hva => ?_⟩, h.keep, h.new, hxv, h.mono, fun v h1 h2 j u w hl hc => h.cc v h1 h2 j u w hl (.inl hc), h.low1, fun v h1 h2 j u hj hl => ?_, h.att, h.frame⟩
  · by_cases e : b = x
    · rw [e] at hl; exact (h.seen j v hl.len hl).1
    · exact h.inv.fin j b v hl hb (ncons b hba e)
  · by_cases e : u = x
    · rw [e] at hl ⊢
      exact (h.seen j v hl.len hl).2 (vis0 v hva j hl)
    · by_cases e2 : v = x
      · rw [e2] at hl ⊢
        rw [(h.seen j u hl.symm.len hl.symm).2 (vis0 u hua j hl.symm)]
        exact not_congr ⟨CW.symm, CW.symm⟩
      · exact h.inv.ok j u v hl hu (ncons u hua e) hv2 (ncons v hva e2)
  · by_cases e : v = x
    · rw [e] at hl; exact h.low3 j u hl.len hl hj
    · exact h.low2 v h1 h2 e j u hl
/-- Before the first search. -/
theorem dfs_none (ls : List L3) (ts : List Bool) : DInv ls ts (fun _ => 0) 0 (fun _ => false) [] :=
  ⟨fun _ => Nat.le_refl _, fun _ h => (nomatch h), fun _ _ _ _ h => absurd rfl h, fun _ _ _ _ _ _ h => (nomatch h), fun _ _ _ _ _ => rfl, fun _ _ _ _ h => absurd rfl h⟩
/-- How many buses are left. -/
def leftN (t : Nat → Nat) (nb : Nat) : Nat := (List.range nb).countP fun b => t b == 0
theorem leftN_le {t t' : Nat → Nat} {nb : Nat} (h : ∀ b, t b ≠ 0 → t' b ≠ 0) : leftN t' nb ≤ leftN t nb := by
  unfold leftN
  apply List.countP_mono_left
  intro b _ hb
  simp only [beq_iff_eq] at hb ⊢
  rcases Nat.eq_zero_or_pos (t b) with e | e
  · exact e
  · exact absurd hb (h b (by omega))
theorem leftN_lt {t t' : Nat → Nat} {x : Nat} : ∀ {nb : Nat}, (∀ b, t b ≠ 0 → t' b ≠ 0) → t x = 0 → t' x ≠ 0 → x < nb → leftN t' nb < leftN t nb
  | 0, _, _, _, h => absurd h (by omega)
  | nb + 1, h, h1, h2, h3 => by
    have e : ∀ t : Nat → Nat, leftN t (nb + 1) = leftN t nb + (if t nb = 0 then 1 else 0) := by
      intro t
      unfold leftN
      rw [List.range_succ, List.countP_append, List.countP_cons, List.countP_nil]
      simp [beq_iff_eq]
    rw [e, e]
    by_cases hx : x = nb
    · subst hx
      have := leftN_le (nb := x) h
      rw [if_pos h1, if_neg h2]; omega
    · have ih := leftN_lt (nb := nb) h h1 h2 (by omega)
      have := h nb
      split <;> split <;> omega
end
end Go.Proofs.YtbhlkcnkijihcaaDoor
