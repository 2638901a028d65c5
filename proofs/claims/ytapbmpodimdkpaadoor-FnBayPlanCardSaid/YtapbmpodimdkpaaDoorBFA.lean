/- Texts joined: Bridges, plain facts: a search in depth that keeps times, and what the least time behind a line says; Cycles, plain facts: lines of cycles, bridges, spanning lines; how many there are; Radial networks, plain facts: ways from the feeds, and the line by which a bus is fed; Radial networks, plain facts: passes over the lines that mark what is fed; Radial networks, plain facts: a search from all feeds at once, with a queue. -/
import Derived.Test.YtapbmpodimdkpaaDoorBPC
import Derived.Test.YtapbmpodimdkpaaDoorBCC

/- Bridges, plain facts: a search in depth that keeps times, and what the least time behind a line says. -/
namespace Go.Proofs.YtapbmpodimdkpaaDoor
open Go.RowKit

/-- Line k is on and leads from u to v. -/
def Ln (ls : List L3) (ts : List Bool) (k u v : Nat) : Prop := ∃ l : L3, ls[k]? = some l ∧ ts[k]? = some true ∧ ((u = l.1.toNat ∧ v = l.2.1.toNat) ∨ (u = l.2.1.toNat ∧ v = l.1.toNat))
/-- Joined also without line k. -/
def CW (ls : List L3) (ts : List Bool) (k a b : Nat) : Prop := Conn (edgesOn ls (ts.set k false)) a b
section
variable {ls : List L3} {ts : List Bool} {j k u v a b c : Nat}
theorem Ln.symm (h : Ln ls ts k u v) : Ln ls ts k v u := by
  obtain ⟨l, h1, h2, h3⟩ := h
  exact ⟨l, h1, h2, h3.elim (fun ⟨x, y⟩ => .inr ⟨y, x⟩) (fun ⟨x, y⟩ => .inl ⟨y, x⟩)⟩
theorem Ln.two {u' v' : Nat} (h : Ln ls ts k u v) (h' : Ln ls ts k u' v') : (u' = u ∧ v' = v) ∨ (u' = v ∧ v' = u) := by
  obtain ⟨l, h1, _, h3⟩ := h
  obtain ⟨l', h1', _, h3'⟩ := h'
  rw [h1] at h1'; injection h1' with e; subst e
  omega
theorem Ln.len (h : Ln ls ts k u v) : k < ts.length := by
  obtain ⟨l, _, h2, _⟩ := h
  exact (List.getElem?_eq_some_iff.1 h2).1
theorem Ln.ne {bs : Int} (hv : netOk bs ls = true) (h : Ln ls ts k u v) : u ≠ v := by
  obtain ⟨l, h1, _, h3⟩ := h
  have h2 := netOk_line hv h1
  have h4 := lineOk_ne h2
  simp [lineOk, inB] at h2
  omega
theorem Ln.lt {bs : Int} (hv : netOk bs ls = true) (h : Ln ls ts k u v) : u < bs.toNat := by
  obtain ⟨l, h1, _, h3⟩ := h
  have h2 := netOk_line hv h1
  simp [lineOk, inB] at h2
  omega
theorem adj_cw : Adj (edgesOn ls (ts.set k false)) u v ↔ ∃ j, j ≠ k ∧ Ln ls ts j u v := by
  unfold Adj
  rw [mem_edgesOn, mem_edgesOn]
  have off : ∀ {j : Nat}, (ts.set k false)[j]? = some true → j ≠ k ∧ ts[j]? = some true := by
    intro j h
    by_cases hj : k = j
    · subst hj
      rw [List.getElem?_set] at h
      simp at h
    · rw [List.getElem?_set_ne hj] at h
      exact ⟨fun e => hj e.symm, h⟩
  constructor
  · rintro (⟨j, l, h1, h2, h3⟩ | ⟨j, l, h1, h2, h3⟩)
    · injection h3 with e1 e2
      exact ⟨j, (off h2).1, l, h1, (off h2).2, .inl ⟨e1, e2⟩⟩
    · injection h3 with e1 e2
      exact ⟨j, (off h2).1, l, h1, (off h2).2, .inr ⟨e2, e1⟩⟩
  · rintro ⟨j, hj, l, h1, h2, h3⟩
    have h2' : (ts.set k false)[j]? = some true := by rw [List.getElem?_set_ne (fun e => hj e.symm)]; exact h2
    rcases h3 with ⟨rfl, rfl⟩ | ⟨rfl, rfl⟩
    · exact .inl ⟨j, l, h1, h2', rfl⟩
    · exact .inr ⟨j, l, h1, h2', rfl⟩
theorem CW.refl (a : Nat) : CW ls ts k a a := Conn.refl a
theorem CW.symm (h : CW ls ts k a b) : CW ls ts k b a := Conn.symm h
theorem CW.trans (h : CW ls ts k a b) (h' : CW ls ts k b c) : CW ls ts k a c := Conn.trans h h'
theorem Ln.cw (h : Ln ls ts j u v) (hj : j ≠ k) : CW ls ts k u v := Conn.one (adj_cw.2 ⟨j, hj, h⟩)
theorem CW.closed {p : Nat → Prop} (h : CW ls ts k a b) (hp : ∀ j u v, j ≠ k → Ln ls ts j u v → p u → p v) (ha : p a) : p b := by
  refine Conn.closed (p := p) (fun e he => ?_) h ha
  obtain ⟨j, hj, hl⟩ := (adj_cw (u := e.1) (v := e.2)).1 (.inl he)
  exact ⟨hp j _ _ hj hl, hp j _ _ hj hl.symm⟩
end

/-- Between two calls of the search: t the times, Act the buses from which it goes on. -/
structure DInv (ls : List L3) (ts : List Bool) (t : Nat → Nat) (now : Nat) (br : Nat → Bool) (Act : List Nat) : Prop where
  le : ∀ b, t b ≤ now
  act : ∀ b ∈ Act, t b ≠ 0
  fin : ∀ j b v, Ln ls ts j b v → t b ≠ 0 → b ∉ Act → t v ≠ 0
  con : ∀ j u v, Ln ls ts j u v → t u = 0 → ∀ a ∈ Act, ∀ b ∈ Act, CW ls ts j a b
  off : ∀ j u v, Ln ls ts j u v → t u = 0 → br j = false
  ok : ∀ j u v, Ln ls ts j u v → t u ≠ 0 → u ∉ Act → t v ≠ 0 → v ∉ Act → (br j = true ↔ ¬ CW ls ts j u v)
/-- How the search came to the bus x. -/
def DTop (ls : List L3) (ts : List Bool) (Act : List Nat) (x : Nat) (by' : Int) : Prop := (Act = [] ∧ by' = -1) ∨ ∃ p k0 : Nat, by' = (k0 : Int) ∧ Ln ls ts k0 p x ∧ p ∈ Act
/-- In the search from x, before line k. -/
structure DLoop (ls : List L3) (ts : List Bool) (t0 : Nat → Nat) (now0 : Nat) (br0 : Nat → Bool) (x : Nat) (by' : Int) (Act : List Nat) (t : Nat → Nat) (now : Nat) (br : Nat → Bool) (least k : Nat) : Prop where
  inv : DInv ls ts t now br (x :: Act)
  keep : ∀ b, t0 b ≠ 0 → t b = t0 b
  new : ∀ b, t0 b = 0 → t b ≠ 0 → now0 < t b
  tx : t x = now0 + 1
  mono : now0 < now
  cc : ∀ v, t0 v = 0 → t v ≠ 0 → ∀ j u w, Ln ls ts j u w → (¬ (t0 u = 0 ∧ t u ≠ 0) ∨ (u = x ∧ k ≤ j)) → CW ls ts j x v
  low1 : ∀ v, t0 v = 0 → t v ≠ 0 → least ≤ t v
  low2 : ∀ v, t0 v = 0 → t v ≠ 0 → v ≠ x → ∀ j u, Ln ls ts j v u → least ≤ t u
  low3 : ∀ j u : Nat, j < k → Ln ls ts j x u → (j : Int) ≠ by' → least ≤ t u
  att : ∃ u, t u = least ∧ t u ≠ 0 ∧ (t0 u = 0 ∨ ∃ j v : Nat, (j : Int) ≠ by' ∧ t0 v = 0 ∧ t v ≠ 0 ∧ Ln ls ts j v u)
  seen : ∀ j u, j < k → Ln ls ts j x u → t u ≠ 0 ∧ (t0 u = 0 → (br j = true ↔ ¬ CW ls ts j x u))
  offx : ∀ j u, k ≤ j → Ln ls ts j x u → br j = false
  frame : ∀ j u v, Ln ls ts j u v → t0 u ≠ 0 → br j = br0 j
/-- Behind the search from x. -/
structure DPost (ls : List L3) (ts : List Bool) (t0 : Nat → Nat) (now0 : Nat) (br0 : Nat → Bool) (x : Nat) (by' : Int) (Act : List Nat) (t : Nat → Nat) (now : Nat) (br : Nat → Bool) (least : Nat) : Prop where
  inv : DInv ls ts t now br Act
  keep : ∀ b, t0 b ≠ 0 → t b = t0 b
  new : ∀ b, t0 b = 0 → t b ≠ 0 → now0 < t b
  vis : t x ≠ 0
  mono : now0 < now
  cc : ∀ v, t0 v = 0 → t v ≠ 0 → ∀ j u w, Ln ls ts j u w → ¬ (t0 u = 0 ∧ t u ≠ 0) → CW ls ts j x v
  low1 : ∀ v, t0 v = 0 → t v ≠ 0 → least ≤ t v
  low2 : ∀ v, t0 v = 0 → t v ≠ 0 → ∀ j u : Nat, (j : Int) ≠ by' → Ln ls ts j v u → least ≤ t u
  att : ∃ u, t u = least ∧ t u ≠ 0 ∧ (t0 u = 0 ∨ ∃ j v : Nat, (j : Int) ≠ by' ∧ t0 v = 0 ∧ t v ≠ 0 ∧ Ln ls ts j v u)
  frame : ∀ j u v, Ln ls ts j u v → t0 u ≠ 0 → br j = br0 j

section
variable {ls : List L3} {ts : List Bool} {t0 t t2 : Nat → Nat} {now0 now now2 : Nat} {br0 br br2 : Nat → Bool} {x k c o least least2 : Nat} {by' : Int} {Act : List Nat}
theorem dfs_start (h : DInv ls ts t0 now0 br0 Act) (hx : t0 x = 0) (ht : DTop ls ts Act x by') :
    DLoop ls ts t0 now0 br0 x by' Act (fun b => if b = x then now0 + 1 else t0 b) (now0 + 1) br0 (now0 + 1) 0 := by
  have hxa : x ∉ Act := fun e => h.act x e hx
  have only : ∀ v, t0 v = 0 → (if v = x then now0 + 1 else t0 v) ≠ 0 → v = x := by
    intro v h1 h2
    by_cases e : v = x
    · exact e
    · rw [if_neg e] at h2; exact absurd h1 h2
  have un : ∀ v, (if v = x then now0 + 1 else t0 v) = 0 → t0 v = 0 ∧ v ≠ x := by
    intro v h1
    by_cases e : v = x
    · rw [if_pos e] at h1; omega
    · rw [if_neg e] at h1; exact ⟨h1, e⟩
  refine ⟨⟨fun b => ?_, fun b hb => ?_, fun j b v hl hb hba => ?_, fun j u v hl hu a ha b hb => ?_, fun j u v hl hu => ?_, fun j u v hl hu hua hv2 hva => ?_⟩, fun b hb => ?_, fun b h1 h2 => ?_, by simp, by omega, fun v h1 h2 j u w _ _ => ?_, fun v h1 h2 => ?_, fun v h1 h2 h3 => ?_, fun j u h1 => absurd h1 (by omega), ⟨x, by simp, by simp, .inl hx⟩, fun j u h1 => absurd h1 (by omega), fun j u _ hl => h.off j x u hl hx, fun j u v _ _ => rfl⟩
  · have := h.le b
    split <;> omega
  · by_cases e : b = x
    · rw [if_pos e]; omega
    · rw [if_neg e]
      rcases List.mem_cons.1 hb with e2 | e2
      · exact absurd e2 e
      · exact h.act b e2
  · have hbx : b ≠ x := fun e => hba (e ▸ List.mem_cons_self)
    simp only [if_neg hbx] at hb
    have := h.fin j b v hl hb (fun e => hba (List.mem_cons_of_mem _ e))
    split <;> omega
  · obtain ⟨hu0, hux⟩ := un u hu
    -- the bus x is joined to the buses from which the search goes on
    have key : ∀ a ∈ Act, CW ls ts j x a := by
      intro a ha
      rcases ht with ⟨e, _⟩ | ⟨p, k0, _, hk0, hp⟩
      · rw [e] at ha; cases ha
      · have hjk : k0 ≠ j := by
          intro e
          subst e
          have hp0 := h.act p hp
          rcases hk0.two hl with ⟨e1, e2⟩ | ⟨e1, e2⟩
          · rw [e1] at hu0; exact hp0 hu0
          · exact hux e1
        exact (hk0.symm.cw hjk).trans (h.con j u v hl hu0 p hp a ha)
    rcases List.mem_cons.1 ha with ea | ea <;> rcases List.mem_cons.1 hb with eb | eb
    · rw [ea, eb]; exact CW.refl _
    · rw [ea]; exact key b eb
    · rw [eb]; exact (key a ea).symm
    · exact h.con j u v hl hu0 a ea b eb
  · exact h.off j u v hl (un u hu).1
  · have e1 : u ≠ x := fun e => hua (e ▸ List.mem_cons_self)
    have e2 : v ≠ x := fun e => hva (e ▸ List.mem_cons_self)
    simp only [if_neg e1] at hu
    simp only [if_neg e2] at hv2
    exact h.ok j u v hl hu (fun e => hua (List.mem_cons_of_mem _ e)) hv2 (fun e => hva (List.mem_cons_of_mem _ e))
  · have e : b ≠ x := fun e => hb (e ▸ hx)
    simp only [if_neg e]
  · rw [only b h1 h2]; simp
  · rw [only v h1 h2]; exact CW.refl _
  · rw [only v h1 h2]; simp
  · exact absurd (only v h1 h2) h3
theorem DLoop.x0 (h : DLoop ls ts t0 now0 br0 x by' Act t now br least k) (h0 : DInv ls ts t0 now0 br0 Act) : t0 x = 0 := by
  rcases Nat.eq_zero_or_pos (t0 x) with e | e
  · exact e
  · have := h.keep x (by omega)
    have := h.tx
    have := h0.le x
    omega
theorem DLoop.vis (h : DLoop ls ts t0 now0 br0 x by' Act t now br least k) : t x ≠ 0 := by
  have := h.tx; omega
/-- A line over which the search does not go. -/
theorem dfs_skip (h0 : DInv ls ts t0 now0 br0 Act) (ht : DTop ls ts Act x by') (h : DLoop ls ts t0 now0 br0 x by' Act t now br least k) (hs : ∀ u, Ln ls ts k x u → (k : Int) = by') : DLoop ls ts t0 now0 br0 x by' Act t now br least (k + 1) := by
  have hx0 := h.x0 h0
  refine ⟨h.inv, h.keep, h.new, h.tx, h.mono, fun v h1 h2 j u w hl hc => h.cc v h1 h2 j u w hl (hc.imp id fun ⟨e, hk⟩ => ⟨e, by omega⟩), h.low1, h.low2, fun j u hj hl hb => ?_, h.att, fun j u hj hl => ?_, fun j u hj hl => h.offx j u (by omega) hl, h.frame⟩
  · by_cases e : j = k
    · rw [e] at hl hb; exact absurd (hs u hl) hb
    · exact h.low3 j u (by omega) hl hb
  · by_cases e : j = k
    · rw [e] at hl
      have hb := hs u hl
      rcases ht with ⟨_, e2⟩ | ⟨p, k0, e2, hk0, hp⟩
      · omega
      · have e3 : k0 = k := by omega
        rw [e3] at hk0
        have hp0 := h0.act p hp
        have hup : u = p := by
          rcases hk0.two hl with ⟨e1, _⟩ | ⟨_, e1⟩
          · rw [← e1] at hp0; exact absurd hx0 hp0
          · exact e1
        rw [hup, h.keep p hp0]
        exact ⟨hp0, fun e4 => absurd e4 hp0⟩
    · exact h.seen j u (by omega) hl
/-- A line that leads to a bus to which the search has come. -/
theorem dfs_back (h : DLoop ls ts t0 now0 br0 x by' Act t now br least k) (hl : Ln ls ts k x o) (hb : (k : Int) ≠ by') (ho : t o ≠ 0) (h0 : DInv ls ts t0 now0 br0 Act) : DLoop ls ts t0 now0 br0 x by' Act t now br (min least (t o)) (k + 1) := by
  have hx0 := h.x0 h0
  have hxv := h.vis
  have uniq : ∀ u, Ln ls ts k x u → u = o := by
    intro u hu
    rcases hl.two hu with ⟨_, e⟩ | ⟨e1, e2⟩
    · exact e
    · exact e2.trans e1
  refine ⟨h.inv, h.keep, h.new, h.tx, h.mono, fun v h1 h2 j u w hl hc => h.cc v h1 h2 j u w hl (hc.imp id fun ⟨e, hk⟩ => ⟨e, by omega⟩), fun v h1 h2 => Nat.le_trans (Nat.min_le_left _ _) (h.low1 v h1 h2), fun v h1 h2 h3 j u h4 => Nat.le_trans (Nat.min_le_left _ _) (h.low2 v h1 h2 h3 j u h4), fun j u hj hl' hb' => ?_, ?_, fun j u hj hl' => ?_, fun j u hj hl => h.offx j u (by omega) hl, h.frame⟩
  · by_cases e : j = k
    · subst e
      rw [uniq u hl']; exact Nat.min_le_right _ _
    · exact Nat.le_trans (Nat.min_le_left _ _) (h.low3 j u (by omega) hl' hb')
  · rcases Nat.le_total least (t o) with e | e
    · rw [Nat.min_eq_left e]; exact h.att
    · rw [Nat.min_eq_right e]
      exact ⟨o, rfl, ho, .inr ⟨k, x, hb, hx0, hxv, hl⟩⟩
  · by_cases e : j = k
    · subst e
      rw [uniq u hl']
      refine ⟨ho, fun ho0 => ?_⟩
      rw [h.offx j o (Nat.le_refl _) hl]
      have := h.cc o ho0 ho j x o hl (.inr ⟨rfl, Nat.le_refl _⟩)
      simp [this]
    · exact h.seen j u (by omega) hl'
/-- What the least time behind a line says of it. -/
theorem dfs_bridge (h : DLoop ls ts t0 now0 br0 x by' Act t now br least k) (hl : Ln ls ts k x c) (hc : t c = 0) (h0 : DInv ls ts t0 now0 br0 Act) (p : DPost ls ts t now br c (k : Int) (x :: Act) t2 now2 br2 least2) : t2 x < least2 ↔ ¬ CW ls ts k x c := by
  have hxv := h.vis
  have hx2 := p.keep x hxv
  have hxn := h.inv.le x
  have actv : ∀ a ∈ x :: Act, t a ≤ t x := by
    intro a ha
    rcases List.mem_cons.1 ha with e | e
    · rw [e]; exact Nat.le_refl _
    · have h1 := h0.act a e
      have h2 := h.keep a h1
      have h3 := h0.le a
      have := h.tx
      omega
  -- whoever has come to a bus behind the line from outside is one from which the search goes on
  have isact : ∀ j u v, Ln ls ts j v u → t v = 0 → t u ≠ 0 → u ∈ x :: Act := by
    intro j u v hl hv0 hu
    by_cases hm : u ∈ x :: Act
    · exact hm
    · exact absurd hv0 (h.inv.fin j u v hl.symm hu hm)
  have nact : ∀ v, t v = 0 → v ∉ x :: Act := fun v hv0 hm => h.inv.act v hm hv0
  constructor
  · intro hlt hcw
    have := CW.closed (p := fun b => t b = 0 ∧ t2 b ≠ 0) hcw.symm (fun j u v hj hl' hu => ?_) ⟨hc, p.vis⟩
    · exact hxv this.1
    · have hv2 : t2 v ≠ 0 := p.inv.fin j u v hl' hu.2 (nact u hu.1)
      refine ⟨?_, hv2⟩
      rcases Nat.eq_zero_or_pos (t v) with e | e
      · exact e
      · have h1 := isact j v u hl' hu.1 (by omega)
        have h2 := actv v h1
        have h3 := p.keep v (by omega)
        have h4 := p.low2 u hu.1 hu.2 j v (by omega) hl'
        omega
  · intro hn
    rcases Nat.lt_or_ge (t2 x) least2 with e | e
    · exact e
    exfalso
    apply hn
    obtain ⟨u, hu, hu2, hu3⟩ := p.att
    have hold : t u ≠ 0 := by
      intro e2
      have := p.new u e2 hu2
      omega
    rcases hu3 with e2 | ⟨j, v, hj, hv0, hv2, hl'⟩
    · exact absurd e2 hold
    · have h1 := isact j u v hl' hv0 hold
      have c1 : CW ls ts k u x := h.inv.con k c x hl.symm hc u h1 x List.mem_cons_self
      have c2 : CW ls ts k c v := p.cc v hv0 hv2 k x c hl (fun e => hxv e.1)
      have c3 : CW ls ts k v u := hl'.cw (by omega)
      exact (c2.trans (c3.trans c1)).symm
/-- A line over which the search went on. -/
theorem dfs_down (h0 : DInv ls ts t0 now0 br0 Act) (ht : DTop ls ts Act x by') (h : DLoop ls ts t0 now0 br0 x by' Act t now br least k) (hl : Ln ls ts k x c) (hc : t c = 0) (p : DPost ls ts t now br c (k : Int) (x :: Act) t2 now2 br2 least2) :
    DLoop ls ts t0 now0 br0 x by' Act t2 now2 (fun j => if j = k then decide (t2 x < least2) else br2 j) (min least least2) (k + 1) := by
  have hx0 := h.x0 h0
  have hxv := h.vis
  have hbr := dfs_bridge h hl hc h0 p
  have hmn := h.mono
  have hc0 : t0 c = 0 := by
    rcases Nat.eq_zero_or_pos (t0 c) with e | e
    · exact e
    · have := h.keep c (by omega); omega
  have k0 : ∀ {b}, t0 b ≠ 0 → t b ≠ 0 := fun {b} e => by rw [h.keep b e]; exact e
  have k1 : ∀ {b}, t b ≠ 0 → t2 b ≠ 0 := fun {b} e => by rw [p.keep b e]; exact e
  have z0 : ∀ {b}, t b = 0 → t0 b = 0 := fun {b} e => by
    rcases Nat.eq_zero_or_pos (t0 b) with e2 | e2
    · exact e2
    · exact absurd e (k0 (by omega))
  have uniq : ∀ u, Ln ls ts k x u → u = c := by
    intro u hu
    rcases hl.two hu with ⟨_, e⟩ | ⟨e1, e2⟩
    · exact e
    · exact e2.trans e1
  -- both ends of line k have been come to, and neither before this search
  have ends : ∀ u v, Ln ls ts k u v → (u = x ∨ u = c) := fun u v hu => (hl.two hu).imp (·.1) (·.1)
  have ends0 : ∀ u v, Ln ls ts k u v → t0 u = 0 ∧ t2 u ≠ 0 := by
    intro u v hu
    rcases ends u v hu with e | e
    · rw [e]; exact ⟨hx0, k1 hxv⟩
    · rw [e]; exact ⟨hc0, p.vis⟩
  have nact : ∀ v, t0 v = 0 → v ≠ x → v ∉ x :: Act := by
    intro v hv0 hvx hm
    rcases List.mem_cons.1 hm with e | e
    · exact hvx e
    · exact h0.act v e hv0
  refine ⟨⟨p.inv.le, p.inv.act, p.inv.fin, p.inv.con, fun j u v hl' hu => ?_, fun j u v hl' hu hua hv2 hva => ?_⟩, fun b hb0 => ?_, fun b hb0 hb2 => ?_, ?_, ?_, fun v hv0 hv2 j u w hl' hcd => ?_, fun v hv0 hv2 => ?_, fun v hv0 hv2 hvx j u hl' => ?_, fun j u hj hl' hb' => ?_, ?_, fun j u hj hl' => ?_, fun j u hj hl' => ?_, fun j u v hl' hu => ?_⟩
  · have e : j ≠ k := fun e => (ends0 u v (e ▸ hl')).2 hu
    simp only [if_neg e]
    exact p.inv.off j u v hl' hu
  · have e : j ≠ k := by
      intro e
      rw [e] at hl'
      rcases hl.two hl' with ⟨e1, _⟩ | ⟨_, e2⟩
      · exact hua (e1 ▸ List.mem_cons_self)
      · exact hva (e2 ▸ List.mem_cons_self)
    simp only [if_neg e]
    exact p.inv.ok j u v hl' hu hua hv2 hva
  · rw [p.keep b (k0 hb0), h.keep b hb0]
  · rcases Nat.eq_zero_or_pos (t b) with e | e
    · have := p.new b e hb2; omega
    · rw [p.keep b (by omega)]; exact h.new b hb0 (by omega)
  · rw [p.keep x hxv, h.tx]
  · have := p.mono; omega
  · have hjk : j ≠ k := by
      intro e
      rcases hcd with hcd | ⟨_, hcd⟩
      · exact hcd (ends0 u w (e ▸ hl'))
      · omega
    rcases Nat.eq_zero_or_pos (t v) with e | e
    · refine (hl.cw (fun e => hjk e.symm)).trans (p.cc v e hv2 j u w hl' fun ⟨e1, e2⟩ => ?_)
      rcases hcd with hcd | ⟨hcd, _⟩
      · exact hcd ⟨z0 e1, e2⟩
      · rw [hcd] at e1; exact hxv e1
    · refine h.cc v hv0 (by omega) j u w hl' (hcd.imp (fun hn ⟨e1, e2⟩ => hn ⟨e1, k1 e2⟩) fun ⟨e1, e2⟩ => ⟨e1, by omega⟩)
  · rcases Nat.eq_zero_or_pos (t v) with e | e
    · exact Nat.le_trans (Nat.min_le_right _ _) (p.low1 v e hv2)
    · rw [p.keep v (by omega)]; exact Nat.le_trans (Nat.min_le_left _ _) (h.low1 v hv0 (by omega))
  · rcases Nat.eq_zero_or_pos (t v) with e | e
    · by_cases hjk : j = k
      · rw [hjk] at hl'
        have hux : u = x := by
          rcases hl.two hl' with ⟨e1, _⟩ | ⟨_, e1⟩
          · exact absurd e1 hvx
          · exact e1
        rw [hux, p.keep x hxv]
        exact Nat.le_trans (Nat.min_le_left _ _) (h.low1 x hx0 hxv)
      · exact Nat.le_trans (Nat.min_le_right _ _) (p.low2 v e hv2 j u (by omega) hl')
    · have hu := h.inv.fin j v u hl' (by omega) (nact v hv0 hvx)
      rw [p.keep u hu]
      exact Nat.le_trans (Nat.min_le_left _ _) (h.low2 v hv0 (by omega) hvx j u hl')
  · by_cases hjk : j = k
    · rw [hjk] at hl'
      rw [uniq u hl']
      exact Nat.le_trans (Nat.min_le_right _ _) (p.low1 c hc p.vis)
    · have hu := (h.seen j u (by omega) hl').1
      rw [p.keep u hu]
      exact Nat.le_trans (Nat.min_le_left _ _) (h.low3 j u (by omega) hl' hb')
  · rcases Nat.le_total least least2 with e | e
    · rw [Nat.min_eq_left e]
      obtain ⟨u, h1, h2, h3⟩ := h.att
      refine ⟨u, by rw [p.keep u h2, h1], k1 h2, h3.imp id fun ⟨j, v, e1, e2, e3, e4⟩ => ⟨j, v, e1, e2, k1 e3, e4⟩⟩
    · rw [Nat.min_eq_right e]
      obtain ⟨u, h1, h2, h3⟩ := p.att
      refine ⟨u, h1, h2, h3.elim (fun e => .inl (z0 e)) fun ⟨j, v, e1, e2, e3, e4⟩ => .inr ⟨j, v, ?_, z0 e2, e3, e4⟩⟩
      intro ej
      rcases ht with ⟨_, e5⟩ | ⟨q, k9, e5, hk9, hq⟩
      · omega
      · have ejk : k9 = j := by omega
        rw [ejk] at hk9
        rcases hk9.two e4 with ⟨e6, _⟩ | ⟨e6, _⟩
        · rw [e6] at e2; exact k0 (h0.act q hq) e2
        · rw [e6] at e2; exact hxv e2
  · by_cases hjk : j = k
    · rw [hjk] at hl' ⊢
      rw [uniq u hl']
      refine ⟨p.vis, fun _ => ?_⟩
      simp only [if_pos, decide_eq_true_eq]
      exact hbr
    · obtain ⟨s1, s2⟩ := h.seen j u (by omega) hl'
      refine ⟨k1 s1, fun e => ?_⟩
      simp only [if_neg hjk]
      rw [p.frame j x u hl' hxv]
      exact s2 e
  · have hjk : j ≠ k := by omega
    simp only [if_neg hjk]
    rw [p.frame j x u hl' hxv]
    exact h.offx j u (by omega) hl'
  · have hjk : j ≠ k := fun e => hu (ends0 u v (e ▸ hl')).1
    simp only [if_neg hjk]
    rw [p.frame j u v hl' (k0 hu)]
    exact h.frame j u v hl' hu
theorem dfs_end (h0 : DInv ls ts t0 now0 br0 Act) (h : DLoop ls ts t0 now0 br0 x by' Act t now br least ts.length) : DPost ls ts t0 now0 br0 x by' Act t now br least := by
  have hx0 := h.x0 h0
  have hxv := h.vis
  have vis0 : ∀ v, v ∉ Act → ∀ j, Ln ls ts j x v → t0 v = 0 := by
    intro v hva j hl
    rcases Nat.eq_zero_or_pos (t0 v) with e | e
    · exact e
    · exact absurd hx0 (h0.fin j v x hl.symm (by omega) hva)
  have ncons : ∀ u, u ∉ Act → u ≠ x → u ∉ x :: Act := fun u h1 h2 hm => (List.mem_cons.1 hm).elim h2 h1
  refine ⟨⟨h.inv.le, fun b hb => h.inv.act b (List.mem_cons_of_mem _ hb), fun j b v hl hb hba => ?_, fun j u v hl hu a ha b hb => h.inv.con j u v hl hu a (List.mem_cons_of_mem _ ha) b (List.mem_cons_of_mem _ hb), h.inv.off, fun j u v hl hu hua hv2 hva => ?_⟩, h.keep, h.new, hxv, h.mono, fun v h1 h2 j u w hl hc => h.cc v h1 h2 j u w hl (.inl hc), h.low1, fun v h1 h2 j u hj hl => ?_, h.att, h.frame⟩
  · by_cases e : b = x
    · rw [e] at hl; exact (h.seen j v hl.len hl).1
    · exact h.inv.fin j b v hl hb (ncons b hba e)
  · by_cases e : u = x
    · rw [e] at hl ⊢
      exact (h.seen j v hl.len hl).2 (vis0 v hva j hl)
    · by_cases e2 : v = x
      · rw [e2] at hl ⊢
        rw [(h.seen j u hl.symm.len hl.symm).2 (vis0 u hua j hl.symm)]
        exact not_congr ⟨CW.symm, CW.symm⟩
      · exact h.inv.ok j u v hl hu (ncons u hua e) hv2 (ncons v hva e2)
  · by_cases e : v = x
    · rw [e] at hl; exact h.low3 j u hl.len hl hj
    · exact h.low2 v h1 h2 e j u hl
/-- Before the first search. -/
theorem dfs_none (ls : List L3) (ts : List Bool) : DInv ls ts (fun _ => 0) 0 (fun _ => false) [] :=
  ⟨fun _ => Nat.le_refl _, fun _ h => (nomatch h), fun _ _ _ _ h => absurd rfl h, fun _ _ _ _ _ _ h => (nomatch h), fun _ _ _ _ _ => rfl, fun _ _ _ _ h => absurd rfl h⟩
/-- How many buses are left. -/
def leftN (t : Nat → Nat) (nb : Nat) : Nat := (List.range nb).countP fun b => t b == 0
theorem leftN_le {t t' : Nat → Nat} {nb : Nat} (h : ∀ b, t b ≠ 0 → t' b ≠ 0) : leftN t' nb ≤ leftN t nb := by
  unfold leftN
  apply List.countP_mono_left
  intro b _ hb
  simp only [beq_iff_eq] at hb ⊢
  rcases Nat.eq_zero_or_pos (t b) with e | e
  · exact e
  · exact absurd hb (h b (by omega))
theorem leftN_lt {t t' : Nat → Nat} {x : Nat} : ∀ {nb : Nat}, (∀ b, t b ≠ 0 → t' b ≠ 0) → t x = 0 → t' x ≠ 0 → x < nb → leftN t' nb < leftN t nb
  | 0, _, _, _, h => absurd h (by omega)
  | nb + 1, h, h1, h2, h3 => by
    have e : ∀ t : Nat → Nat, leftN t (nb + 1) = leftN t nb + (if t nb = 0 then 1 else 0) := by
      intro t
      unfold leftN
      rw [List.range_succ, List.countP_append, List.countP_cons, List.countP_nil]
      simp [beq_iff_eq]
    rw [e, e]
    by_cases hx : x = nb
    · subst hx
      have := leftN_le (nb := x) h
      rw [if_pos h1, if_neg h2]; omega
    · have ih := leftN_lt (nb := nb) h h1 h2 (by omega)
      have := h nb
      split <;> split <;> omega
end
end Go.Proofs.YtapbmpodimdkpaaDoor

/- Cycles, plain facts: lines of cycles, bridges, spanning lines; how many there are. -/
namespace Go.Proofs.YtapbmpodimdkpaaDoor
open Go.RowKit

/-- Line k is on and its ends are joined without it. -/
noncomputable def cycB (ls : List L3) (ts : List Bool) (k : Nat) : Bool := ts.getD k false && (match ls[k]? with | some l => connB (edgesOn ls (ts.set k false)) l.1.toNat l.2.1.toNat | none => false)
noncomputable def briB (ls : List L3) (ts : List Bool) (k : Nat) : Bool := ts.getD k false && !cycB ls ts k
noncomputable def linB (ls : List L3) (ts : List Bool) (br : Bool) (k : Nat) : Bool := if br = true then briB ls ts k else cycB ls ts k
/-- The first k lines of a kind. -/
noncomputable def linTo (ls : List L3) (ts : List Bool) (br : Bool) (k : Nat) : List Nat := (List.range k).filter (linB ls ts br)
noncomputable def linF (bs : Int) (ls : List L3) (ts : List Bool) (br : Bool) : List Int := if stOk bs ls ts.length = true then ofN (linTo ls ts br ts.length) else []
noncomputable def hasF (bs : Int) (ls : List L3) (ts : List Bool) : Bool := decide (0 < (linF bs ls ts false).length)
/-- Line k is on and joins two islands of the lines x. -/
noncomputable def spB (ls : List L3) (ts x : List Bool) (k : Nat) : Bool := ts.getD k false && (match ls[k]? with | some l => !connB (edgesOn ls x) l.1.toNat l.2.1.toNat | none => false)
noncomputable def spX (ls : List L3) (ts : List Bool) : Nat → List Bool
  | 0 => List.replicate ts.length false
  | k + 1 => if spB ls ts (spX ls ts k) k = true then (spX ls ts k).set k true else spX ls ts k
noncomputable def spTo (ls : List L3) (ts : List Bool) (k : Nat) : List Nat := (List.range k).filter fun j => spB ls ts (spX ls ts j) j
noncomputable def spaF (bs : Int) (ls : List L3) (ts : List Bool) : List Int := if stOk bs ls ts.length = true then ofN (spTo ls ts ts.length) else []

theorem filter_yes {p : Nat → Bool} {k : Nat} (h : p k = true) : (List.range (k + 1)).filter p = (List.range k).filter p ++ [k] := by
  rw [List.range_succ, List.filter_append, List.filter_cons, h]; rfl
theorem filter_no {p : Nat → Bool} {k : Nat} (h : p k = false) : (List.range (k + 1)).filter p = (List.range k).filter p := by
  rw [List.range_succ, List.filter_append, List.filter_cons, h]; simp
theorem linTo_yes {ls : List L3} {ts : List Bool} {br : Bool} {k : Nat} (h : linB ls ts br k = true) : linTo ls ts br (k + 1) = linTo ls ts br k ++ [k] := filter_yes h
theorem linTo_no {ls : List L3} {ts : List Bool} {br : Bool} {k : Nat} (h : linB ls ts br k = false) : linTo ls ts br (k + 1) = linTo ls ts br k := filter_no h
theorem linTo_len (ls : List L3) (ts : List Bool) (br : Bool) (k : Nat) : (linTo ls ts br k).length ≤ k := Nat.le_trans (List.length_filter_le _ _) (by simp)
theorem spTo_yes {ls : List L3} {ts : List Bool} {k : Nat} (h : spB ls ts (spX ls ts k) k = true) : spTo ls ts (k + 1) = spTo ls ts k ++ [k] := filter_yes (p := fun j => spB ls ts (spX ls ts j) j) h
theorem spTo_no {ls : List L3} {ts : List Bool} {k : Nat} (h : spB ls ts (spX ls ts k) k = false) : spTo ls ts (k + 1) = spTo ls ts k := filter_no (p := fun j => spB ls ts (spX ls ts j) j) h
theorem spTo_len (ls : List L3) (ts : List Bool) (k : Nat) : (spTo ls ts k).length ≤ k := Nat.le_trans (List.length_filter_le _ _) (by simp)
theorem spX_yes {ls : List L3} {ts : List Bool} {k : Nat} (h : spB ls ts (spX ls ts k) k = true) : spX ls ts (k + 1) = (spX ls ts k).set k true := by rw [spX, if_pos h]
theorem spX_no {ls : List L3} {ts : List Bool} {k : Nat} (h : spB ls ts (spX ls ts k) k = false) : spX ls ts (k + 1) = spX ls ts k := by rw [spX, if_neg (by rw [h]; decide)]
theorem spX_len (ls : List L3) (ts : List Bool) (k : Nat) : (spX ls ts k).length = ts.length := by
  induction k with
  | zero => simp [spX]
  | succ k ih =>
    rw [spX]
    split
    · rw [List.length_set, ih]
    · exact ih
section
variable {bs : Int} {ls : List L3} {ts : List Bool} {k : Nat} {l : L3}
theorem getD_some {t : Bool} (h : ts[k]? = some t) : ts.getD k false = t := by rw [List.getD_eq_getElem?_getD, h]; rfl
theorem getD_true (h : ts.getD k false = true) : ts[k]? = some true := by
  rw [List.getD_eq_getElem?_getD] at h
  rcases hk : ts[k]? with _ | t
  · rw [hk] at h; cases h
  · rw [hk] at h; rw [show t = true from h]
theorem cycB_at {t : Bool} (hl : ls[k]? = some l) (ht : ts[k]? = some t) : cycB ls ts k = (t && connB (edgesOn ls (ts.set k false)) l.1.toNat l.2.1.toNat) := by rw [cycB, getD_some ht, hl]
theorem briB_at {t : Bool} (hl : ls[k]? = some l) (ht : ts[k]? = some t) : briB ls ts k = (t && !connB (edgesOn ls (ts.set k false)) l.1.toNat l.2.1.toNat) := by
  rw [briB, cycB_at hl ht, getD_some ht]; cases t <;> simp
theorem spB_at {x : List Bool} {t : Bool} (hl : ls[k]? = some l) (ht : ts[k]? = some t) : spB ls ts x k = (t && !connB (edgesOn ls x) l.1.toNat l.2.1.toNat) := by rw [spB, getD_some ht, hl]
theorem linF_of (hs : stOk bs ls ts.length = true) (br : Bool) : linF bs ls ts br = ofN (linTo ls ts br ts.length) := by rw [linF, if_pos hs]
theorem linF_not (hs : stOk bs ls ts.length = false) (br : Bool) : linF bs ls ts br = [] := by rw [linF, if_neg (by rw [hs]; decide)]
theorem spaF_of (hs : stOk bs ls ts.length = true) : spaF bs ls ts = ofN (spTo ls ts ts.length) := by rw [spaF, if_pos hs]
theorem spaF_not (hs : stOk bs ls ts.length = false) : spaF bs ls ts = [] := by rw [spaF, if_neg (by rw [hs]; decide)]
theorem linF_len (bs : Int) (ls : List L3) (ts : List Bool) (br : Bool) : (linF bs ls ts br).length ≤ 10 := by
  rw [linF]; split
  · rename_i h
    have := (stOk_len h).2
    have := linTo_len ls ts br ts.length
    rw [ofN_len]; omega
  · simp
theorem spaF_len (bs : Int) (ls : List L3) (ts : List Bool) : (spaF bs ls ts).length ≤ 10 := by
  rw [spaF]; split
  · rename_i h
    have := (stOk_len h).2
    have := spTo_len ls ts ts.length
    rw [ofN_len]; omega
  · simp
theorem hasF_eq (bs : Int) (ls : List L3) (ts : List Bool) : hasF bs ls ts = decide (((linF bs ls ts false).length : Int) > 0) := by
  rw [hasF, decide_eq_decide]; omega
/-- The members are in ascending order, and each is a line of the kind. -/
theorem linF_at {br : Bool} {j : Nat} {z : Int} (h : (linF bs ls ts br)[j]? = some z) : stOk bs ls ts.length = true ∧ ∃ k : Nat, z = (k : Int) ∧ k < ts.length ∧ linB ls ts br k = true := by
  rw [linF] at h
  split at h
  · rename_i hs
    rw [ofN, List.getElem?_map, Option.map_eq_some_iff] at h
    obtain ⟨k, hk, rfl⟩ := h
    have := List.mem_of_getElem? hk
    rw [linTo, List.mem_filter, List.mem_range] at this
    exact ⟨hs, k, rfl, this.1, this.2⟩
  · simp at h
theorem filter_asc (p : Nat → Bool) (n : Nat) {j : Nat} {x y : Int} (hx : (ofN ((List.range n).filter p))[j]? = some x) (hy : (ofN ((List.range n).filter p))[j + 1]? = some y) : x < y := by
  simp only [ofN, List.getElem?_map, Option.map_eq_some_iff] at hx hy
  obtain ⟨a, ha, rfl⟩ := hx
  obtain ⟨b, hb, rfl⟩ := hy
  have h := List.pairwise_iff_getElem.1 (range_filter_ascend p n) j (j + 1) (List.getElem?_eq_some_iff.1 ha).1 (List.getElem?_eq_some_iff.1 hb).1 (Nat.lt_succ_self j)
  rw [(List.getElem?_eq_some_iff.1 ha).2, (List.getElem?_eq_some_iff.1 hb).2] at h
  exact Int.ofNat_lt.2 h
theorem linF_asc (bs : Int) (ls : List L3) (ts : List Bool) (br : Bool) : ∀ (k : Nat) (x y : Int), (linF bs ls ts br)[k]? = some x → (linF bs ls ts br)[k + 1]? = some y → x < y := by
  intro k x y hx hy
  by_cases hs : stOk bs ls ts.length = true
  · rw [linF_of hs] at hx hy; exact filter_asc _ _ hx hy
  · rw [linF, if_neg hs] at hx; simp at hx
theorem spaF_asc (bs : Int) (ls : List L3) (ts : List Bool) : ∀ (k : Nat) (x y : Int), (spaF bs ls ts)[k]? = some x → (spaF bs ls ts)[k + 1]? = some y → x < y := by
  intro k x y hx hy
  by_cases hs : stOk bs ls ts.length = true
  · rw [spaF_of hs] at hx hy; exact filter_asc _ _ hx hy
  · rw [spaF, if_neg hs] at hx; simp at hx

/-! P74 -/
theorem set_same {t : Bool} (h : ts[k]? = some t) : ts.set k t = ts := by
  apply List.ext_getElem?
  intro j
  by_cases hj : k = j
  · subst hj; rw [List.getElem?_set_self (List.getElem?_eq_some_iff.1 h).1, h]
  · rw [List.getElem?_set_ne hj]
theorem on_line (hs : stOk bs ls ts.length = true) (h : k < ts.length) : ∃ l, ls[k]? = some l := ⟨_, List.getElem?_eq_getElem (by have := (stOk_len hs).1; omega)⟩
theorem cyc_same (hs : stOk bs ls ts.length = true) (hk : k < ts.length) (h : cycB ls ts k = true) : islF bs ls (ts.set k false) = islF bs ls ts ∧ ts[k]? = some true := by
  obtain ⟨l, hl⟩ := on_line hs hk
  rw [cycB, Bool.and_eq_true, hl] at h
  have ht := getD_true h.1
  have hc := connB_iff.1 h.2
  refine ⟨?_, ht⟩
  rw [islF_of hs, islF_of (stOk_set hs k false)]
  congr 1
  unfold islL
  apply List.map_congr_left
  intro b _
  have ha := adj_set hl hk
  rw [set_same ht] at ha
  exact leastF_congr (fun a b => by
    rw [conn_more ha]
    exact ⟨.inl, fun h2 => h2.elim id fun h3 => h3.elim (fun ⟨x, y⟩ => (x.trans hc).trans y) (fun ⟨x, y⟩ => (x.trans hc.symm).trans y)⟩) b
/-! P75 -/
theorem bri_more (hs : stOk bs ls ts.length = true) (hk : k < ts.length) (h : briB ls ts k = true) : ((iofF bs ls (ts.set k false)).length : Int) = (iofF bs ls (ts.set k true)).length + 1 := by
  obtain ⟨l, hl⟩ := on_line hs hk
  rw [briB, Bool.and_eq_true, cycB, hl] at h
  obtain ⟨h1, h2⟩ := h
  rw [h1] at h2
  simp only [Bool.true_and, Bool.not_eq_true'] at h2
  have := heads_switch (stOk_net hs) hl hk
  rw [h2] at this
  rw [iofF_length (stOk_set hs k false), iofF_length (stOk_set hs k true)]
  simp at this
  omega
theorem filter_two (p q : Nat → Bool) (n : Nat) : ((List.range n).filter fun j => p j && !q j && p j).length + ((List.range n).filter fun j => p j && q j).length = ((List.range n).filter p).length := by
  induction n with
  | zero => rfl
  | succ n ih =>
    rw [List.range_succ, List.filter_append, List.filter_append, List.filter_append, List.length_append, List.length_append, List.length_append]
    have : ([n].filter fun j => p j && !q j && p j).length + ([n].filter fun j => p j && q j).length = ([n].filter p).length := by
      cases hp : p n <;> cases hq : q n <;> simp [hp, hq]
    omega
theorem count_range (ts : List Bool) : ts.countP id = ((List.range ts.length).filter fun j => ts.getD j false).length := by
  rw [← List.countP_eq_length_filter]
  have : ts = (List.range ts.length).map fun j => ts.getD j false := by
    apply List.ext_getElem?
    intro j
    rw [List.getElem?_map]
    rcases Nat.lt_or_ge j ts.length with h | h
    · rw [List.getElem?_range h, getD_get h]; rfl
    · rw [List.getElem?_eq_none h, List.getElem?_eq_none (by simpa using h)]; rfl
  conv => lhs; rw [this]
  rw [List.countP_map]; rfl
theorem lines_two (hs : stOk bs ls ts.length = true) : (linF bs ls ts true).length + (linF bs ls ts false).length = ts.countP id := by
  rw [linF_of hs, linF_of hs, ofN_len, ofN_len, count_range]
  have h := filter_two (fun j => ts.getD j false) (cycB ls ts) ts.length
  have e1 : linTo ls ts true ts.length = (List.range ts.length).filter fun j => ts.getD j false && !cycB ls ts j && ts.getD j false := by
    unfold linTo
    apply List.filter_congr
    intro j _
    rw [linB, if_pos rfl, briB]
    cases ts.getD j false <;> cases cycB ls ts j <;> rfl
  have e2 : linTo ls ts false ts.length = (List.range ts.length).filter fun j => ts.getD j false && cycB ls ts j := by
    unfold linTo
    apply List.filter_congr
    intro j _
    rw [linB, if_neg (by decide), cycB]
    cases ts.getD j false <;> simp
  rw [e1, e2]; exact h

/-! P76 and spanning lines -/
/-- The lines before k that are on. -/
def upto (ts : List Bool) (k : Nat) : List Bool := (List.range ts.length).map fun j => decide (j < k) && ts.getD j false
theorem upto_len (ts : List Bool) (k : Nat) : (upto ts k).length = ts.length := by simp [upto]
theorem upto_get {j : Nat} (hj : j < ts.length) : (upto ts k)[j]? = some (decide (j < k) && ts.getD j false) := by rw [upto, List.getElem?_map, List.getElem?_range hj]; rfl
theorem upto_zero (ts : List Bool) : upto ts 0 = List.replicate ts.length false := by
  apply List.ext_getElem?
  intro j
  rcases Nat.lt_or_ge j ts.length with h | h
  · rw [upto_get h, List.getElem?_replicate, if_pos h]; simp
  · rw [List.getElem?_eq_none (by rw [upto_len]; exact h), List.getElem?_eq_none (by simpa using h)]
theorem upto_all (ts : List Bool) : upto ts ts.length = ts := by
  apply List.ext_getElem?
  intro j
  rcases Nat.lt_or_ge j ts.length with h | h
  · rw [upto_get h, getD_get h]; simp [h]
  · rw [List.getElem?_eq_none (by rw [upto_len]; exact h), List.getElem?_eq_none h]
theorem upto_succ' {t : Bool} (ht : ts[k]? = some t) : upto ts (k + 1) = (upto ts k).set k t := by
  apply List.ext_getElem?
  intro j
  have hk := (List.getElem?_eq_some_iff.1 ht).1
  rcases Nat.lt_or_ge j ts.length with h | h
  · rw [upto_get h]
    by_cases hj : k = j
    · subst hj
      rw [List.getElem?_set_self (by rw [upto_len]; exact h), getD_some ht]; simp
    · rw [List.getElem?_set_ne hj, upto_get h]
      congr 2
      rw [decide_eq_decide]; omega
  · rw [List.getElem?_eq_none (by rw [upto_len]; exact h), List.getElem?_eq_none (by rw [List.length_set, upto_len]; exact h)]
theorem upto_off (hk : k < ts.length) : (upto ts k).set k false = upto ts k := set_same (by rw [upto_get hk]; simp)
theorem none_on (ls : List L3) (n : Nat) : edgesOn ls (List.replicate n false) = [] := by
  rw [List.eq_nil_iff_forall_not_mem]
  intro e he
  obtain ⟨k, l, _, h, _⟩ := mem_edgesOn.1 he
  rw [List.getElem?_replicate] at h
  split at h <;> simp at h
theorem countP_set_true : ∀ {x : List Bool} {k : Nat}, x[k]? = some false → (x.set k true).countP id = x.countP id + 1
  | [], k, h => by simp at h
  | a :: x, 0, h => by simp at h; subst h; simp
  | a :: x, k + 1, h => by
    have ih := countP_set_true (x := x) (k := k) (by simpa using h)
    rw [List.set_cons_succ, List.countP_cons, List.countP_cons, ih]; omega
theorem countP_set_false {x : List Bool} (h : x[k]? = some true) : x.countP id = (x.set k false).countP id + 1 := by
  have hk := (List.getElem?_eq_some_iff.1 h).1
  rw [← countP_set_true (x := x.set k false) (k := k) (List.getElem?_set_self hk), List.set_set, set_same h]
theorem upto_cnt (hv : netOk bs ls = true) (hn : ts.length = ls.length) (k : Nat) (hk : k ≤ ts.length) :
    bs.toNat ≤ (upto ts k).countP id + cntF (edgesOn ls (upto ts k)) bs.toNat ∧ ((∀ j l, j < k → ts[j]? = some true → ls[j]? = some l → ¬ Conn (edgesOn ls (upto ts j)) l.1.toNat l.2.1.toNat) → (upto ts k).countP id + cntF (edgesOn ls (upto ts k)) bs.toNat = bs.toNat) := by
  induction k with
  | zero => rw [upto_zero, none_on, cntF_none]; simp
  | succ k ih =>
    have ih := ih (by omega)
    obtain ⟨t, ht⟩ : ∃ t, ts[k]? = some t := ⟨_, List.getElem?_eq_getElem (by omega)⟩
    obtain ⟨l, hl⟩ : ∃ l, ls[k]? = some l := ⟨_, List.getElem?_eq_getElem (by omega)⟩
    rw [upto_succ' ht]
    have hkl : k < (upto ts k).length := by rw [upto_len]; omega
    have hoff := upto_off (ts := ts) (k := k) (by omega)
    have h2 := netOk_line hv hl
    simp [lineOk, inB] at h2
    cases t
    · rw [hoff]
      exact ⟨ih.1, fun h => ih.2 fun j l hj => h j l (by omega)⟩
    · have ha := adj_set (ls := ls) hl hkl
      rw [hoff] at ha
      obtain ⟨c1, c2⟩ := cntF_more (nb := bs.toNat) ha (by omega) (by omega)
      have hcn := countP_set_true (x := upto ts k) (k := k) (by rw [upto_get (by omega)]; simp)
      rw [hcn]
      by_cases hc : Conn (edgesOn ls (upto ts k)) l.1.toNat l.2.1.toNat
      · have := c1 hc
        exact ⟨by omega, fun h => absurd hc (h k l (by omega) ht hl)⟩
      · have := c2 hc
        refine ⟨by omega, fun h => ?_⟩
        have := ih.2 fun j l hj => h j l (by omega)
        omega
theorem lines_cnt (hs : stOk bs ls ts.length = true) : bs.toNat ≤ ts.countP id + cntF (edgesOn ls ts) bs.toNat := by
  have := (upto_cnt (stOk_net hs) (stOk_len hs).1 ts.length (Nat.le_refl _)).1
  rwa [upto_all] at this
theorem conn_mono {x y : List Bool} (h : ∀ j : Nat, x[j]? = some true → y[j]? = some true) {a b : Nat} (hc : Conn (edgesOn ls x) a b) : Conn (edgesOn ls y) a b := by
  refine hc.mono fun u v huv => ?_
  have key : ∀ e, e ∈ edgesOn ls x → e ∈ edgesOn ls y := by
    intro e he
    obtain ⟨j, l, h1, h2, h3⟩ := mem_edgesOn.1 he
    exact mem_edgesOn.2 ⟨j, l, h1, h j h2, h3⟩
  exact huv.imp (key _) (key _)
/-- There is a cycle exactly if more lines are on than there are buses, less the number of islands. -/
theorem has_cnt (hs : stOk bs ls ts.length = true) : hasF bs ls ts = true ↔ bs.toNat < ts.countP id + cntF (edgesOn ls ts) bs.toNat := by
  have hv := stOk_net hs
  have hn := (stOk_len hs).1
  rw [hasF, decide_eq_true_eq, linF_of hs, ofN_len]
  constructor
  · intro h
    obtain ⟨k, hk⟩ := List.exists_mem_of_length_pos h
    rw [linTo, List.mem_filter, List.mem_range, linB, if_neg (by decide)] at hk
    obtain ⟨hkl, hc⟩ := hk
    obtain ⟨l, hl⟩ := on_line hs hkl
    rw [cycB, Bool.and_eq_true, hl] at hc
    have ht := getD_true hc.1
    have ha := adj_set hl hkl
    rw [set_same ht] at ha
    have h2 := netOk_line hv hl
    simp [lineOk, inB] at h2
    have c1 := (cntF_more (nb := bs.toNat) ha (by omega) (by omega)).1 (connB_iff.1 hc.2)
    have c2 := lines_cnt (stOk_set hs k false)
    have c3 := countP_set_false ht
    omega
  · intro h
    rcases Nat.eq_zero_or_pos (linTo ls ts false ts.length).length with h0 | h0
    · exfalso
      have h0 := List.eq_nil_of_length_eq_zero h0
      have := (upto_cnt hv hn ts.length (Nat.le_refl _)).2 (fun j l hj ht hl hc => ?_)
      · rw [upto_all] at this; omega
      · have hm : j ∈ linTo ls ts false ts.length := by
          rw [linTo, List.mem_filter, List.mem_range]
          refine ⟨hj, ?_⟩
          rw [linB, if_neg (by decide), cycB_at hl ht, Bool.true_and, connB_iff]
          refine conn_mono (fun i hi => ?_) hc
          rcases Nat.lt_or_ge i ts.length with hil | hil
          · rw [upto_get hil] at hi
            injection hi with hi
            simp only [Bool.and_eq_true, decide_eq_true_eq] at hi
            rw [List.getElem?_set_ne (by omega)]; exact getD_true hi.2
          · rw [List.getElem?_eq_none (by rw [upto_len]; exact hil)] at hi; cases hi
        rw [h0] at hm; cases hm
    · exact h0
/-- The spanning lines so far join what all lines so far join, and there are as many as buses, less the number of islands. -/
theorem span_inv (hv : netOk bs ls = true) (hn : ts.length = ls.length) (k : Nat) (hk : k ≤ ts.length) :
    (∀ a b, Conn (edgesOn ls (spX ls ts k)) a b ↔ Conn (edgesOn ls (upto ts k)) a b) ∧ (∀ j, k ≤ j → (spX ls ts k)[j]? ≠ some true) ∧ (spX ls ts k).countP id = (spTo ls ts k).length ∧ (spTo ls ts k).length + cntF (edgesOn ls (spX ls ts k)) bs.toNat = bs.toNat ∧ (∀ j, (spX ls ts k)[j]? = some true ↔ j ∈ spTo ls ts k) := by
  induction k with
  | zero =>
    have e : spX ls ts 0 = List.replicate ts.length false := rfl
    have e2 : ∀ j : Nat, (List.replicate ts.length false)[j]? ≠ some true := fun j h => by
      rw [List.getElem?_replicate] at h
      split at h <;> simp at h
    rw [e, upto_zero, none_on, cntF_none]
    exact ⟨fun _ _ => Iff.rfl, fun j _ => e2 j, by simp [spTo], by simp [spTo], fun j => ⟨fun h => absurd h (e2 j), fun h => by simp [spTo] at h⟩⟩
  | succ k ih =>
    obtain ⟨i1, i2, i3, i4, i5⟩ := ih (by omega)
    obtain ⟨t, ht⟩ : ∃ t, ts[k]? = some t := ⟨_, List.getElem?_eq_getElem (by omega)⟩
    obtain ⟨l, hl⟩ : ∃ l, ls[k]? = some l := ⟨_, List.getElem?_eq_getElem (by omega)⟩
    have hkl : k < (upto ts k).length := by rw [upto_len]; omega
    have hkx : k < (spX ls ts k).length := by rw [spX_len]; omega
    have hoff := upto_off (ts := ts) (k := k) (by omega)
    have hxf : (spX ls ts k)[k]? = some false := by
      rw [List.getElem?_eq_getElem hkx]
      have := i2 k (Nat.le_refl _)
      rw [List.getElem?_eq_getElem hkx] at this
      congr 1
      rcases h : (spX ls ts k)[k] with _ | _
      · rfl
      · rw [h] at this; exact absurd rfl this
    have h2 := netOk_line hv hl
    simp [lineOk, inB] at h2
    have ha := adj_set (ls := ls) hl hkl
    rw [hoff] at ha
    have hb := adj_set (ls := ls) hl hkx
    rw [set_same hxf] at hb
    rw [upto_succ' ht]
    by_cases hsp : spB ls ts (spX ls ts k) k = true
    · rw [spX_yes hsp, spTo_yes hsp]
      rw [spB_at hl ht, Bool.and_eq_true, Bool.not_eq_true', connB_no] at hsp
      obtain ⟨rfl, hnc⟩ := hsp
      refine ⟨fun a b => ?_, fun j hj => ?_, ?_, ?_, fun j => ?_⟩
      · rw [conn_more ha, conn_more hb, i1, i1, i1, i1, i1]
      · rw [List.getElem?_set_ne (by omega)]; exact i2 j (by omega)
      · rw [countP_set_true hxf, i3, List.length_append]; rfl
      · have := (cntF_more (nb := bs.toNat) hb (by omega) (by omega)).2 hnc
        rw [List.length_append, List.length_singleton]; omega
      · rw [List.mem_append, List.mem_singleton, ← i5 j]
        by_cases hj : k = j
        · subst hj; rw [List.getElem?_set_self hkx]; simp
        · rw [List.getElem?_set_ne hj]
          exact ⟨.inl, fun h => h.elim id fun h => absurd h.symm hj⟩
    · rw [Bool.not_eq_true] at hsp
      rw [spX_no hsp, spTo_no hsp]
      refine ⟨fun a b => ?_, fun j hj => i2 j (by omega), i3, i4, i5⟩
      rw [spB_at hl ht] at hsp
      cases t
      · rw [hoff]; exact i1 a b
      · rw [Bool.true_and, Bool.not_eq_false', connB_iff] at hsp
        have hc := (i1 _ _).1 hsp
        rw [i1, conn_more ha]
        exact ⟨.inl, fun h2 => h2.elim id fun h3 => h3.elim (fun ⟨x, y⟩ => (x.trans hc).trans y) (fun ⟨x, y⟩ => (x.trans hc.symm).trans y)⟩
/-- What is promised of the spanning lines. -/
theorem span_all (hs : stOk bs ls ts.length = true) : islF bs ls (spX ls ts ts.length) = islF bs ls ts ∧ hasF bs ls (spX ls ts ts.length) = false ∧ ((spaF bs ls ts).length : Int) = bs - (iofF bs ls ts).length := by
  have hv := stOk_net hs
  have hn := (stOk_len hs).1
  have hb := stOk_bs hs
  obtain ⟨i1, _, i3, i4, _⟩ := span_inv hv hn ts.length (Nat.le_refl _)
  have hx : stOk bs ls (spX ls ts ts.length).length = true := by rw [spX_len]; exact hs
  rw [upto_all] at i1
  have hc := cntF_congr i1 bs.toNat
  refine ⟨?_, ?_, ?_⟩
  · rw [islF_of hs, islF_of hx]
    congr 1
    unfold islL
    exact List.map_congr_left fun b _ => leastF_congr i1 b
  · rw [Bool.eq_false_iff]
    intro h
    rw [has_cnt hx] at h
    omega
  · rw [spaF_of hs, ofN_len, iofF_length hs, heads_cnt, ← hc]
    omega
end
end Go.Proofs.YtapbmpodimdkpaaDoor

/- Radial networks, plain facts: ways from the feeds, and the line by which a bus is fed. -/
namespace Go.Proofs.YtapbmpodimdkpaaDoor
open Go.RowKit

/-- No line that is on joins what is joined without it. -/
def Acyc (ls : List L3) (ts : List Bool) : Prop := ∀ k u v, Ln ls ts k u v → ¬ CW ls ts k u v
/-- No two feeds are joined. -/
def OneFeed (es : List E2) (us : List U2) : Prop := ∀ b c, 0 < fd us b → 0 < fd us c → Conn es b c → b = c
/-- The way from a feed to a bus, the line at the bus first. -/
inductive Way (ls : List L3) (ts : List Bool) (us : List U2) : Nat → List Nat → Prop
  | feed {b : Nat} : 0 < fd us b → Way ls ts us b []
  | step {k o b : Nat} {ws : List Nat} : Way ls ts us o ws → Ln ls ts k o b → (∃ f, 0 < fd us f ∧ CW ls ts k f o) → Way ls ts us b (k :: ws)
def hd1 : List Nat → Int
  | [] => -1
  | k :: _ => (k : Int)
section
variable {bs : Int} {ls : List L3} {ts : List Bool} {us : List U2} {k o b j u v : Nat} {ws : List Nat}
theorem adj_ln : Adj (edgesOn ls ts) u v ↔ ∃ j, Ln ls ts j u v := by
  unfold Adj
  rw [mem_edgesOn, mem_edgesOn]
  constructor
  · rintro (⟨j, l, h1, h2, h3⟩ | ⟨j, l, h1, h2, h3⟩)
    · injection h3 with e1 e2
      exact ⟨j, l, h1, h2, .inl ⟨e1, e2⟩⟩
    · injection h3 with e1 e2
      exact ⟨j, l, h1, h2, .inr ⟨e2, e1⟩⟩
  · rintro ⟨j, l, h1, h2, h3⟩
    rcases h3 with ⟨rfl, rfl⟩ | ⟨rfl, rfl⟩
    · exact .inl ⟨j, l, h1, h2, rfl⟩
    · exact .inr ⟨j, l, h1, h2, rfl⟩
theorem Ln.conn (h : Ln ls ts k u v) : Conn (edgesOn ls ts) u v := Conn.one (adj_ln.2 ⟨k, h⟩)
theorem CW.conn {x y : Nat} (h : CW ls ts k x y) : Conn (edgesOn ls ts) x y := by
  refine conn_mono (fun j hj => ?_) h
  by_cases e : k = j
  · subst e
    rw [List.getElem?_set] at hj
    simp at hj
  · rwa [List.getElem?_set_ne e] at hj
theorem acyc_of (hs : stOk bs ls ts.length = true) (h : hasF bs ls ts = false) : Acyc ls ts := by
  intro k u v hl hc
  have hk := hl.len
  obtain ⟨l, h1, h2, h3⟩ := hl
  have hcy : cycB ls ts k = true := by
    rw [cycB_at h1 h2, Bool.true_and, connB_iff]
    rcases h3 with ⟨rfl, rfl⟩ | ⟨rfl, rfl⟩
    · exact hc
    · exact Conn.symm hc
  have hm : k ∈ linTo ls ts false ts.length := List.mem_filter.2 ⟨List.mem_range.2 hk, by simp [linB, hcy]⟩
  rw [hasF, linF_of hs, ofN_len, decide_eq_false_iff_not] at h
  exact h (List.length_pos_of_mem hm)
theorem acyc_has (hs : stOk bs ls ts.length = true) (h : Acyc ls ts) : hasF bs ls ts = false := by
  rw [hasF, linF_of hs, ofN_len, decide_eq_false_iff_not]
  intro hpos
  obtain ⟨k, hk⟩ := List.exists_mem_of_length_pos hpos
  obtain ⟨_, hk2⟩ := List.mem_filter.1 hk
  have hk2 : cycB ls ts k = true := by simpa [linB] using hk2
  rw [cycB, Bool.and_eq_true] at hk2
  obtain ⟨e1, e2⟩ := hk2
  rcases hl : ls[k]? with _ | l
  · rw [hl] at e2; cases e2
  · rw [hl] at e2
    exact h k _ _ ⟨l, hl, getD_true e1, .inl ⟨rfl, rfl⟩⟩ (connB_iff.1 e2)
/-- With lines off there are fewer lines. -/
theorem ln_off (h : Ln ls (ts.set j false) k u v) : Ln ls ts k u v ∧ k ≠ j := by
  obtain ⟨l, h1, h2, h3⟩ := h
  by_cases e : j = k
  · subst e
    rw [List.getElem?_set] at h2
    simp at h2
  · rw [List.getElem?_set_ne e] at h2
    exact ⟨⟨l, h1, h2, h3⟩, fun e2 => e e2.symm⟩
theorem Acyc.off (h : Acyc ls ts) (j : Nat) : Acyc ls (ts.set j false) := by
  intro k u v hl hc
  obtain ⟨h1, h2⟩ := ln_off hl
  refine h k u v h1 ?_
  refine Conn.mono hc fun x y hxy => ?_
  obtain ⟨i, hi, hl2⟩ := adj_cw.1 hxy
  exact adj_cw.2 ⟨i, hi, (ln_off hl2).1⟩
theorem OneFeed.off (h : OneFeed (edgesOn ls ts) us) (j : Nat) : OneFeed (edgesOn ls (ts.set j false)) us :=
  fun b c hb hc hcc => h b c hb hc (CW.conn (k := j) hcc)

theorem Way.fed (h : Way ls ts us b ws) : ∃ f, 0 < fd us f ∧ Conn (edgesOn ls ts) f b := by
  induction h with
  | feed hb => exact ⟨_, hb, Conn.refl _⟩
  | step _ hl _ ih =>
    obtain ⟨f, hf, hc⟩ := ih
    exact ⟨f, hf, hc.trans hl.conn⟩
theorem feed_out (ha : Acyc ls ts) {f : Nat} (hl : Ln ls ts k o b) (hc : CW ls ts k f o) : ¬ CW ls ts k f b := fun h => ha k o b hl (hc.symm.trans h)
theorem par_one (ha : Acyc ls ts) (ho : OneFeed (edgesOn ls ts) us) {k' o' : Nat} (hl : Ln ls ts k o b) (hc : ∃ f, 0 < fd us f ∧ CW ls ts k f o) (hl' : Ln ls ts k' o' b) (hc' : ∃ f, 0 < fd us f ∧ CW ls ts k' f o') : k = k' ∧ o = o' := by
  obtain ⟨f, hf, hc⟩ := hc
  obtain ⟨f', hf', hc'⟩ := hc'
  have e : f' = f := ho _ _ hf' hf ((hc'.conn.trans hl'.conn).trans (hc.conn.trans hl.conn).symm)
  subst e
  have n1 := feed_out ha hl hc
  have n2 := feed_out ha hl' hc'
  by_cases hk : k = k'
  · subst hk
    refine ⟨rfl, ?_⟩
    rcases Ln.two hl hl' with ⟨e1, _⟩ | ⟨e1, _⟩
    · exact e1.symm
    · subst e1; exact absurd hc' n1
  · exfalso
    have key : CW ls ts k' f' o' ∧ (CW ls ts k f' o' ∨ CW ls ts k' f' b) := by
      refine CW.closed (p := fun x => CW ls ts k' f' x ∧ (CW ls ts k f' x ∨ CW ls ts k' f' b)) hc' ?_ ⟨CW.refl _, .inl (CW.refl _)⟩
      rintro j u v hj hl2 ⟨q1, q2⟩
      have q3 : CW ls ts k' f' v := q1.trans (hl2.cw hj)
      refine ⟨q3, ?_⟩
      rcases q2 with q2 | q2
      · by_cases e : j = k
        · subst e
          rcases Ln.two hl hl2 with ⟨rfl, rfl⟩ | ⟨rfl, rfl⟩
          · exact .inr q3
          · exact absurd q2 n1
        · exact .inl (q2.trans (hl2.cw e))
      · exact .inr q2
    rcases key.2 with q | q
    · exact n1 (q.trans (hl'.cw (fun e => hk e.symm)))
    · exact n2 q
theorem Way.one (ha : Acyc ls ts) (ho : OneFeed (edgesOn ls ts) us) (h : Way ls ts us b ws) : ∀ {ws'}, Way ls ts us b ws' → ws = ws' := by
  induction h with
  | feed hb =>
    intro ws' h'
    cases h' with
    | feed _ => rfl
    | step hw hl hc =>
      obtain ⟨f, hf, hc⟩ := hc
      have e := ho _ _ hf hb (hc.conn.trans hl.conn)
      subst e
      exact absurd (CW.refl _) (feed_out ha hl hc)
  | step hw hl hc ih =>
    intro ws' h'
    cases h' with
    | feed hb =>
      obtain ⟨f, hf, hc⟩ := hc
      have e := ho _ _ hf hb (hc.conn.trans hl.conn)
      subst e
      exact absurd (CW.refl _) (feed_out ha hl hc)
    | step hw' hl' hc' =>
      obtain ⟨rfl, rfl⟩ := par_one ha ho hl hc hl' hc'
      rw [ih hw']
/-- A line is on the way exactly if the bus is fed by it. -/
theorem Way.mem (ha : Acyc ls ts) (ho : OneFeed (edgesOn ls ts) us) (j : Nat) (h : Way ls ts us b ws) : j ∈ ws ↔ ∀ f, 0 < fd us f → ¬ CW ls ts j f b := by
  induction h with
  | feed hb => exact ⟨fun h => (by cases h), fun h => absurd (CW.refl _) (h _ hb)⟩
  | @step k o b ws hw hl hc ih =>
    obtain ⟨f, hf, hc⟩ := hc
    by_cases e : k = j
    · subst e
      refine ⟨fun _ f' hf' hcw => ?_, fun _ => List.mem_cons_self⟩
      have e := ho _ _ hf' hf (hcw.conn.trans (hc.conn.trans hl.conn).symm)
      subst e
      exact feed_out ha hl hc hcw
    · constructor
      · intro hm f' hf' hcw
        rcases List.mem_cons.1 hm with e2 | hm
        · exact e e2.symm
        · exact ih.1 hm f' hf' (hcw.trans (hl.cw e).symm)
      · intro h2
        exact List.mem_cons_of_mem _ (ih.2 fun f' hf' hcw => h2 f' hf' (hcw.trans (hl.cw e)))
theorem Way.nodup (ha : Acyc ls ts) (ho : OneFeed (edgesOn ls ts) us) (h : Way ls ts us b ws) : ws.Nodup := by
  induction h with
  | feed hb => exact List.nodup_nil
  | step hw hl hc ih =>
    refine List.nodup_cons.2 ⟨fun hm => ?_, ih⟩
    obtain ⟨f, hf, hc⟩ := hc
    exact (hw.mem ha ho _).1 hm f hf hc
theorem Way.on (h : Way ls ts us b ws) : ∀ j ∈ ws, j < ts.length ∧ ts[j]? = some true := by
  induction h with
  | feed hb => intro j hj; cases hj
  | step hw hl hc ih =>
    intro j hj
    rcases List.mem_cons.1 hj with rfl | hj
    · refine ⟨hl.len, ?_⟩
      obtain ⟨l, _, h2, _⟩ := hl
      exact h2
    · exact ih j hj
theorem nodup_len : ∀ {n : Nat} {xs : List Nat}, xs.Nodup → (∀ x ∈ xs, x < n) → xs.length ≤ n
  | 0, [], _, _ => by simp
  | 0, x :: _, _, h => absurd (h x (by simp)) (by omega)
  | n + 1, xs, hd, h => by
    by_cases hm : n ∈ xs
    · have ih := nodup_len (n := n) (hd.erase n) (fun x hx => by
        obtain ⟨h1, h2⟩ := hd.mem_erase_iff.1 hx
        have := h x h2; omega)
      rw [List.length_erase_of_mem hm] at ih; omega
    · have ih := nodup_len (n := n) hd (fun x hx => by
        have h1 := h x hx
        have h2 : x ≠ n := fun e => hm (e ▸ hx)
        omega)
      omega
theorem Way.len (ha : Acyc ls ts) (ho : OneFeed (edgesOn ls ts) us) (h : Way ls ts us b ws) : ws.length ≤ ts.length :=
  nodup_len (h.nodup ha ho) (fun x hx => (h.on x hx).1)
/-- Each line of a way feeds some bus. -/
theorem Way.at_ (h : Way ls ts us b ws) : ∀ j ∈ ws, ∃ b' o ws', Way ls ts us b' (j :: ws') ∧ Ln ls ts j o b' ∧ ∃ f, 0 < fd us f ∧ CW ls ts j f o := by
  induction h with
  | feed hb => intro j hj; cases hj
  | step hw hl hc ih =>
    intro j hj
    rcases List.mem_cons.1 hj with rfl | hj
    · exact ⟨_, _, _, .step hw hl hc, hl, hc⟩
    · exact ih j hj
/-- The bus lies within bounds. -/
theorem fd_lt (h : 0 < fd us b) : b < us.length := by
  rcases Nat.lt_or_ge b us.length with h2 | h2
  · exact h2
  · rw [fd, List.getD_eq_getElem?_getD, List.getElem?_eq_none h2] at h; cases h

/-! Marks that grow: m the buses that are fed so far, p the line by which each is fed. -/
structure Grow (ls : List L3) (ts : List Bool) (us : List U2) (m : Nat → Bool) (p : Nat → Int) : Prop where
  fe : ∀ b, 0 < fd us b → m b = true ∧ p b = -1
  pa : ∀ b, m b = true → ¬ 0 < fd us b → ∃ (k o : Nat) (ws : List Nat), p b = (k : Int) ∧ Ln ls ts k o b ∧ m o = true ∧ Way ls ts us o ws ∧ ∃ f, 0 < fd us f ∧ CW ls ts k f o
  co : ∀ b, m b = true → ∃ f, 0 < fd us f ∧ ∀ k u v, Ln ls ts k u v → m v = false → CW ls ts k f b
theorem Grow.way {m : Nat → Bool} {p : Nat → Int} (h : Grow ls ts us m p) (hb : m b = true) : ∃ ws, Way ls ts us b ws ∧ p b = hd1 ws := by
  by_cases hf : 0 < fd us b
  · exact ⟨[], .feed hf, (h.fe b hf).2⟩
  · obtain ⟨k, o, ws, e, hl, _, hw, hc⟩ := h.pa b hb hf
    exact ⟨k :: ws, .step hw hl hc, e⟩
theorem grow_start {m : Nat → Bool} {p : Nat → Int} (h1 : ∀ b, 0 < fd us b → m b = true ∧ p b = -1) (h2 : ∀ b, m b = true → 0 < fd us b) : Grow ls ts us m p :=
  ⟨h1, fun b hb hn => absurd (h2 b hb) hn, fun b hb => ⟨b, h2 b hb, fun _ _ _ _ _ => CW.refl _⟩⟩
theorem Grow.mark {m m' : Nat → Bool} {p p' : Nat → Int} {x y : Nat} (h : Grow ls ts us m p) (hl : Ln ls ts k x y) (hx : m x = true) (hy : m y = false) (em : ∀ b, m' b = if b = y then true else m b) (ep : ∀ b, p' b = if b = y then (k : Int) else p b) : Grow ls ts us m' p' := by
  have hxy : x ≠ y := fun e => by rw [e, hy] at hx; cases hx
  have hm : ∀ {b}, m' b = false → b ≠ y ∧ m b = false := fun {b} hb => by
    rw [em] at hb
    by_cases e : b = y
    · rw [if_pos e] at hb; cases hb
    · rw [if_neg e] at hb; exact ⟨e, hb⟩
  have up : ∀ {b}, m b = true → m' b = true := fun {b} hb => by
    rw [em]; split
    · rfl
    · exact hb
  obtain ⟨f, hf, hcf⟩ := h.co x hx
  refine ⟨fun b hb => ?_, fun b hb hn => ?_, fun b hb => ?_⟩
  · obtain ⟨q1, q2⟩ := h.fe b hb
    have e : b ≠ y := fun e => by rw [e, hy] at q1; cases q1
    exact ⟨up q1, by rw [ep, if_neg e, q2]⟩
  · by_cases e : b = y
    · subst e
      obtain ⟨ws, hw, _⟩ := h.way hx
      exact ⟨k, x, ws, by rw [ep, if_pos rfl], hl, up hx, hw, f, hf, hcf k x b hl hy⟩
    · rw [em, if_neg e] at hb
      obtain ⟨k', o, ws, e', hl', ho, hw, hc⟩ := h.pa b hb hn
      exact ⟨k', o, ws, by rw [ep, if_neg e, e'], hl', up ho, hw, hc⟩
  · by_cases e : b = y
    · subst e
      refine ⟨f, hf, fun j u v hj hv => ?_⟩
      obtain ⟨v1, v2⟩ := hm hv
      refine (hcf j u v hj v2).trans (hl.cw fun e => ?_)
      subst e
      rcases Ln.two hl hj with ⟨_, e2⟩ | ⟨_, e2⟩
      · exact v1 e2
      · rw [e2, hx] at v2; cases v2
    · rw [em, if_neg e] at hb
      obtain ⟨f', hf', hc'⟩ := h.co b hb
      exact ⟨f', hf', fun j u v hj hv => hc' j u v hj (hm hv).2⟩
/-- What is closed is all that is fed. -/
theorem Grow.fed {m : Nat → Bool} {p : Nat → Int} (h : Grow ls ts us m p) (hc : ∀ k u v, Ln ls ts k u v → m u = true → m v = true) (b : Nat) : m b = true ↔ ∃ f, 0 < fd us f ∧ Conn (edgesOn ls ts) f b := by
  constructor
  · intro hb
    obtain ⟨ws, hw, _⟩ := h.way hb
    exact hw.fed
  · rintro ⟨f, hf, hcf⟩
    refine Conn.closed (p := fun x => m x = true) (fun e he => ?_) hcf (h.fe f hf).1
    obtain ⟨j, hj⟩ := (adj_ln (u := e.1) (v := e.2)).1 (.inl he)
    exact ⟨hc j _ _ hj, hc j _ _ hj.symm⟩
end

/-! The answers of chapter 6 -/
noncomputable def fedB (es : List E2) (us : List U2) (b : Nat) : Bool := @decide (∃ f, 0 < fd us f ∧ Conn es f b) (Classical.propDecidable _)
theorem fedB_iff {es : List E2} {us : List U2} {b : Nat} : fedB es us b = true ↔ ∃ f, 0 < fd us f ∧ Conn es f b := by
  unfold fedB; exact @decide_eq_true_iff _ (Classical.propDecidable _)
noncomputable def wayF (ls : List L3) (ts : List Bool) (us : List U2) (b : Nat) : List Nat := @dite _ (∃ ws, Way ls ts us b ws) (Classical.propDecidable _) (fun h => Classical.choose h) (fun _ => [])
noncomputable def radF (bs : Int) (ls : List L3) (ts : List Bool) (us : List U2) : Bool := okU bs ls ts.length us && !hasF bs ls ts && @decide (OneFeed (edgesOn ls ts) us) (Classical.propDecidable _)
noncomputable def feedOf (es : List E2) (nb : Nat) (us : List U2) (b : Nat) : Int := match (List.range nb).find? (fun f => connB es b f && decide (0 < fd us f)) with
  | some f => (f : Int)
  | none => -1
noncomputable def fbyF (bs : Int) (ls : List L3) (ts : List Bool) (us : List U2) (bus : Int) : Int := if radF bs ls ts us = true ∧ inB bus 0 (bs - 1) = true then feedOf (edgesOn ls ts) bs.toNat us bus.toNat else -1
noncomputable def plnF (bs : Int) (ls : List L3) (ts : List Bool) (us : List U2) (bus : Int) : Int := if radF bs ls ts us = true ∧ inB bus 0 (bs - 1) = true then hd1 (wayF ls ts us bus.toNat) else -1
noncomputable def patF (bs : Int) (ls : List L3) (ts : List Bool) (us : List U2) (bus : Int) : List Int := if radF bs ls ts us = true ∧ inB bus 0 (bs - 1) = true then ofN (wayF ls ts us bus.toNat).reverse else []
noncomputable def belB (ls : List L3) (ts : List Bool) (us : List U2) (line : Int) (b : Nat) : Bool := decide (line ∈ ofN (wayF ls ts us b))
noncomputable def belTo (ls : List L3) (ts : List Bool) (us : List U2) (line : Int) (k : Nat) : List Nat := (List.range k).filter (belB ls ts us line)
noncomputable def belF (bs : Int) (ls : List L3) (ts : List Bool) (us : List U2) (line : Int) : List Int := if radF bs ls ts us = true then ofN (belTo ls ts us line bs.toNat) else []
section
variable {bs : Int} {ls : List L3} {ts : List Bool} {us : List U2} {k o b j u v : Nat} {ws : List Nat}
theorem radF_iff : radF bs ls ts us = true ↔ okU bs ls ts.length us = true ∧ Acyc ls ts ∧ OneFeed (edgesOn ls ts) us := by
  rw [radF, Bool.and_eq_true, Bool.and_eq_true, Bool.not_eq_true', @decide_eq_true_iff _ (Classical.propDecidable _)]
  constructor
  · rintro ⟨⟨h1, h2⟩, h3⟩
    exact ⟨h1, acyc_of (okU_st h1) h2, h3⟩
  · rintro ⟨h1, h2, h3⟩
    exact ⟨⟨h1, acyc_has (okU_st h1) h2⟩, h3⟩
theorem radF_bad (h : okU bs ls ts.length us = false) : radF bs ls ts us = false := by rw [radF, h]; rfl
theorem radF_cyc (h : hasF bs ls ts = true) : radF bs ls ts us = false := by rw [radF, h]; simp
theorem radF_eq (h : okU bs ls ts.length us = true) (h2 : hasF bs ls ts = false) : radF bs ls ts us = true ↔ OneFeed (edgesOn ls ts) us := by
  rw [radF, h, h2, Bool.not_false, Bool.and_true, Bool.true_and, @decide_eq_true_iff _ (Classical.propDecidable _)]
theorem wayF_of (ha : Acyc ls ts) (ho : OneFeed (edgesOn ls ts) us) (h : Way ls ts us b ws) : wayF ls ts us b = ws := by
  have hx : ∃ ws, Way ls ts us b ws := ⟨ws, h⟩
  have e : wayF ls ts us b = Classical.choose hx := by unfold wayF; exact @dif_pos _ (Classical.propDecidable _) hx _ _ _
  rw [e]
  exact Way.one ha ho (Classical.choose_spec hx) h
theorem wayF_no (h : ¬ ∃ ws, Way ls ts us b ws) : wayF ls ts us b = [] := by
  unfold wayF; exact @dif_neg _ (Classical.propDecidable _) h _ _ _
theorem wayF_unfed (h : fedB (edgesOn ls ts) us b = false) : wayF ls ts us b = [] :=
  wayF_no fun ⟨_, hw⟩ => by rw [fedB_iff.2 hw.fed] at h; cases h
theorem wayF_cons (ha : Acyc ls ts) (ho : OneFeed (edgesOn ls ts) us) (h : wayF ls ts us b = k :: ws) : ∃ o, Ln ls ts k o b ∧ Way ls ts us o ws ∧ wayF ls ts us o = ws := by
  by_cases hx : ∃ ws, Way ls ts us b ws
  · obtain ⟨ws', hw⟩ := hx
    have e := wayF_of ha ho hw
    rw [h] at e
    subst e
    cases hw with
    | step hw hl hc => exact ⟨_, hl, hw, wayF_of ha ho hw⟩
  · rw [wayF_no hx] at h; cases h
theorem wayF_len (ha : Acyc ls ts) (ho : OneFeed (edgesOn ls ts) us) (b : Nat) : (wayF ls ts us b).length ≤ ts.length := by
  by_cases hx : ∃ ws, Way ls ts us b ws
  · obtain ⟨ws', hw⟩ := hx
    rw [wayF_of ha ho hw]
    exact hw.len ha ho
  · rw [wayF_no hx]; simp
theorem feedOf_some {es : List E2} (ho : OneFeed es us) {nb f : Nat} (hf : 0 < fd us f) (hc : Conn es f b) (hn : us.length = nb) : feedOf es nb us b = (f : Int) := by
  unfold feedOf
  rcases h : (List.range nb).find? (fun f => connB es b f && decide (0 < fd us f)) with _ | g
  · rw [List.find?_eq_none] at h
    have := h f (List.mem_range.2 (by have := fd_lt hf; omega))
    rw [connB_iff.2 hc.symm] at this
    simp [hf] at this
  · have h1 := List.find?_some h
    rw [Bool.and_eq_true, connB_iff, decide_eq_true_eq] at h1
    have := ho g f h1.2 hf (h1.1.symm.trans hc.symm)
    rw [this]
theorem feedOf_none {es : List E2} (h : fedB es us b = false) (nb : Nat) : feedOf es nb us b = -1 := by
  unfold feedOf
  rcases h2 : (List.range nb).find? (fun f => connB es b f && decide (0 < fd us f)) with _ | g
  · rfl
  · have h1 := List.find?_some h2
    rw [Bool.and_eq_true, connB_iff, decide_eq_true_eq] at h1
    rw [fedB_iff.2 ⟨g, h1.2, h1.1.symm⟩] at h; cases h
end
end Go.Proofs.YtapbmpodimdkpaaDoor

/- Radial networks, plain facts: passes over the lines that mark what is fed. -/
namespace Go.Proofs.YtapbmpodimdkpaaDoor
open Go.RowKit

def markM (out : List Int) (b : Nat) : Bool := decide (-2 < out.getD b (-2))
def lineM (out : List Int) (b : Nat) : Int := out.getD b (-2)
/-- How many are left. -/
def leftM (m : Nat → Bool) (nb : Nat) : Nat := leftN (fun b => if m b = true then 1 else 0) nb
theorem leftM_le_nb (m : Nat → Bool) (nb : Nat) : leftM m nb ≤ nb := by
  unfold leftM leftN
  exact Nat.le_trans List.countP_le_length (by simp)
theorem leftM_mark {m m' : Nat → Bool} {nb y : Nat} (hy : m y = false) (hlt : y < nb) (em : ∀ b, m' b = if b = y then true else m b) : leftM m' nb + 1 ≤ leftM m nb := by
  unfold leftM
  refine leftN_lt (x := y) (fun b hb => ?_) (by simp [hy]) (by simp [em]) hlt
  by_cases e : b = y
  · simp [em, e]
  · simp only [em, if_neg e]; exact hb
theorem leftM_zero {m : Nat → Bool} {nb b : Nat} (h : leftM m nb = 0) (hb : b < nb) : m b = true := by
  unfold leftM leftN at h
  rw [List.countP_eq_zero] at h
  have := h b (List.mem_range.2 hb)
  cases hm : m b
  · simp [hm] at this
  · rfl
/-- All lines keep what is marked. -/
def Shut (ls : List L3) (ts : List Bool) (m : Nat → Bool) : Prop := ∀ k u v, Ln ls ts k u v → m u = true → m v = true

structure PassI (ls : List L3) (ts : List Bool) (us : List U2) (nb : Nat) (out0 : List Int) (C : Nat → Nat → Nat → Prop) (out : List Int) : Prop where
  len : out.length = nb
  bd : ∀ z ∈ out, -2 ≤ z ∧ z ≤ 1000
  gr : Grow ls ts us (markM out) (lineM out)
  ch : (leftM (markM out) nb < leftM (markM out0) nb ∧ ¬ Shut ls ts (markM out0)) ∨ (out = out0 ∧ ∀ j u v, C j u v → Ln ls ts j u v → markM out0 u = true → markM out0 v = true)
section
variable {ls : List L3} {ts : List Bool} {us : List U2} {nb k a b : Nat} {out0 out : List Int} {C : Nat → Nat → Nat → Prop}
theorem PassI.mono {C' : Nat → Nat → Nat → Prop} (h : PassI ls ts us nb out0 C out) (hc : ∀ j u v, Ln ls ts j u v → C' j u v → C j u v) : PassI ls ts us nb out0 C' out :=
  ⟨h.len, h.bd, h.gr, h.ch.imp id fun ⟨e, q⟩ => ⟨e, fun j u v c hl => q j u v (hc j u v hl c) hl⟩⟩
theorem getD_setI {b : Nat} (hb : b < out.length) (z : Int) (c : Nat) : (out.set b z).getD c (-2) = if c = b then z else out.getD c (-2) := by
  simp only [List.getD_eq_getElem?_getD, List.getElem?_set]
  by_cases e : b = c
  · subst e; simp [hb]
  · rw [if_neg e, if_neg (fun e2 => e e2.symm)]
theorem half_no (h : PassI ls ts us nb out0 C out) (hno : Ln ls ts k a b → -2 < out.getD a (-2) → out.getD b (-2) ≠ -2) : PassI ls ts us nb out0 (fun j u v => C j u v ∨ (j = k ∧ u = a ∧ v = b)) out := by
  refine ⟨h.len, h.bd, h.gr, h.ch.imp id fun ⟨e, q⟩ => ⟨e, ?_⟩⟩
  rintro j u v (c | ⟨rfl, rfl, rfl⟩) hl hu
  · exact q j u v c hl hu
  · rw [← e] at hu ⊢
    simp only [markM, decide_eq_true_eq] at hu ⊢
    have h1 := hno hl hu
    have h2 : -2 ≤ out.getD v (-2) := by
      rw [List.getD_eq_getElem?_getD]
      rcases hv : out[v]? with _ | z
      · exact Int.le_refl _
      · exact (h.bd z (List.mem_of_getElem? hv)).1
    omega
theorem half_yes (h : PassI ls ts us nb out0 C out) (hl : Ln ls ts k a b) (ha : -2 < out.getD a (-2)) (hb : out.getD b (-2) = -2) (hlt : b < nb) (hk : k ≤ 1000) : PassI ls ts us nb out0 (fun j u v => C j u v ∨ (j = k ∧ u = a ∧ v = b)) (out.set b (k : Int)) := by
  have hbl : b < out.length := by rw [h.len]; exact hlt
  have em : ∀ c, markM (out.set b (k : Int)) c = if c = b then true else markM out c := fun c => by
    unfold markM; rw [getD_setI hbl]
    split
    · rw [decide_eq_true_eq]; omega
    · rfl
  have ep : ∀ c, lineM (out.set b (k : Int)) c = if c = b then (k : Int) else lineM out c := fun c => getD_setI hbl _ c
  have ma : markM out a = true := by simpa [markM] using ha
  have mb : markM out b = false := by simp only [markM, hb]; decide
  have hlm := leftM_mark mb hlt em
  refine ⟨by rw [List.length_set]; exact h.len, fun z hz => ?_, h.gr.mark hl ma mb em ep, .inl ?_⟩
  · rcases List.mem_or_eq_of_mem_set hz with hz | rfl
    · exact h.bd z hz
    · omega
  · rcases h.ch with ⟨q1, q2⟩ | ⟨rfl, _⟩
    · exact ⟨by omega, q2⟩
    · exact ⟨by omega, fun q => by rw [q k a b hl ma] at mb; cases mb⟩
theorem pass_zero (hl : out.length = nb) (hbd : ∀ z ∈ out, -2 ≤ z ∧ z ≤ 1000) (hg : Grow ls ts us (markM out) (lineM out)) : PassI ls ts us nb out (fun j _ _ => j < 0) out :=
  ⟨hl, hbd, hg, .inr ⟨rfl, fun _ _ _ h => absurd h (by omega)⟩⟩
theorem pass_next {l : L3} (hk : ls[k]? = some l) (h : PassI ls ts us nb out0 (fun j u v => ((j < k ∨ (j = k ∧ u = l.1.toNat ∧ v = l.2.1.toNat)) ∨ (j = k ∧ u = l.2.1.toNat ∧ v = l.1.toNat))) out) : PassI ls ts us nb out0 (fun j _ _ => j < k + 1) out := by
  refine h.mono fun j u v hl hj => ?_
  rcases Nat.lt_or_ge j k with h1 | h1
  · exact .inl (.inl h1)
  · obtain rfl : j = k := by omega
    obtain ⟨l', e1, _, e3⟩ := hl
    rw [hk] at e1; injection e1 with e1; subst e1
    rcases e3 with ⟨rfl, rfl⟩ | ⟨rfl, rfl⟩
    · exact .inl (.inr ⟨rfl, rfl, rfl⟩)
    · exact .inr ⟨rfl, rfl, rfl⟩

/-- After so many passes. -/
structure RoundI (ls : List L3) (ts : List Bool) (us : List U2) (nb j : Nat) (out : List Int) : Prop where
  len : out.length = nb
  bd : ∀ z ∈ out, -2 ≤ z ∧ z ≤ 1000
  gr : Grow ls ts us (markM out) (lineM out)
  ch : leftM (markM out) nb + j ≤ nb ∨ Shut ls ts (markM out)
theorem RoundI.pass {j : Nat} (h : RoundI ls ts us nb j out) : PassI ls ts us nb out (fun j _ _ => j < 0) out := pass_zero h.len h.bd h.gr
theorem RoundI.next {j n : Nat} (h0 : RoundI ls ts us nb j out0) (h : PassI ls ts us nb out0 (fun j _ _ => j < n) out) (hn : ts.length ≤ n) : RoundI ls ts us nb (j + 1) out := by
  refine ⟨h.len, h.bd, h.gr, ?_⟩
  rcases h.ch with ⟨q1, q2⟩ | ⟨rfl, q⟩
  · rcases h0.ch with q3 | q3
    · exact .inl (by omega)
    · exact absurd q3 q2
  · exact .inr fun k u v hl hu => q k u v (Nat.lt_of_lt_of_le hl.len hn) hl hu
def par0 (us : List U2) (k : Nat) : List Int := (List.range k).map fun b => if 0 < fd us b then -1 else -2
theorem par0_succ (us : List U2) (k : Nat) : par0 us (k + 1) = par0 us k ++ [if 0 < fd us k then -1 else -2] := by
  unfold par0; rw [List.range_succ, List.map_append]; rfl
theorem par0_len (us : List U2) (k : Nat) : (par0 us k).length = k := by simp [par0]
theorem par0_getD (us : List U2) {k : Nat} (hu : us.length = k) (b : Nat) : (par0 us k).getD b (-2) = if 0 < fd us b then -1 else -2 := by
  rw [List.getD_eq_getElem?_getD]
  rcases Nat.lt_or_ge b k with hb | hb
  · rw [par0, List.getElem?_map, List.getElem?_range hb]; rfl
  · rw [List.getElem?_eq_none (by rw [par0_len]; exact hb), if_neg fun h => absurd (fd_lt h) (by omega)]; rfl
theorem round_start (hu : us.length = nb) : RoundI ls ts us nb 0 (par0 us nb) := by
  refine ⟨par0_len us nb, fun z hz => ?_, grow_start (fun b hb => ?_) (fun b hb => ?_), .inl (leftM_le_nb _ _)⟩
  · obtain ⟨b, _, rfl⟩ := List.mem_map.1 hz
    split <;> omega
  · unfold markM lineM; rw [par0_getD us hu, if_pos hb]; exact ⟨by decide, rfl⟩
  · unfold markM at hb; rw [par0_getD us hu] at hb
    by_cases h : 0 < fd us b
    · exact h
    · rw [if_neg h] at hb; simp at hb
noncomputable def parF (ls : List L3) (ts : List Bool) (us : List U2) (nb : Nat) : List Int := (List.range nb).map fun b => if fedB (edgesOn ls ts) us b = true then hd1 (wayF ls ts us b) else -2
theorem parF_len : (parF ls ts us nb).length = nb := by simp [parF]
theorem parF_get (hb : b < nb) : (parF ls ts us nb)[b]? = some (if fedB (edgesOn ls ts) us b = true then hd1 (wayF ls ts us b) else -2) := by
  rw [parF, List.getElem?_map, List.getElem?_range hb]; rfl
theorem round_end {bs : Int} (hv : netOk bs ls = true) (hnb : bs.toNat = nb) (ha : Acyc ls ts) (ho : OneFeed (edgesOn ls ts) us) (h : RoundI ls ts us nb nb out) : out = parF ls ts us nb := by
  have hs : Shut ls ts (markM out) := by
    rcases h.ch with q | q
    · intro k u v hl _
      exact leftM_zero (m := markM out) (nb := nb) (by omega) (by rw [← hnb]; exact hl.symm.lt hv)
    · exact q
  apply List.ext_getElem?
  intro b
  rcases Nat.lt_or_ge b nb with hb | hb
  · rw [parF_get hb]
    have e : out[b]? = some (out.getD b (-2)) := by rw [List.getD_eq_getElem?_getD, List.getElem?_eq_getElem (by rw [h.len]; exact hb)]; rfl
    have hf := h.gr.fed hs b
    rw [← fedB_iff] at hf
    rw [e]; congr 1
    split
    · rename_i hfb
      obtain ⟨ws, hw, e2⟩ := h.gr.way (hf.2 hfb)
      rw [wayF_of ha ho hw]; exact e2
    · rename_i hfb
      have hm : ¬ (-2 < out.getD b (-2)) := fun q => hfb (hf.1 (by simpa [markM] using q))
      have := (h.bd (out.getD b (-2)) (List.mem_of_getElem? e)).1
      omega
  · rw [List.getElem?_eq_none (by rw [h.len]; exact hb), List.getElem?_eq_none (by rw [parF_len]; exact hb)]
end
end Go.Proofs.YtapbmpodimdkpaaDoor

/- Radial networks, plain facts: a search from all feeds at once, with a queue. -/
namespace Go.Proofs.YtapbmpodimdkpaaDoor
open Go.RowKit

def supAt (s : List U2) (b : Nat) : U2 := s.getD b (-1, -1)
def markS (s : List U2) (b : Nat) : Bool := decide (0 ≤ (supAt s b).1)
def lineS (s : List U2) (b : Nat) : Int := (supAt s b).2
theorem supAt_get {s : List U2} {b : Nat} {u : U2} (h : s[b]? = some u) : supAt s b = u := by rw [supAt, List.getD_eq_getElem?_getD, h]; rfl
theorem supAt_set {s : List U2} {b : Nat} (hb : b < s.length) (z : U2) (c : Nat) : supAt (s.set b z) c = if c = b then z else supAt s c := by
  unfold supAt
  simp only [List.getD_eq_getElem?_getD, List.getElem?_set]
  by_cases e : b = c
  · subst e; simp [hb]
  · rw [if_neg e, if_neg (fun e2 => e e2.symm)]
structure Sup (ls : List L3) (ts : List Bool) (us : List U2) (nb : Nat) (s : List U2) : Prop where
  len : s.length = nb
  gr : Grow ls ts us (markS s) (lineS s)
  fe : ∀ b, markS s b = true → ∃ f : Nat, (supAt s b).1 = (f : Int) ∧ 0 < fd us f ∧ Conn (edgesOn ls ts) f b
  un : ∀ b, markS s b = false → supAt s b = (-1, -1)
/-- Between two rounds: q the buses from which the search goes on. -/
structure Queue (ls : List L3) (ts : List Bool) (us : List U2) (nb : Nat) (s : List U2) (q : List Nat) : Prop where
  sp : Sup ls ts us nb s
  qm : ∀ b ∈ q, markS s b = true
  nd : q.Nodup
  ch : ∀ y k u, markS s y = true → lineS s y = ((k : Nat) : Int) → Ln ls ts k u y → u ∉ q
  cl : ∀ u v k, markS s u = true → u ∉ q → Ln ls ts k u v → markS s v = true
/-- Within a round: the search goes on from x, along the lines of dn so far. -/
structure Work (ls : List L3) (ts : List Bool) (us : List U2) (nb : Nat) (s : List U2) (x : Nat) (dn : Nat → Prop) (q : List Nat) : Prop where
  sp : Sup ls ts us nb s
  mx : markS s x = true
  qm : ∀ b ∈ q, markS s b = true ∧ b ≠ x
  nd : q.Nodup
  ch : ∀ y k u, markS s y = true → lineS s y = ((k : Nat) : Int) → Ln ls ts k u y → u ∉ q ∧ (u = x → dn k)
  cl : ∀ u v k, markS s u = true → u ∉ q → (u = x → dn k) → Ln ls ts k u v → markS s v = true
section
variable {ls : List L3} {ts : List Bool} {us : List U2} {nb k x y : Nat} {s : List U2} {dn : Nat → Prop} {q : List Nat}
theorem work_start (h : Queue ls ts us nb s (x :: q)) : Work ls ts us nb s x (fun _ => False) q := by
  obtain ⟨n1, n2⟩ := List.nodup_cons.1 h.nd
  refine ⟨h.sp, h.qm x (by simp), fun b hb => ⟨h.qm b (by simp [hb]), fun e => n1 (e ▸ hb)⟩, n2, fun y k u hm hp hl => ?_, fun u v k hm hu hx hl => ?_⟩
  · have := h.ch y k u hm hp hl
    simp only [List.mem_cons, not_or] at this
    exact ⟨this.2, this.1⟩
  · refine h.cl u v k hm ?_ hl
    simp only [List.mem_cons, not_or]
    exact ⟨hx, hu⟩
theorem work_end (h : Work ls ts us nb s x dn q) (hd : ∀ k v, Ln ls ts k x v → dn k) : Queue ls ts us nb s q :=
  ⟨h.sp, fun b hb => (h.qm b hb).1, h.nd, fun y k u hm hp hl => (h.ch y k u hm hp hl).1, fun u v k hm hu hl => h.cl u v k hm hu (fun e => by subst e; exact hd k v hl) hl⟩
theorem work_iff {dn' : Nat → Prop} (h : Work ls ts us nb s x dn q) (e : ∀ k, dn k ↔ dn' k) : Work ls ts us nb s x dn' q :=
  ⟨h.sp, h.mx, h.qm, h.nd, fun y k u hm hp hl => ⟨(h.ch y k u hm hp hl).1, fun e2 => (e k).1 ((h.ch y k u hm hp hl).2 e2)⟩, fun u v k hm hu hx hl => h.cl u v k hm hu (fun e2 => (e k).2 (hx e2)) hl⟩
theorem work_skip (h : Work ls ts us nb s x dn q) (hs : ∀ v, Ln ls ts k x v → (k : Int) = lineS s x) : Work ls ts us nb s x (fun j => dn j ∨ j = k) q := by
  refine ⟨h.sp, h.mx, h.qm, h.nd, fun y j u hm hp hl => ⟨(h.ch y j u hm hp hl).1, fun e => .inl ((h.ch y j u hm hp hl).2 e)⟩, fun u v j hm hu hx hl => ?_⟩
  by_cases e : u = x ∧ j = k
  · obtain ⟨rfl, rfl⟩ := e
    have e2 := hs v hl
    by_cases hf : 0 < fd us u
    · have := (h.sp.gr.fe u hf).2; omega
    · obtain ⟨k', o, ws, e3, hl', ho, _⟩ := h.sp.gr.pa u hm hf
      obtain rfl : j = k' := by omega
      rcases Ln.two hl hl' with ⟨e4, _⟩ | ⟨e4, _⟩
      · -- the line's other end is the bus itself: o = u, u = v
        rename_i e5; rw [← e5]; exact hm
      · rw [← e4]; exact ho
  · refine h.cl u v j hm hu (fun e2 => ?_) hl
    rcases hx e2 with q | q
    · exact q
    · exact absurd ⟨e2, q⟩ e
/-- What a line of x leads to that is neither the line of x nor done is not marked yet: there is no cycle. -/
theorem work_new (ha : Acyc ls ts) (ho : OneFeed (edgesOn ls ts) us) (h : Work ls ts us nb s x dn q) (hl : Ln ls ts k x y) (hk : (k : Int) ≠ lineS s x) (hd : ¬ dn k) : markS s y = false := by
  rw [Bool.eq_false_iff]; intro hy
  obtain ⟨ws, hw, ew⟩ := h.sp.gr.way h.mx
  obtain ⟨vs, hv, ev⟩ := h.sp.gr.way hy
  have key : ∀ {us' b}, Way ls ts us b us' → k ∈ us' → False := by
    intro us' b hb hm
    obtain ⟨b', o, ws', hw', hl', _⟩ := hb.at_ k hm
    rcases Ln.two hl hl' with ⟨_, rfl⟩ | ⟨_, rfl⟩
    · have e := Way.one ha ho hv hw'
      subst e
      exact hd ((h.ch _ k x hy ev hl).2 rfl)
    · have e := Way.one ha ho hw hw'
      subst e
      exact hk ew.symm
  have out : ∀ {us' b}, Way ls ts us b us' → ∃ f, 0 < fd us f ∧ CW ls ts k f b := by
    intro us' b hb
    refine Classical.byContradiction fun hn => key hb ((hb.mem ha ho k).2 fun f hf hc => hn ⟨f, hf, hc⟩)
  obtain ⟨f, hf, hc⟩ := out hw
  obtain ⟨f', hf', hc'⟩ := out hv
  have e := ho _ _ hf hf' ((hc.conn.trans hl.conn).trans hc'.conn.symm)
  subst e
  exact ha k x y hl (hc.symm.trans hc')
theorem work_mark (ha : Acyc ls ts) (ho : OneFeed (edgesOn ls ts) us) (h : Work ls ts us nb s x dn q) (hl : Ln ls ts k x y) (hk : (k : Int) ≠ lineS s x) (hd : ¬ dn k) (hy : y < nb) :
    Work ls ts us nb (s.set y ((supAt s x).1, (k : Int))) x (fun j => dn j ∨ j = k) (q ++ [y]) ∧ leftM (markS (s.set y ((supAt s x).1, (k : Int)))) nb + 1 ≤ leftM (markS s) nb ∧ supAt (s.set y ((supAt s x).1, (k : Int))) x = supAt s x := by
  have hn := work_new ha ho h hl hk hd
  have hyl : y < s.length := by rw [h.sp.len]; exact hy
  have hxy : x ≠ y := fun e => by have := h.mx; rw [e, hn] at this; cases this
  have hx0 : 0 ≤ (supAt s x).1 := by simpa [markS] using h.mx
  have es := supAt_set (s := s) hyl ((supAt s x).1, (k : Int))
  have em : ∀ b, markS (s.set y ((supAt s x).1, (k : Int))) b = if b = y then true else markS s b := fun b => by
    unfold markS; rw [es]; split
    · simpa using hx0
    · rfl
  have ep : ∀ b, lineS (s.set y ((supAt s x).1, (k : Int))) b = if b = y then (k : Int) else lineS s b := fun b => by
    unfold lineS; rw [es]; split <;> rfl
  have hgr := h.sp.gr.mark hl h.mx hn em ep
  have hyq : y ∉ q := fun hq => by rw [(h.qm y hq).1] at hn; cases hn
  have hsx : supAt (s.set y ((supAt s x).1, (k : Int))) x = supAt s x := by rw [es, if_neg hxy]
  have hlm := leftM_mark hn hy em
  have hlen : (s.set y ((supAt s x).1, (k : Int))).length = nb := by rw [List.length_set]; exact h.sp.len
  generalize s.set y ((supAt s x).1, (k : Int)) = s' at *
  have sub : ∀ {b}, b ≠ y → markS s' b = true → markS s b = true := fun {b} e hb => by rw [em, if_neg e] at hb; exact hb
  have up : ∀ {b}, markS s b = true → markS s' b = true := fun {b} hb => by rw [em]; split <;> simp [hb]
  refine ⟨⟨⟨?_, hgr, fun b hb => ?_, fun b hb => ?_⟩, up h.mx, fun b hb => ?_, ?_, fun c j u hm hp hlc => ?_, fun u v j hm hu hx hlc => ?_⟩, hlm, hsx⟩
  · exact hlen
  · by_cases e : b = y
    · subst e
      obtain ⟨f, e1, e2, e3⟩ := h.sp.fe x h.mx
      exact ⟨f, by rw [es, if_pos rfl]; exact e1, e2, e3.trans hl.conn⟩
    · obtain ⟨f, e1, e2, e3⟩ := h.sp.fe b (sub e hb)
      exact ⟨f, by rw [es, if_neg e]; exact e1, e2, e3⟩
  · rw [em] at hb
    by_cases e : b = y
    · rw [if_pos e] at hb; cases hb
    · rw [if_neg e] at hb; rw [es, if_neg e]; exact h.sp.un b hb
  · rcases List.mem_append.1 hb with hb | hb
    · exact ⟨up (h.qm b hb).1, (h.qm b hb).2⟩
    · obtain rfl : b = y := by simpa using hb
      exact ⟨by rw [em, if_pos rfl], fun e => hxy e.symm⟩
  · rw [List.nodup_append]
    refine ⟨h.nd, by simp, fun a ha b hb e => ?_⟩
    obtain rfl : b = y := by simpa using hb
    subst e; exact hyq ha
  · by_cases e : c = y
    · subst e
      rw [ep, if_pos rfl] at hp
      obtain rfl : k = j := by omega
      have hu : u = x := by
        rcases Ln.two hl hlc with ⟨e1, _⟩ | ⟨_, e1⟩
        · exact e1
        · exact absurd e1.symm hxy
      subst hu
      refine ⟨fun hq => ?_, fun _ => .inr rfl⟩
      rcases List.mem_append.1 hq with hq | hq
      · exact (h.qm u hq).2 rfl
      · exact hxy (by simpa using hq)
    · rw [ep, if_neg e] at hp
      obtain ⟨q1, q2⟩ := h.ch c j u (sub e hm) hp hlc
      refine ⟨fun hq => ?_, fun e2 => .inl (q2 e2)⟩
      rcases List.mem_append.1 hq with hq | hq
      · exact q1 hq
      · -- y has no bus behind it yet: the other end of a marked bus's line is marked
        obtain rfl : u = y := by simpa using hq
        have hmc := sub e hm
        by_cases hf : 0 < fd us c
        · have := (h.sp.gr.fe c hf).2; omega
        · obtain ⟨k', o, ws, e3, hl', hmo, _⟩ := h.sp.gr.pa c hmc hf
          obtain rfl : j = k' := by omega
          rcases Ln.two hlc hl' with ⟨e4, _⟩ | ⟨_, e4⟩
          · rw [e4, hn] at hmo; cases hmo
          · exact e e4
  · by_cases e : u = y
    · subst e
      exact absurd (List.mem_append_right q (by simp)) hu
    · have hu2 : u ∉ q := fun hq => hu (List.mem_append_left _ hq)
      by_cases e2 : u = x ∧ j = k
      · obtain ⟨rfl, rfl⟩ := e2
        have hv : v = y := by
          rcases Ln.two hl hlc with ⟨_, e1⟩ | ⟨e1, _⟩
          · exact e1
          · exact absurd e1 hxy
        rw [em, if_pos hv]
      · refine up (h.cl u v j (sub e hm) hu2 (fun e3 => ?_) hlc)
        rcases hx e3 with q | q
        · exact q
        · exact absurd ⟨e3, q⟩ e2
/-- At the start: k of the buses are laid. -/
def sup0 (us : List U2) (nb k : Nat) : List U2 := (List.range nb).map fun b => if b < k then (if 0 < fd us b then ((b : Int), -1) else (-1, -1)) else (0, 0)
theorem sup0_len (us : List U2) (nb k : Nat) : (sup0 us nb k).length = nb := by simp [sup0]
theorem sup0_get {us : List U2} {nb k b : Nat} (hb : b < nb) : (sup0 us nb k)[b]? = some (if b < k then (if 0 < fd us b then ((b : Int), -1) else (-1, -1)) else (0, 0)) := by
  rw [sup0, List.getElem?_map, List.getElem?_range hb]; rfl
theorem sup0_zero (us : List U2) (nb : Nat) : sup0 us nb 0 = List.replicate nb (0, 0) := by
  apply List.ext_getElem?
  intro b
  rcases Nat.lt_or_ge b nb with hb | hb
  · rw [sup0_get hb, List.getElem?_replicate, if_pos hb]; simp
  · rw [List.getElem?_eq_none (by rw [sup0_len]; exact hb), List.getElem?_eq_none (by simpa using hb)]
theorem sup0_succ {us : List U2} {nb k : Nat} : sup0 us nb (k + 1) = (sup0 us nb k).set k (if 0 < fd us k then ((k : Int), -1) else (-1, -1)) := by
  apply List.ext_getElem?
  intro b
  rcases Nat.lt_or_ge b nb with hb | hb
  · rw [sup0_get hb, List.getElem?_set]
    by_cases e : k = b
    · subst e; simp [sup0_len, hb]
    · rw [if_neg e, sup0_get hb]
      congr 1
      by_cases h : b < k
      · rw [if_pos h, if_pos (by omega)]
      · rw [if_neg h, if_neg (by omega)]
  · rw [List.getElem?_eq_none (by rw [sup0_len]; exact hb), List.getElem?_eq_none (by rw [List.length_set, sup0_len]; exact hb)]
def feedsTo (us : List U2) (k : Nat) : List Nat := (List.range k).filter fun b => decide (0 < fd us b)
theorem feedsTo_yes {us : List U2} {k : Nat} (h : 0 < fd us k) : feedsTo us (k + 1) = feedsTo us k ++ [k] := by
  unfold feedsTo; rw [List.range_succ, List.filter_append]; simp [h]
theorem feedsTo_no {us : List U2} {k : Nat} (h : ¬ 0 < fd us k) : feedsTo us (k + 1) = feedsTo us k := by
  unfold feedsTo; rw [List.range_succ, List.filter_append]; simp [h]
theorem feedsTo_len (us : List U2) (k : Nat) : (feedsTo us k).length ≤ k := Nat.le_trans (List.length_filter_le _ _) (by simp)
theorem queue_start (hu : us.length = nb) : Queue ls ts us nb (sup0 us nb nb) (feedsTo us nb) := by
  have e : ∀ b, supAt (sup0 us nb nb) b = if 0 < fd us b then ((b : Int), -1) else (-1, -1) := fun b => by
    rcases Nat.lt_or_ge b nb with hb | hb
    · rw [supAt_get (sup0_get hb), if_pos hb]
    · unfold supAt
      rw [List.getD_eq_getElem?_getD, List.getElem?_eq_none (by rw [sup0_len]; exact hb), if_neg fun h => absurd (fd_lt h) (by omega)]; rfl
  have hm : ∀ b, markS (sup0 us nb nb) b = true → 0 < fd us b := fun b hb => by
    unfold markS at hb; rw [e] at hb
    by_cases h : 0 < fd us b
    · exact h
    · rw [if_neg h] at hb; simp at hb
  have hf : ∀ b, 0 < fd us b → markS (sup0 us nb nb) b = true ∧ lineS (sup0 us nb nb) b = -1 := fun b hb => by
    unfold markS lineS; rw [e, if_pos hb]; exact ⟨by simp, rfl⟩
  have hq : ∀ b, b ∈ feedsTo us nb ↔ 0 < fd us b := fun b => by
    rw [feedsTo, List.mem_filter, List.mem_range, decide_eq_true_eq]
    exact ⟨fun h => h.2, fun h => ⟨by have := fd_lt h; omega, h⟩⟩
  refine ⟨⟨sup0_len us nb nb, grow_start hf hm, fun b hb => ⟨b, by rw [e, if_pos (hm b hb)], hm b hb, Conn.refl _⟩, fun b hb => ?_⟩, fun b hb => (hf b ((hq b).1 hb)).1, List.Pairwise.filter _ List.nodup_range, fun y k u hy hp hl => ?_, fun u v k hmu hu hl => absurd ((hq u).2 (hm u hmu)) hu⟩
  · by_cases h : 0 < fd us b
    · rw [(hf b h).1] at hb; cases hb
    · rw [e, if_neg h]
  · have := (hf y (hm y hy)).2; omega
noncomputable def supF (ls : List L3) (ts : List Bool) (us : List U2) (nb : Nat) : List U2 := (List.range nb).map fun b => (feedOf (edgesOn ls ts) nb us b, hd1 (wayF ls ts us b))
theorem supF_len : (supF ls ts us nb).length = nb := by simp [supF]
theorem supF_get {b : Nat} (hb : b < nb) : (supF ls ts us nb)[b]? = some (feedOf (edgesOn ls ts) nb us b, hd1 (wayF ls ts us b)) := by
  rw [supF, List.getElem?_map, List.getElem?_range hb]; rfl
theorem queue_end (ha : Acyc ls ts) (ho : OneFeed (edgesOn ls ts) us) (hu : us.length = nb) (h : Queue ls ts us nb s []) : s = supF ls ts us nb := by
  have hf := h.sp.gr.fed (fun k u v hl hm => h.cl u v k hm (by simp) hl)
  apply List.ext_getElem?
  intro b
  rcases Nat.lt_or_ge b nb with hb | hb
  · rw [supF_get hb]
    have e : s[b]? = some (supAt s b) := by unfold supAt; rw [List.getD_eq_getElem?_getD, List.getElem?_eq_getElem (by rw [h.sp.len]; exact hb)]; rfl
    rw [e]; congr 1
    have hfb := hf b
    rw [← fedB_iff] at hfb
    cases hm : markS s b
    · have hn : fedB (edgesOn ls ts) us b = false := by
        rw [Bool.eq_false_iff]; intro q; rw [hfb.2 q] at hm; cases hm
      rw [h.sp.un b hm, feedOf_none hn, wayF_unfed hn]; rfl
    · obtain ⟨ws, hw, ew⟩ := h.sp.gr.way hm
      obtain ⟨f, e1, e2, e3⟩ := h.sp.fe b hm
      rw [feedOf_some ho e2 e3 hu, wayF_of ha ho hw]
      exact Prod.ext e1 ew
  · rw [List.getElem?_eq_none (by rw [h.sp.len]; exact hb), List.getElem?_eq_none (by rw [supF_len]; exact hb)]
end
/-! In which order buses are marked: each behind the one that it is fed through. -/
structure Hist (ls : List L3) (ts : List Bool) (s : List U2) (dq : List Nat) : Prop where
  nd : dq.Nodup
  me : ∀ b, markS s b = true ↔ b ∈ dq
  pa : ∀ i y k u, dq[i]? = some y → lineS s y = ((k : Nat) : Int) → Ln ls ts k u y → u ∈ dq.take i
section
variable {ls : List L3} {ts : List Bool} {us : List U2} {nb k x y : Nat} {s : List U2} {dq : List Nat}
theorem hist_mark (h : Hist ls ts s dq) (hx : markS s x = true) (hl : Ln ls ts k x y) (hn : markS s y = false) (hy : y < s.length) : Hist ls ts (s.set y ((supAt s x).1, (k : Int))) (dq ++ [y]) := by
  have hx0 : 0 ≤ (supAt s x).1 := by simpa [markS] using hx
  have es := supAt_set (s := s) hy ((supAt s x).1, (k : Int))
  have em : ∀ b, markS (s.set y ((supAt s x).1, (k : Int))) b = if b = y then true else markS s b := fun b => by
    unfold markS; rw [es]; split
    · simpa using hx0
    · rfl
  have ep : ∀ b, lineS (s.set y ((supAt s x).1, (k : Int))) b = if b = y then (k : Int) else lineS s b := fun b => by
    unfold lineS; rw [es]; split <;> rfl
  have hxy : x ≠ y := fun e => by rw [e, hn] at hx; cases hx
  have hyd : y ∉ dq := fun hm => by rw [(h.me y).2 hm] at hn; cases hn
  refine ⟨?_, fun b => ?_, fun i z j u hi hp hlz => ?_⟩
  · rw [List.nodup_append]
    refine ⟨h.nd, by simp, fun a ha b hb e => ?_⟩
    obtain rfl : b = y := by simpa using hb
    subst e; exact hyd ha
  · rw [em, List.mem_append]
    by_cases e : b = y
    · subst e; simp
    · rw [if_neg e, h.me]; simp [e]
  · rcases Nat.lt_or_ge i dq.length with hlt | hge
    · rw [List.getElem?_append_left hlt] at hi
      rw [List.take_append_of_le_length (by omega)]
      have hz : z ≠ y := fun e => hyd (e ▸ List.mem_of_getElem? hi)
      rw [ep, if_neg hz] at hp
      exact h.pa i z j u hi hp hlz
    · have hi2 : i < dq.length + 1 := by simpa using (List.getElem?_eq_some_iff.1 hi).1
      obtain rfl : i = dq.length := by omega
      rw [List.getElem?_append_right (Nat.le_refl _), Nat.sub_self] at hi
      obtain rfl : y = z := by simpa using hi
      rw [ep, if_pos rfl] at hp
      obtain rfl : k = j := by omega
      have hu : u = x := by
        rcases Ln.two hl hlz with ⟨e1, _⟩ | ⟨_, e1⟩
        · exact e1
        · exact absurd e1.symm hxy
      subst hu
      rw [List.take_append_of_le_length (Nat.le_refl _), List.take_length]
      exact (h.me u).1 hx
theorem feedsTo_mem (hu : us.length = nb) (b : Nat) : b ∈ feedsTo us nb ↔ 0 < fd us b := by
  rw [feedsTo, List.mem_filter, List.mem_range, decide_eq_true_eq]
  exact ⟨fun h => h.2, fun h => ⟨by have := fd_lt h; omega, h⟩⟩
theorem hist_start (hu : us.length = nb) : Hist ls ts (sup0 us nb nb) (feedsTo us nb) := by
  have e : ∀ b, supAt (sup0 us nb nb) b = if 0 < fd us b then ((b : Int), -1) else (-1, -1) := fun b => by
    rcases Nat.lt_or_ge b nb with hb | hb
    · rw [supAt_get (sup0_get hb), if_pos hb]
    · unfold supAt
      rw [List.getD_eq_getElem?_getD, List.getElem?_eq_none (by rw [sup0_len]; exact hb), if_neg fun h => absurd (fd_lt h) (by omega)]; rfl
  refine ⟨List.Pairwise.filter _ List.nodup_range, fun b => ?_, fun i y k u _ hp _ => ?_⟩
  · rw [feedsTo_mem hu, markS, e]
    by_cases h : 0 < fd us b
    · simp [h]
    · simp [h]
  · rw [lineS, e] at hp
    split at hp <;> simp at hp <;> omega
theorem conn_lt {m a b : Nat} (hs : stOk nb ls m = true) (ha : a < nb) (h : Conn (edgesOn ls ts) a b) : b < nb := by
  refine Conn.closed (p := fun x => x < nb) (fun e he => ?_) h ha
  obtain ⟨j, hj⟩ := (adj_ln (u := e.1) (v := e.2)).1 (.inl he)
  have h1 := hj.lt (stOk_net hs)
  have h2 := hj.symm.lt (stOk_net hs)
  exact ⟨fun _ => by omega, fun _ => by omega⟩
/-- Then: all that are fed, each once, each behind the one that it is fed through. -/
structure Ord (ls : List L3) (ts : List Bool) (us : List U2) (zs : List Nat) : Prop where
  nd : zs.Nodup
  me : ∀ b, b ∈ zs ↔ ∃ f, 0 < fd us f ∧ Conn (edgesOn ls ts) f b
  pa : ∀ i y k ws u, zs[i]? = some y → wayF ls ts us y = k :: ws → Ln ls ts k u y → u ∈ zs.take i
theorem hist_end (ho : OneFeed (edgesOn ls ts) us) (hu : us.length = nb) (hb : ∀ b, (∃ f, 0 < fd us f ∧ Conn (edgesOn ls ts) f b) → b < nb) (h : Hist ls ts (supF ls ts us nb) dq) : Ord ls ts us dq := by
  have e : ∀ b, b < nb → supAt (supF ls ts us nb) b = (feedOf (edgesOn ls ts) nb us b, hd1 (wayF ls ts us b)) := fun b hb => supAt_get (supF_get hb)
  refine ⟨h.nd, fun b => ?_, fun i y k ws u hi hw hl => h.pa i y k u hi ?_ hl⟩
  · rw [← h.me]
    constructor
    · intro hm
      have hlt : b < nb := by
        rcases Nat.lt_or_ge b nb with q | q
        · exact q
        · unfold markS supAt at hm
          rw [List.getD_eq_getElem?_getD, List.getElem?_eq_none (by rw [supF_len]; exact q)] at hm
          simp at hm
      unfold markS at hm
      rw [e b hlt] at hm
      refine fedB_iff.1 ?_
      cases q : fedB (edgesOn ls ts) us b
      · rw [feedOf_none q] at hm; simp at hm
      · rfl
    · intro hf
      have hlt := hb b hf
      obtain ⟨f, h1, h2⟩ := hf
      rw [markS, e b hlt, feedOf_some ho h1 h2 hu]
      simp
  · have hy : y < nb := by
      have hm := (h.me y).2 (List.mem_of_getElem? hi)
      rcases Nat.lt_or_ge y nb with q | q
      · exact q
      · unfold markS supAt at hm
        rw [List.getD_eq_getElem?_getD, List.getElem?_eq_none (by rw [supF_len]; exact q)] at hm
        simp at hm
    rw [lineS, e y hy, hw]; rfl
end
end Go.Proofs.YtapbmpodimdkpaaDoor
