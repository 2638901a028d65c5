/- Reading of texts, the program's half: what the library says (as hypotheses), numberIn, lineIn. -/
import Derived.Test.YtfedffekbemcoaaDoorR3
import Derived.Test.YtfedffekbemcoaaDoorT3
import Derived.Outline
namespace Go.Proofs.YtfedffekbemcoaaDoor
open Go.ChangeShapes Go.WideShapes Go.ChangeAt Go.RowKit

/-- The library's variables that reading leans on. -/
structure LibEnv (w : World) : Prop where
  maxl : ∃ m, w.cell? ⟨0, 0, none⟩ = some (.int .i64 m)
  syn : ∃ tp p, w.cell? ⟨4, 0, none⟩ = some (.iface tp p)
  ran : ∃ tp p, w.cell? ⟨5, 0, none⟩ = some (.iface tp p)
  pow : PowTab w
theorem LibEnv.keep {w w' : World} (h : LibEnv w) (hb : Below w.heap.size w w') : LibEnv w' := by
  obtain ⟨⟨m, h1⟩, ⟨tp, p, h2⟩, ⟨tq, q, h3⟩, h4⟩ := h
  exact ⟨⟨m, (hb.cell (World.block_lt_of_cell? w _ h1)).trans h1⟩, ⟨tp, p, (hb.cell (World.block_lt_of_cell? w _ h2)).trans h2⟩, ⟨tq, q, (hb.cell (World.block_lt_of_cell? w _ h3)).trans h3⟩, h4.keep hb (Nat.le_refl _)⟩

def CutSays : Prop := ∀ (p : Bs) (sep : UInt8) (w : World), p.length ≤ 2000000 → LibEnv w →
  Calls Tryd.prog 71 #[.string ⟨p.toArray⟩, .string ⟨#[sep]⟩] w fun e w' => e = .returned (.tuple #[strV (Lib.cut p [sep]).1, strV (Lib.cut p [sep]).2.1, .bool (Lib.cut p [sep]).2.2]) ∧ Below w.heap.size w w'
/-- Atoi: a number and nil, or some number and an error that is not nil. -/
def AtoiEnd (p : Bs) (w : World) (e : Ending) (w' : World) : Prop :=
  match Lib.atoiAll p with
  | .ok v => e = .returned (.tuple #[.int .i64 v, .nilIface]) ∧ Below w.heap.size w w'
  | _ => (∃ v t N, e = .returned (.tuple #[.int .i64 v, .iface t (.pointer (some ⟨N, 0, none⟩))])) ∧ Below w.heap.size w w'
def AtoiSays : Prop := ∀ (p : Bs) (w : World), p.length ≤ 2000000 → LibEnv w → Calls Tryd.prog 82 #[.string ⟨p.toArray⟩] w (AtoiEnd p w)
def SplitSays : Prop := ∀ (s : ByteArray) (w : World), s.size ≤ 2000000 → LibEnv w →
  Calls Tryd.prog 48 #[.string s, .string ⟨#[32]⟩, .int .i64 12] w fun e w' => ∃ v c, e = .returned (.slice (some ⟨v, 0, none⟩) (Lib.splitK [32] 0 (min 12 (s.size + 1) - 1) s.data.toList).length c) ∧
    (Lib.splitK [32] 0 (min 12 (s.size + 1) - 1) s.data.toList).length ≤ c ∧ c ≤ 12 ∧ RowV w' (some ⟨v, 0, none⟩) (Lib.splitK [32] 0 (min 12 (s.size + 1) - 1) s.data.toList).length ((Lib.splitK [32] 0 (min 12 (s.size + 1) - 1) s.data.toList).map strV) ∧ Below w.heap.size w w'

theorem numberIn_any (hA : AtoiSays) (p : Bs) (hp : p.length ≤ 2000000) (w : World) (hl : LibEnv w) :
    Calls Tryd.prog 72 #[.string ⟨p.toArray⟩] w fun e w' => e = .returned (.int .i64 (numP p)) ∧ Below w.heap.size w w' := by
  have h := hA p w hp hl
  have HN := Lib.hid (show numP p = match Lib.atoiAll p with | .ok v => v | _ => -1 from rfl)
  generalize numP p = x at *
  unfold AtoiEnd at h
  generalize Lib.atoiAll p = r at *
  have H := Lib.hid h
  clear h hA
  go_enter Tryd.func72, Tryd.ntmps72
  go_wp2_with fail
  refine H.out.mono ?_
  intro e w1 he
  rcases r with v | _ | _
  · obtain ⟨rfl, hb⟩ := he
    have HX := Lib.hid (show x = v from HN.out)
    clear H HN
    go_wp2
    go_ret
    exact ⟨retI HX.out.symm, hb⟩
  all_goals
    obtain ⟨⟨v, t, N, rfl⟩, hb⟩ := he
    have HX := Lib.hid (show x = -1 from HN.out)
    clear H HN
    go_wp2
    go_ret
    exact ⟨retI HX.out.symm, hb⟩
end Go.Proofs.YtfedffekbemcoaaDoor
