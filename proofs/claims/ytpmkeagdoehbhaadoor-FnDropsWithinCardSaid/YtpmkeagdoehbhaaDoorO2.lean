/- FnLineFlow: the walk. -/
import Derived.Test.YtpmkeagdoehbhaaDoorY9
import Derived.Test.YtpmkeagdoehbhaaDoorBZB
import Derived.Test.YtpmkeagdoehbhaaDoorBZA
import Derived.Test.YtpmkeagdoehbhaaDoorC7
import Derived.Deep.RegionHeld3
namespace Go.Proofs.YtpmkeagdoehbhaaDoor
open Go.ChangeShapes Go.WideShapes Go.ChangeAt Go.RowKit

/-- What a law's body holds on to: what was drawn, as it was drawn. -/
structure LawSt (w W : World) (X : Nat) (bs : Int) (A1 : Option Addr) (c1 : Nat) (ls : List L3) (A2 : Option Addr) (ts : List Bool) (A3 : Option Addr) (us : List U2) : Prop where
  bel : Below w.heap.size w W
  net : IsBlk W X 25 #[.int .i64 bs, .slice A1 ls.length c1]
  row : RowL W A1 ls.length ls
  tr : RowT W A2 ts.length ts
  bu : RowU W A3 us.length us
section
variable {w W W' : World} {X : Nat} {bs : Int} {A1 : Option Addr} {c1 : Nat} {ls : List L3} {A2 : Option Addr} {ts : List Bool} {A3 : Option Addr} {us : List U2}
theorem LawSt.next (h : LawSt w W X bs A1 c1 ls A2 ts A3 us) (hb : Below W.heap.size W W') : LawSt w W' X bs A1 c1 ls A2 ts A3 us :=
  ⟨h.bel.trans (hb.mono h.bel.size), h.net.keep hb, h.row.below hb, h.tr.below hb, h.bu.below hb⟩
end
theorem lat_same (ls : List L3) (b : Nat) : latN ls b = latB ls b := rfl
theorem holdL {w0 w w' : World} {X b o : Nat} {u v z : Value} (p0 : w.cell? ⟨X, 0, none⟩ = some u) (p1 : w.cell? ⟨X, 1, none⟩ = some v) (hX : X < w.heap.size) (e0 : w.cell? ⟨b, o, none⟩ = some z) (hbe : b < w.heap.size) (h0 : Below w0.heap.size w0 w) (hb : Below w.heap.size w w') :
    Below w0.heap.size w0 w' ∧ w'.cell? ⟨X, 0, none⟩ = some u ∧ w'.cell? ⟨X, 1, none⟩ = some v ∧ w'.cell? ⟨b, o, none⟩ = some z :=
  ⟨h0.trans (hb.mono h0.size), (hb.cell (p := ⟨X, 0, none⟩) hX).trans p0, (hb.cell (p := ⟨X, 1, none⟩) hX).trans p1, (hb.cell (p := ⟨b, o, none⟩) hbe).trans e0⟩
theorem runL {w0 w w' : World} {p : Prop} (h : Below w0.heap.size w0 w ∧ p) (hb : Below w.heap.size w w') : Below w0.heap.size w0 w' := h.1.trans (hb.mono h.1.size)

end Go.Proofs.YtpmkeagdoehbhaaDoor
