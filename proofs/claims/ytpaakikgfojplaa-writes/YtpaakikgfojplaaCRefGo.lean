import Derived.Test.YtpaakikgfojplaaCRefLine
import Derived.Deep.RegionHeld3
import Derived.Deep.DrawnRows
/-
  THE WALKS of beaconref: Path, Final, missing, pool, slots; what goes with a header.
-/
namespace Go.Proofs.Ytpaakikgfojplaa
open Go.RowKit Num Bk
set_option linter.unusedVariables false

/-- A header's seven cells. -/
structure HdrAt (w : World) (g i : Nat) (h : Hdr) : Prop where
  c0 : w.cell? ⟨g, i * 8, none⟩ = some (.int .i64 h.slot)
  c1 : w.cell? ⟨g, i * 8 + 1, none⟩ = some (.int .i64 h.pool)
  c2 : w.cell? ⟨g, i * 8 + 2, none⟩ = some (.int .i64 h.proof)
  c3 : w.cell? ⟨g, i * 8 + 3, none⟩ = some (.int .i64 h.count)
  c4 : w.cell? ⟨g, i * 8 + 4, none⟩ = some (.int .i64 h.frm)
  c5 : w.cell? ⟨g, i * 8 + 5, none⟩ = some (.int .i64 h.dst)
  c6 : w.cell? ⟨g, i * 8 + 6, none⟩ = some (.int .i64 h.amount)

end Go.Proofs.Ytpaakikgfojplaa

