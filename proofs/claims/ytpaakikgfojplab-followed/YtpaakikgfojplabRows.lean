/-
  No cell of these rows narrows 'for every input' (looked for: loops, veiled, ifaces, maps, wideKeys, modest, calm, conditions, laid).
  DERIVED. THE GIVEN ROWS OF THIS SEAT. 6 by the template 'for every input the law returns true; each argument reads behind the call as it read before'; 0 by the template 'total and deterministic' (their statements: YtpaakikgfojplabTotals.lean).
  GIVEN WITH THE SEED: the statements are not yours to turn. If you find one false, say at which input.
  Laid BY PROGRAM, IN A SANDBOX (cutbox-rows.mjs): the forced cells as the released guide's own fill.sh prints them over the translation 719b1ae5706c37db… (all of the seat's roots in one cut). By AI agents, Wed Nov 11 2026. No macro, syntax, notation, axiom, sorry.
-/
import Derived.Test.YtpaakikgfojplabChecked
import GoSem.Claim
import GoSem.ClaimJoined
import GoSem.ClaimMapViews
import Derived.JoinedTies
import Derived.KernelRfl
namespace Go.Proofs.Ytpaakikgfojplab
/- THE CELL 'sum', in the pinned program and in every row, IS THE sha256 OF THE DUMP (.gsa) THAT YtpaakikgfojplabProg.lean LOADS. Nothing in Lean hashes anything: it is a label: what it is worth is what the hold of that sum in a sandbox is worth. -/
noncomputable def Try.pinned : Pinned := { name := "ytpaakikgfojplab", sum := "719b1ae5706c37db9d655aee2baa5d0eca004fd22aed1bfa2efb8b6e1bd55742", checked := Try.checked }
namespace Rows
def none {H : Type} : Left H := { results := [], args := [] }

/-- 'beaconkeep.Rooted': WHATEVER THE INPUT: true; the input reads as it did. -/
def rootedSpec : ChangeSpec := { name := "rooted", fn := fun _ => fun
  | [d1, d2] => { results := [.lit (.bool true)], args := [d1, d2] }
  | _ => none }
def rootedRow : OpenClaim := { program := "ytpaakikgfojplab", sum := "719b1ae5706c37db9d655aee2baa5d0eca004fd22aed1bfa2efb8b6e1bd55742", func := "beacon/beaconkeep.Rooted", spec := "rooted", apart := false }
def RootedSaid : Prop := rootedRow.holds Try.pinned (OpenSpec.ofChange rootedSpec)

/-- ITS FALSE NEIGHBOUR: 'it returns false'. Refute it at one input. -/
def rootedWrong : ChangeSpec := { name := "rooted", fn := fun _ => fun
  | [d1, d2] => { results := [.lit (.bool false)], args := [d1, d2] }
  | _ => none }
def RootedWrongFalsely : Prop := rootedRow.holds Try.pinned (OpenSpec.ofChange rootedWrong)

/-- 'beaconkeep.Strict': WHATEVER THE INPUT: true; the input reads as it did. -/
def strictSpec : ChangeSpec := { name := "strict", fn := fun _ => fun
  | [d1, d2, d3, d4] => { results := [.lit (.bool true)], args := [d1, d2, d3, d4] }
  | _ => none }
def strictRow : OpenClaim := { program := "ytpaakikgfojplab", sum := "719b1ae5706c37db9d655aee2baa5d0eca004fd22aed1bfa2efb8b6e1bd55742", func := "beacon/beaconkeep.Strict", spec := "strict", apart := false }
def StrictSaid : Prop := strictRow.holds Try.pinned (OpenSpec.ofChange strictSpec)

/-- ITS FALSE NEIGHBOUR: 'it returns false'. Refute it at one input. -/
def strictWrong : ChangeSpec := { name := "strict", fn := fun _ => fun
  | [d1, d2, d3, d4] => { results := [.lit (.bool false)], args := [d1, d2, d3, d4] }
  | _ => none }
def StrictWrongFalsely : Prop := strictRow.holds Try.pinned (OpenSpec.ofChange strictWrong)

/-- 'beaconkeep.Mirror': WHATEVER THE INPUT: true; the input reads as it did. -/
def mirrorSpec : ChangeSpec := { name := "mirror", fn := fun _ => fun
  | [d1, d2, d3] => { results := [.lit (.bool true)], args := [d1, d2, d3] }
  | _ => none }
def mirrorRow : OpenClaim := { program := "ytpaakikgfojplab", sum := "719b1ae5706c37db9d655aee2baa5d0eca004fd22aed1bfa2efb8b6e1bd55742", func := "beacon/beaconkeep.Mirror", spec := "mirror", apart := false }
def MirrorSaid : Prop := mirrorRow.holds Try.pinned (OpenSpec.ofChange mirrorSpec)

/-- ITS FALSE NEIGHBOUR: 'it returns false'. Refute it at one input. -/
def mirrorWrong : ChangeSpec := { name := "mirror", fn := fun _ => fun
  | [d1, d2, d3] => { results := [.lit (.bool false)], args := [d1, d2, d3] }
  | _ => none }
def MirrorWrongFalsely : Prop := mirrorRow.holds Try.pinned (OpenSpec.ofChange mirrorWrong)

/-- 'beaconkeep.Coded': WHATEVER THE INPUT: true; the input reads as it did. -/
def codedSpec : ChangeSpec := { name := "coded", fn := fun _ => fun
  | [d1, d2] => { results := [.lit (.bool true)], args := [d1, d2] }
  | _ => none }
def codedRow : OpenClaim := { program := "ytpaakikgfojplab", sum := "719b1ae5706c37db9d655aee2baa5d0eca004fd22aed1bfa2efb8b6e1bd55742", func := "beacon/beaconkeep.Coded", spec := "coded", apart := false }
def CodedSaid : Prop := codedRow.holds Try.pinned (OpenSpec.ofChange codedSpec)

/-- ITS FALSE NEIGHBOUR: 'it returns false'. Refute it at one input. -/
def codedWrong : ChangeSpec := { name := "coded", fn := fun _ => fun
  | [d1, d2] => { results := [.lit (.bool false)], args := [d1, d2] }
  | _ => none }
def CodedWrongFalsely : Prop := codedRow.holds Try.pinned (OpenSpec.ofChange codedWrong)

/-- 'beaconkeep.Exact': WHATEVER THE INPUT: true; the input reads as it did. -/
def exactSpec : ChangeSpec := { name := "exact", fn := fun _ => fun
  | [d] => { results := [.lit (.bool true)], args := [d] }
  | _ => none }
def exactRow : OpenClaim := { program := "ytpaakikgfojplab", sum := "719b1ae5706c37db9d655aee2baa5d0eca004fd22aed1bfa2efb8b6e1bd55742", func := "beacon/beaconkeep.Exact", spec := "exact", apart := false }
def ExactSaid : Prop := exactRow.holds Try.pinned (OpenSpec.ofChange exactSpec)

/-- ITS FALSE NEIGHBOUR: 'it returns false'. Refute it at one input. -/
def exactWrong : ChangeSpec := { name := "exact", fn := fun _ => fun
  | [d] => { results := [.lit (.bool false)], args := [d] }
  | _ => none }
def ExactWrongFalsely : Prop := exactRow.holds Try.pinned (OpenSpec.ofChange exactWrong)

/-- 'beaconkeep.Followed': WHATEVER THE INPUT: true; the input reads as it did. -/
def followedSpec : ChangeSpec := { name := "followed", fn := fun _ => fun
  | [d1, d2] => { results := [.lit (.bool true)], args := [d1, d2] }
  | _ => none }
def followedRow : OpenClaim := { program := "ytpaakikgfojplab", sum := "719b1ae5706c37db9d655aee2baa5d0eca004fd22aed1bfa2efb8b6e1bd55742", func := "beacon/beaconkeep.Followed", spec := "followed", apart := false }
def FollowedSaid : Prop := followedRow.holds Try.pinned (OpenSpec.ofChange followedSpec)

/-- ITS FALSE NEIGHBOUR: 'it returns false'. Refute it at one input. -/
def followedWrong : ChangeSpec := { name := "followed", fn := fun _ => fun
  | [d1, d2] => { results := [.lit (.bool false)], args := [d1, d2] }
  | _ => none }
def FollowedWrongFalsely : Prop := followedRow.holds Try.pinned (OpenSpec.ofChange followedWrong)

/- THE SECOND FORM. 'bulk': how many values and letters a reading holds, each counted each time it is reached (what is shared counts as often as it is met; a slice's spare places count too). A statement '..UptoSaid' is the law's where the arguments, and the package variables that the reading takes, are together of bulk at most 1048576: NARROWER than '..Said'. Prove '..Said' where nothing that the law and all that it calls make is longer than what came in: it says more and counts as full. Else prove '..UptoSaid'. A law counts once. -/
mutual
def uptoBulk {H : Type} : DataW H → Nat
  | .lit (.string bytes) => bytes.length + 1
  | .lit _ => 1
  | .nil => 1
  | .ptr d => uptoBulk d + 1
  | .slice elems spare => uptoBulkAll elems + uptoBulkAll spare + 1
  | .agg parts => uptoBulkAll parts + 1
  | .iface _ d => uptoBulk d + 1
  | .map entries => uptoBulkEntries entries + 1
  | .held _ => 1
def uptoBulkAll {H : Type} : List (DataW H) → Nat
  | [] => 0
  | d :: r => uptoBulk d + uptoBulkAll r
def uptoBulkEntries {H : Type} : List (Lit × DataW H) → Nat
  | [] => 0
  | x :: r => uptoBulkEntry x + uptoBulkEntries r
def uptoBulkEntry {H : Type} : Lit × DataW H → Nat
  | (.string bytes, d) => bytes.length + uptoBulk d + 1
  | (_, d) => uptoBulk d + 1
 end
def uptoSmall : (H : Type) → List (DataW H) → Bool := fun _ ds => decide (uptoBulkAll ds ≤ 1048576)
def OpenSpec.upto (s : _root_.Go.ChangeSpec) : _root_.Go.OpenSpec := { _root_.Go.OpenSpec.ofChange s with cond := some uptoSmall }

/-- 'beaconkeep.Rooted', WHERE WHAT IT READS IS OF BULK AT MOST 1048576: true; the input reads as it did. -/
def rootedUptoRow : OpenClaim := { program := "ytpaakikgfojplab", sum := "719b1ae5706c37db9d655aee2baa5d0eca004fd22aed1bfa2efb8b6e1bd55742", func := "beacon/beaconkeep.Rooted", spec := "rooted", apart := false, narrowed := true }
def RootedUptoSaid : Prop := rootedUptoRow.holds Try.pinned (OpenSpec.upto rootedSpec)

/-- 'beaconkeep.Strict', WHERE WHAT IT READS IS OF BULK AT MOST 1048576: true; the input reads as it did. -/
def strictUptoRow : OpenClaim := { program := "ytpaakikgfojplab", sum := "719b1ae5706c37db9d655aee2baa5d0eca004fd22aed1bfa2efb8b6e1bd55742", func := "beacon/beaconkeep.Strict", spec := "strict", apart := false, narrowed := true }
def StrictUptoSaid : Prop := strictUptoRow.holds Try.pinned (OpenSpec.upto strictSpec)

/-- 'beaconkeep.Mirror', WHERE WHAT IT READS IS OF BULK AT MOST 1048576: true; the input reads as it did. -/
def mirrorUptoRow : OpenClaim := { program := "ytpaakikgfojplab", sum := "719b1ae5706c37db9d655aee2baa5d0eca004fd22aed1bfa2efb8b6e1bd55742", func := "beacon/beaconkeep.Mirror", spec := "mirror", apart := false, narrowed := true }
def MirrorUptoSaid : Prop := mirrorUptoRow.holds Try.pinned (OpenSpec.upto mirrorSpec)

/-- 'beaconkeep.Coded', WHERE WHAT IT READS IS OF BULK AT MOST 1048576: true; the input reads as it did. -/
def codedUptoRow : OpenClaim := { program := "ytpaakikgfojplab", sum := "719b1ae5706c37db9d655aee2baa5d0eca004fd22aed1bfa2efb8b6e1bd55742", func := "beacon/beaconkeep.Coded", spec := "coded", apart := false, narrowed := true }
def CodedUptoSaid : Prop := codedUptoRow.holds Try.pinned (OpenSpec.upto codedSpec)

/-- 'beaconkeep.Exact', WHERE WHAT IT READS IS OF BULK AT MOST 1048576: true; the input reads as it did. -/
def exactUptoRow : OpenClaim := { program := "ytpaakikgfojplab", sum := "719b1ae5706c37db9d655aee2baa5d0eca004fd22aed1bfa2efb8b6e1bd55742", func := "beacon/beaconkeep.Exact", spec := "exact", apart := false, narrowed := true }
def ExactUptoSaid : Prop := exactUptoRow.holds Try.pinned (OpenSpec.upto exactSpec)

/-- 'beaconkeep.Followed', WHERE WHAT IT READS IS OF BULK AT MOST 1048576: true; the input reads as it did. -/
def followedUptoRow : OpenClaim := { program := "ytpaakikgfojplab", sum := "719b1ae5706c37db9d655aee2baa5d0eca004fd22aed1bfa2efb8b6e1bd55742", func := "beacon/beaconkeep.Followed", spec := "followed", apart := false, narrowed := true }
def FollowedUptoSaid : Prop := followedUptoRow.holds Try.pinned (OpenSpec.upto followedSpec)

end Rows
end Go.Proofs.Ytpaakikgfojplab
