/-
  No cell of these rows narrows 'for every input' (looked for: loops, veiled, ifaces, maps, wideKeys, modest, calm, conditions, laid).
  DERIVED. THE GIVEN ROWS OF THIS SEAT. 9 by the template 'for every input the law returns true; each argument reads behind the call as it read before'; 0 by the template 'total and deterministic' (their statements: YtpaakikgfojplaaTotals.lean).
  GIVEN WITH THE SEED: the statements are not yours to turn. If you find one false, say at which input.
  Laid BY PROGRAM, IN A SANDBOX (cutbox-rows.mjs): the forced cells as the released guide's own fill.sh prints them over the translation 988dcce516c42554… (all of the seat's roots in one cut). By AI agents, Wed Nov 11 2026. No macro, syntax, notation, axiom, sorry.
-/
import Derived.Test.YtpaakikgfojplaaChecked
import GoSem.Claim
import GoSem.ClaimJoined
import GoSem.ClaimMapViews
import Derived.JoinedTies
import Derived.KernelRfl
namespace Go.Proofs.Ytpaakikgfojplaa
/- THE CELL 'sum', in the pinned program and in every row, IS THE sha256 OF THE DUMP (.gsa) THAT YtpaakikgfojplaaProg.lean LOADS. Nothing in Lean hashes anything: it is a label: what it is worth is what the hold of that sum in a sandbox is worth. -/
noncomputable def Try.pinned : Pinned := { name := "ytpaakikgfojplaa", sum := "988dcce516c42554f17317044198718c65e02a3b51acdd644d34c9ae2c65bfd0", checked := Try.checked }
namespace Rows
def none {H : Type} : Left H := { results := [], args := [] }

/-- 'beaconlaw.Chances': WHATEVER THE INPUT: true; the input reads as it did. -/
def chancesSpec : ChangeSpec := { name := "chances", fn := fun _ => fun
  | [d1, d2, d3, d4, d5] => { results := [.lit (.bool true)], args := [d1, d2, d3, d4, d5] }
  | _ => none }
def chancesRow : OpenClaim := { program := "ytpaakikgfojplaa", sum := "988dcce516c42554f17317044198718c65e02a3b51acdd644d34c9ae2c65bfd0", func := "beacon/beaconlaw.Chances", spec := "chances", apart := false }
def ChancesSaid : Prop := chancesRow.holds Try.pinned (OpenSpec.ofChange chancesSpec)

/-- ITS FALSE NEIGHBOUR: 'it returns false'. Refute it at one input. -/
def chancesWrong : ChangeSpec := { name := "chances", fn := fun _ => fun
  | [d1, d2, d3, d4, d5] => { results := [.lit (.bool false)], args := [d1, d2, d3, d4, d5] }
  | _ => none }
def ChancesWrongFalsely : Prop := chancesRow.holds Try.pinned (OpenSpec.ofChange chancesWrong)

/-- 'beaconlaw.Draws': WHATEVER THE INPUT: true; the input reads as it did. -/
def drawsSpec : ChangeSpec := { name := "draws", fn := fun _ => fun
  | [d1, d2, d3] => { results := [.lit (.bool true)], args := [d1, d2, d3] }
  | _ => none }
def drawsRow : OpenClaim := { program := "ytpaakikgfojplaa", sum := "988dcce516c42554f17317044198718c65e02a3b51acdd644d34c9ae2c65bfd0", func := "beacon/beaconlaw.Draws", spec := "draws", apart := false }
def DrawsSaid : Prop := drawsRow.holds Try.pinned (OpenSpec.ofChange drawsSpec)

/-- ITS FALSE NEIGHBOUR: 'it returns false'. Refute it at one input. -/
def drawsWrong : ChangeSpec := { name := "draws", fn := fun _ => fun
  | [d1, d2, d3] => { results := [.lit (.bool false)], args := [d1, d2, d3] }
  | _ => none }
def DrawsWrongFalsely : Prop := drawsRow.holds Try.pinned (OpenSpec.ofChange drawsWrong)

/-- 'beaconlaw.Writes': WHATEVER THE INPUT: true; the input reads as it did. -/
def writesSpec : ChangeSpec := { name := "writes", fn := fun _ => fun
  | [d] => { results := [.lit (.bool true)], args := [d] }
  | _ => none }
def writesRow : OpenClaim := { program := "ytpaakikgfojplaa", sum := "988dcce516c42554f17317044198718c65e02a3b51acdd644d34c9ae2c65bfd0", func := "beacon/beaconlaw.Writes", spec := "writes", apart := false }
def WritesSaid : Prop := writesRow.holds Try.pinned (OpenSpec.ofChange writesSpec)

/-- ITS FALSE NEIGHBOUR: 'it returns false'. Refute it at one input. -/
def writesWrong : ChangeSpec := { name := "writes", fn := fun _ => fun
  | [d] => { results := [.lit (.bool false)], args := [d] }
  | _ => none }
def WritesWrongFalsely : Prop := writesRow.holds Try.pinned (OpenSpec.ofChange writesWrong)

/-- 'beaconlaw.Reads': WHATEVER THE INPUT: true; the input reads as it did. -/
def readsSpec : ChangeSpec := { name := "reads", fn := fun _ => fun
  | [d] => { results := [.lit (.bool true)], args := [d] }
  | _ => none }
def readsRow : OpenClaim := { program := "ytpaakikgfojplaa", sum := "988dcce516c42554f17317044198718c65e02a3b51acdd644d34c9ae2c65bfd0", func := "beacon/beaconlaw.Reads", spec := "reads", apart := false }
def ReadsSaid : Prop := readsRow.holds Try.pinned (OpenSpec.ofChange readsSpec)

/-- ITS FALSE NEIGHBOUR: 'it returns false'. Refute it at one input. -/
def readsWrong : ChangeSpec := { name := "reads", fn := fun _ => fun
  | [d] => { results := [.lit (.bool false)], args := [d] }
  | _ => none }
def ReadsWrongFalsely : Prop := readsRow.holds Try.pinned (OpenSpec.ofChange readsWrong)

/-- 'beaconkeep.Shares': WHATEVER THE INPUT: true; the input reads as it did. -/
def sharesSpec : ChangeSpec := { name := "shares", fn := fun _ => fun
  | [d1, d2, d3, d4, d5, d6] => { results := [.lit (.bool true)], args := [d1, d2, d3, d4, d5, d6] }
  | _ => none }
def sharesRow : OpenClaim := { program := "ytpaakikgfojplaa", sum := "988dcce516c42554f17317044198718c65e02a3b51acdd644d34c9ae2c65bfd0", func := "beacon/beaconkeep.Shares", spec := "shares", apart := false }
def SharesSaid : Prop := sharesRow.holds Try.pinned (OpenSpec.ofChange sharesSpec)

/-- ITS FALSE NEIGHBOUR: 'it returns false'. Refute it at one input. -/
def sharesWrong : ChangeSpec := { name := "shares", fn := fun _ => fun
  | [d1, d2, d3, d4, d5, d6] => { results := [.lit (.bool false)], args := [d1, d2, d3, d4, d5, d6] }
  | _ => none }
def SharesWrongFalsely : Prop := sharesRow.holds Try.pinned (OpenSpec.ofChange sharesWrong)

/-- 'beaconkeep.Corners': WHATEVER THE INPUT: true; the input reads as it did. -/
def cornersSpec : ChangeSpec := { name := "corners", fn := fun _ => fun
  | [d1, d2, d3, d4] => { results := [.lit (.bool true)], args := [d1, d2, d3, d4] }
  | _ => none }
def cornersRow : OpenClaim := { program := "ytpaakikgfojplaa", sum := "988dcce516c42554f17317044198718c65e02a3b51acdd644d34c9ae2c65bfd0", func := "beacon/beaconkeep.Corners", spec := "corners", apart := false }
def CornersSaid : Prop := cornersRow.holds Try.pinned (OpenSpec.ofChange cornersSpec)

/-- ITS FALSE NEIGHBOUR: 'it returns false'. Refute it at one input. -/
def cornersWrong : ChangeSpec := { name := "corners", fn := fun _ => fun
  | [d1, d2, d3, d4] => { results := [.lit (.bool false)], args := [d1, d2, d3, d4] }
  | _ => none }
def CornersWrongFalsely : Prop := cornersRow.holds Try.pinned (OpenSpec.ofChange cornersWrong)

/-- 'beaconkeep.Moved': WHATEVER THE INPUT: true; the input reads as it did. -/
def movedSpec : ChangeSpec := { name := "moved", fn := fun _ => fun
  | [d1, d2] => { results := [.lit (.bool true)], args := [d1, d2] }
  | _ => none }
def movedRow : OpenClaim := { program := "ytpaakikgfojplaa", sum := "988dcce516c42554f17317044198718c65e02a3b51acdd644d34c9ae2c65bfd0", func := "beacon/beaconkeep.Moved", spec := "moved", apart := false }
def MovedSaid : Prop := movedRow.holds Try.pinned (OpenSpec.ofChange movedSpec)

/-- ITS FALSE NEIGHBOUR: 'it returns false'. Refute it at one input. -/
def movedWrong : ChangeSpec := { name := "moved", fn := fun _ => fun
  | [d1, d2] => { results := [.lit (.bool false)], args := [d1, d2] }
  | _ => none }
def MovedWrongFalsely : Prop := movedRow.holds Try.pinned (OpenSpec.ofChange movedWrong)

/-- 'beaconkeep.Later': WHATEVER THE INPUT: true; the input reads as it did. -/
def laterSpec : ChangeSpec := { name := "later", fn := fun _ => fun
  | [d1, d2, d3, d4] => { results := [.lit (.bool true)], args := [d1, d2, d3, d4] }
  | _ => none }
def laterRow : OpenClaim := { program := "ytpaakikgfojplaa", sum := "988dcce516c42554f17317044198718c65e02a3b51acdd644d34c9ae2c65bfd0", func := "beacon/beaconkeep.Later", spec := "later", apart := false }
def LaterSaid : Prop := laterRow.holds Try.pinned (OpenSpec.ofChange laterSpec)

/-- ITS FALSE NEIGHBOUR: 'it returns false'. Refute it at one input. -/
def laterWrong : ChangeSpec := { name := "later", fn := fun _ => fun
  | [d1, d2, d3, d4] => { results := [.lit (.bool false)], args := [d1, d2, d3, d4] }
  | _ => none }
def LaterWrongFalsely : Prop := laterRow.holds Try.pinned (OpenSpec.ofChange laterWrong)

/-- 'beaconkeep.Grows': WHATEVER THE INPUT: true; the input reads as it did. -/
def growsSpec : ChangeSpec := { name := "grows", fn := fun _ => fun
  | [d1, d2] => { results := [.lit (.bool true)], args := [d1, d2] }
  | _ => none }
def growsRow : OpenClaim := { program := "ytpaakikgfojplaa", sum := "988dcce516c42554f17317044198718c65e02a3b51acdd644d34c9ae2c65bfd0", func := "beacon/beaconkeep.Grows", spec := "grows", apart := false }
def GrowsSaid : Prop := growsRow.holds Try.pinned (OpenSpec.ofChange growsSpec)

/-- ITS FALSE NEIGHBOUR: 'it returns false'. Refute it at one input. -/
def growsWrong : ChangeSpec := { name := "grows", fn := fun _ => fun
  | [d1, d2] => { results := [.lit (.bool false)], args := [d1, d2] }
  | _ => none }
def GrowsWrongFalsely : Prop := growsRow.holds Try.pinned (OpenSpec.ofChange growsWrong)

/- THE SECOND FORM. 'bulk': how many values and letters a reading holds, each counted each time it is reached (what is shared counts as often as it is met; a slice's spare places count too). A statement '..UptoSaid' is the law's where the arguments, and the package variables that the reading takes, are together of bulk at most 1048576: NARROWER than '..Said'. Prove '..Said' where nothing that the law and all that it calls make is longer than what came in: it says more and counts as full. Else prove '..UptoSaid'. A law counts once. -/
mutual
def uptoBulk {H : Type} : DataW H → Nat
  | .lit (.string bytes) => bytes.length + 1
  | .lit _ => 1
  | .nil => 1
  | .ptr d => uptoBulk d + 1
  | .slice elems spare => uptoBulkAll elems + uptoBulkAll spare + 1
  | .agg parts => uptoBulkAll parts + 1
  | .iface _ d => uptoBulk d + 1
  | .map entries => uptoBulkEntries entries + 1
  | .held _ => 1
def uptoBulkAll {H : Type} : List (DataW H) → Nat
  | [] => 0
  | d :: r => uptoBulk d + uptoBulkAll r
def uptoBulkEntries {H : Type} : List (Lit × DataW H) → Nat
  | [] => 0
  | x :: r => uptoBulkEntry x + uptoBulkEntries r
def uptoBulkEntry {H : Type} : Lit × DataW H → Nat
  | (.string bytes, d) => bytes.length + uptoBulk d + 1
  | (_, d) => uptoBulk d + 1
 end
def uptoSmall : (H : Type) → List (DataW H) → Bool := fun _ ds => decide (uptoBulkAll ds ≤ 1048576)
def OpenSpec.upto (s : _root_.Go.ChangeSpec) : _root_.Go.OpenSpec := { _root_.Go.OpenSpec.ofChange s with cond := some uptoSmall }

/-- 'beaconlaw.Chances', WHERE WHAT IT READS IS OF BULK AT MOST 1048576: true; the input reads as it did. -/
def chancesUptoRow : OpenClaim := { program := "ytpaakikgfojplaa", sum := "988dcce516c42554f17317044198718c65e02a3b51acdd644d34c9ae2c65bfd0", func := "beacon/beaconlaw.Chances", spec := "chances", apart := false, narrowed := true }
def ChancesUptoSaid : Prop := chancesUptoRow.holds Try.pinned (OpenSpec.upto chancesSpec)

/-- 'beaconlaw.Draws', WHERE WHAT IT READS IS OF BULK AT MOST 1048576: true; the input reads as it did. -/
def drawsUptoRow : OpenClaim := { program := "ytpaakikgfojplaa", sum := "988dcce516c42554f17317044198718c65e02a3b51acdd644d34c9ae2c65bfd0", func := "beacon/beaconlaw.Draws", spec := "draws", apart := false, narrowed := true }
def DrawsUptoSaid : Prop := drawsUptoRow.holds Try.pinned (OpenSpec.upto drawsSpec)

/-- 'beaconlaw.Writes', WHERE WHAT IT READS IS OF BULK AT MOST 1048576: true; the input reads as it did. -/
def writesUptoRow : OpenClaim := { program := "ytpaakikgfojplaa", sum := "988dcce516c42554f17317044198718c65e02a3b51acdd644d34c9ae2c65bfd0", func := "beacon/beaconlaw.Writes", spec := "writes", apart := false, narrowed := true }
def WritesUptoSaid : Prop := writesUptoRow.holds Try.pinned (OpenSpec.upto writesSpec)

/-- 'beaconlaw.Reads', WHERE WHAT IT READS IS OF BULK AT MOST 1048576: true; the input reads as it did. -/
def readsUptoRow : OpenClaim := { program := "ytpaakikgfojplaa", sum := "988dcce516c42554f17317044198718c65e02a3b51acdd644d34c9ae2c65bfd0", func := "beacon/beaconlaw.Reads", spec := "reads", apart := false, narrowed := true }
def ReadsUptoSaid : Prop := readsUptoRow.holds Try.pinned (OpenSpec.upto readsSpec)

/-- 'beaconkeep.Shares', WHERE WHAT IT READS IS OF BULK AT MOST 1048576: true; the input reads as it did. -/
def sharesUptoRow : OpenClaim := { program := "ytpaakikgfojplaa", sum := "988dcce516c42554f17317044198718c65e02a3b51acdd644d34c9ae2c65bfd0", func := "beacon/beaconkeep.Shares", spec := "shares", apart := false, narrowed := true }
def SharesUptoSaid : Prop := sharesUptoRow.holds Try.pinned (OpenSpec.upto sharesSpec)

/-- 'beaconkeep.Corners', WHERE WHAT IT READS IS OF BULK AT MOST 1048576: true; the input reads as it did. -/
def cornersUptoRow : OpenClaim := { program := "ytpaakikgfojplaa", sum := "988dcce516c42554f17317044198718c65e02a3b51acdd644d34c9ae2c65bfd0", func := "beacon/beaconkeep.Corners", spec := "corners", apart := false, narrowed := true }
def CornersUptoSaid : Prop := cornersUptoRow.holds Try.pinned (OpenSpec.upto cornersSpec)

/-- 'beaconkeep.Moved', WHERE WHAT IT READS IS OF BULK AT MOST 1048576: true; the input reads as it did. -/
def movedUptoRow : OpenClaim := { program := "ytpaakikgfojplaa", sum := "988dcce516c42554f17317044198718c65e02a3b51acdd644d34c9ae2c65bfd0", func := "beacon/beaconkeep.Moved", spec := "moved", apart := false, narrowed := true }
def MovedUptoSaid : Prop := movedUptoRow.holds Try.pinned (OpenSpec.upto movedSpec)

/-- 'beaconkeep.Later', WHERE WHAT IT READS IS OF BULK AT MOST 1048576: true; the input reads as it did. -/
def laterUptoRow : OpenClaim := { program := "ytpaakikgfojplaa", sum := "988dcce516c42554f17317044198718c65e02a3b51acdd644d34c9ae2c65bfd0", func := "beacon/beaconkeep.Later", spec := "later", apart := false, narrowed := true }
def LaterUptoSaid : Prop := laterUptoRow.holds Try.pinned (OpenSpec.upto laterSpec)

/-- 'beaconkeep.Grows', WHERE WHAT IT READS IS OF BULK AT MOST 1048576: true; the input reads as it did. -/
def growsUptoRow : OpenClaim := { program := "ytpaakikgfojplaa", sum := "988dcce516c42554f17317044198718c65e02a3b51acdd644d34c9ae2c65bfd0", func := "beacon/beaconkeep.Grows", spec := "grows", apart := false, narrowed := true }
def GrowsUptoSaid : Prop := growsUptoRow.holds Try.pinned (OpenSpec.upto growsSpec)

end Rows
end Go.Proofs.Ytpaakikgfojplaa
