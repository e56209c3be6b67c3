/-
  No cell of these rows narrows 'for every input' (looked for: loops, veiled, ifaces, maps, wideKeys, modest, calm, conditions, laid).
  DERIVED. THE GIVEN ROWS OF THIS SEAT. 3 by the template 'for every input the law returns true; each argument reads behind the call as it read before'; 0 by the template 'total and deterministic' (their statements: YtpaakikgfojplaaGreatTotals.lean).
  GIVEN WITH THE SEED: the statements are not yours to turn. If you find one false, say at which input.
  Laid BY PROGRAM, IN A SANDBOX (cutbox-rows.mjs): the forced cells as the released guide's own fill.sh prints them over the translation 0acda8fd0cfd5dbb… (all of the seat's roots in one cut). By AI agents, Wed Nov 11 2026. No macro, syntax, notation, axiom, sorry.
-/
import Derived.Test.YtpaakikgfojplaaGreatChecked
import GoSem.Claim
import GoSem.ClaimJoined
import GoSem.ClaimMapViews
import Derived.JoinedTies
import Derived.KernelRfl
namespace Go.Proofs.YtpaakikgfojplaaGreat
/- THE CELL 'sum', in the pinned program and in every row, IS THE sha256 OF THE DUMP (.gsa) THAT YtpaakikgfojplaaGreatProg.lean LOADS. Nothing in Lean hashes anything: it is a label: what it is worth is what the hold of that sum in a sandbox is worth. -/
noncomputable def Tryz.pinned : Pinned := { name := "ytpaakikgfojplaagreat", sum := "0acda8fd0cfd5dbbe98cf584760165f7a01c2fb544cc5dfebd3eb406bc5655d3", checked := Tryz.checked }
namespace Rows
def none {H : Type} : Left H := { results := [], args := [] }

/-- 'beaconlaw.Offers': WHATEVER THE INPUT: true; the input reads as it did. -/
def offersSpec : ChangeSpec := { name := "offers", fn := fun _ => fun
  | [d1, d2, d3] => { results := [.lit (.bool true)], args := [d1, d2, d3] }
  | _ => none }
def offersRow : OpenClaim := { program := "ytpaakikgfojplaagreat", sum := "0acda8fd0cfd5dbbe98cf584760165f7a01c2fb544cc5dfebd3eb406bc5655d3", func := "beacon/beaconlaw.Offers", spec := "offers", apart := false }
def OffersSaid : Prop := offersRow.holds Tryz.pinned (OpenSpec.ofChange offersSpec)

/-- ITS FALSE NEIGHBOUR: 'it returns false'. Refute it at one input. -/
def offersWrong : ChangeSpec := { name := "offers", fn := fun _ => fun
  | [d1, d2, d3] => { results := [.lit (.bool false)], args := [d1, d2, d3] }
  | _ => none }
def OffersWrongFalsely : Prop := offersRow.holds Tryz.pinned (OpenSpec.ofChange offersWrong)

/-- 'beaconlaw.Chosen': WHATEVER THE INPUT: true; the input reads as it did. -/
def chosenSpec : ChangeSpec := { name := "chosen", fn := fun _ => fun
  | [d1, d2, d3] => { results := [.lit (.bool true)], args := [d1, d2, d3] }
  | _ => none }
def chosenRow : OpenClaim := { program := "ytpaakikgfojplaagreat", sum := "0acda8fd0cfd5dbbe98cf584760165f7a01c2fb544cc5dfebd3eb406bc5655d3", func := "beacon/beaconlaw.Chosen", spec := "chosen", apart := false }
def ChosenSaid : Prop := chosenRow.holds Tryz.pinned (OpenSpec.ofChange chosenSpec)

/-- ITS FALSE NEIGHBOUR: 'it returns false'. Refute it at one input. -/
def chosenWrong : ChangeSpec := { name := "chosen", fn := fun _ => fun
  | [d1, d2, d3] => { results := [.lit (.bool false)], args := [d1, d2, d3] }
  | _ => none }
def ChosenWrongFalsely : Prop := chosenRow.holds Tryz.pinned (OpenSpec.ofChange chosenWrong)

/-- 'beaconlaw.All': WHATEVER THE INPUT: true; the input reads as it did. -/
def allSpec : ChangeSpec := { name := "all", fn := fun _ => fun
  | [d1, d2, d3] => { results := [.lit (.bool true)], args := [d1, d2, d3] }
  | _ => none }
def allRow : OpenClaim := { program := "ytpaakikgfojplaagreat", sum := "0acda8fd0cfd5dbbe98cf584760165f7a01c2fb544cc5dfebd3eb406bc5655d3", func := "beacon/beaconlaw.All", spec := "all", apart := false }
def AllSaid : Prop := allRow.holds Tryz.pinned (OpenSpec.ofChange allSpec)

/-- ITS FALSE NEIGHBOUR: 'it returns false'. Refute it at one input. -/
def allWrong : ChangeSpec := { name := "all", fn := fun _ => fun
  | [d1, d2, d3] => { results := [.lit (.bool false)], args := [d1, d2, d3] }
  | _ => none }
def AllWrongFalsely : Prop := allRow.holds Tryz.pinned (OpenSpec.ofChange allWrong)

/- THE SECOND FORM. 'bulk': how many values and letters a reading holds, each counted each time it is reached (what is shared counts as often as it is met; a slice's spare places count too). A statement '..UptoSaid' is the law's where the arguments, and the package variables that the reading takes, are together of bulk at most 1048576: NARROWER than '..Said'. Prove '..Said' where nothing that the law and all that it calls make is longer than what came in: it says more and counts as full. Else prove '..UptoSaid'. A law counts once. -/
mutual
def uptoBulk {H : Type} : DataW H → Nat
  | .lit (.string bytes) => bytes.length + 1
  | .lit _ => 1
  | .nil => 1
  | .ptr d => uptoBulk d + 1
  | .slice elems spare => uptoBulkAll elems + uptoBulkAll spare + 1
  | .agg parts => uptoBulkAll parts + 1
  | .iface _ d => uptoBulk d + 1
  | .map entries => uptoBulkEntries entries + 1
  | .held _ => 1
def uptoBulkAll {H : Type} : List (DataW H) → Nat
  | [] => 0
  | d :: r => uptoBulk d + uptoBulkAll r
def uptoBulkEntries {H : Type} : List (Lit × DataW H) → Nat
  | [] => 0
  | x :: r => uptoBulkEntry x + uptoBulkEntries r
def uptoBulkEntry {H : Type} : Lit × DataW H → Nat
  | (.string bytes, d) => bytes.length + uptoBulk d + 1
  | (_, d) => uptoBulk d + 1
 end
def uptoSmall : (H : Type) → List (DataW H) → Bool := fun _ ds => decide (uptoBulkAll ds ≤ 1048576)
def OpenSpec.upto (s : _root_.Go.ChangeSpec) : _root_.Go.OpenSpec := { _root_.Go.OpenSpec.ofChange s with cond := some uptoSmall }

/-- 'beaconlaw.Offers', WHERE WHAT IT READS IS OF BULK AT MOST 1048576: true; the input reads as it did. -/
def offersUptoRow : OpenClaim := { program := "ytpaakikgfojplaagreat", sum := "0acda8fd0cfd5dbbe98cf584760165f7a01c2fb544cc5dfebd3eb406bc5655d3", func := "beacon/beaconlaw.Offers", spec := "offers", apart := false, narrowed := true }
def OffersUptoSaid : Prop := offersUptoRow.holds Tryz.pinned (OpenSpec.upto offersSpec)

/-- 'beaconlaw.Chosen', WHERE WHAT IT READS IS OF BULK AT MOST 1048576: true; the input reads as it did. -/
def chosenUptoRow : OpenClaim := { program := "ytpaakikgfojplaagreat", sum := "0acda8fd0cfd5dbbe98cf584760165f7a01c2fb544cc5dfebd3eb406bc5655d3", func := "beacon/beaconlaw.Chosen", spec := "chosen", apart := false, narrowed := true }
def ChosenUptoSaid : Prop := chosenUptoRow.holds Tryz.pinned (OpenSpec.upto chosenSpec)

/-- 'beaconlaw.All', WHERE WHAT IT READS IS OF BULK AT MOST 1048576: true; the input reads as it did. -/
def allUptoRow : OpenClaim := { program := "ytpaakikgfojplaagreat", sum := "0acda8fd0cfd5dbbe98cf584760165f7a01c2fb544cc5dfebd3eb406bc5655d3", func := "beacon/beaconlaw.All", spec := "all", apart := false, narrowed := true }
def AllUptoSaid : Prop := allUptoRow.holds Tryz.pinned (OpenSpec.upto allSpec)

end Rows
end Go.Proofs.YtpaakikgfojplaaGreat
