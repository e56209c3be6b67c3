import Derived.Test.YtpaakikgfojplaaCHdrEq
/-
  THE WALKS of beaconref: there.
-/
namespace Go.Proofs.Ytpaakikgfojplaa
open Go.RowKit Num Bk
set_option linter.unusedVariables false
attribute [local go_sem ↓] run_eql_hdr

def hdrV (h : Hdr) : Value := .agg #[.int .i64 h.slot, .int .i64 h.pool, .int .i64 h.proof, .int .i64 h.count, .int .i64 h.frm, .int .i64 h.dst, .int .i64 h.amount]

/-- Is k the header with this parent that is the same in all? -/
def isIt (s : St) (parent : Int) (h : Hdr) (k : Nat) : Bool := decide (0 < k) && ((pa s.all k : Int) == parent) && eqH (hd s.all k) h

theorem there_eq (s : St) (parent : Int) (h : Hdr) : there s parent h = (s.keep.find? (isIt s parent h)).getD 0 := rfl

theorem find_take (P : Nat → Bool) (l : List Nat) (k : Nat) (h : k < l.length) : (l.take (k + 1)).find? P = (((l.take k).find? P).or (if P (l.getD k 0) then some (l.getD k 0) else none)) := by
  rw [take_succ_getD l k h, List.find?_append]
  simp only [List.find?_cons, List.find?_nil]
  cases P (l.getD k 0) <;> rfl

theorem find_some_take (P : Nat → Bool) (l : List Nat) (k v : Nat) (h : (l.take k).find? P = some v) : l.find? P = some v := by
  have e : l = l.take k ++ l.drop k := (List.take_append_drop k l).symm
  rw [e, List.find?_append, h]; rfl

end Go.Proofs.Ytpaakikgfojplaa

