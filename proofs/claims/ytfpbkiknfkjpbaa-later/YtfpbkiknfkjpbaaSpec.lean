/-
  WHAT THE PROGRAM's CHAIN OWES, as hypotheses: a representation in memory with a footprint, and a contract for each call. (Each commit's own texts pay them.) Besides: the statements' 'pick', exactly.
-/
import Derived.Test.YtfpbkiknfkjpbaaBookCame
import Derived.Test.YtfpbkiknfkjpbaaRefNew2
namespace Go.Proofs.Ytfpbkiknfkjpbaa
open Go.RowKit Num Bk
set_option linter.unusedVariables false

def I64 (n : Int) : Prop := -9223372036854775808 ≤ n ∧ n ≤ 9223372036854775807
structure HdrI (h : Hdr) : Prop where
  a0 : I64 h.slot
  a1 : I64 h.pool
  a2 : I64 h.proof
  a3 : I64 h.count
  a4 : I64 h.frm
  a5 : I64 h.dst
  a6 : I64 h.amount

/-- What a call on a chain leaves. -/
def Left (Rep : World → Nat → (Nat → Prop) → St → Prop) (w w' : World) (x : Nat) (F : Nat → Prop) (s' : St) : Prop :=
  ∃ F', Rep w' x F' s' ∧ Fr F w w' ∧ ∀ k, F' k → F k ∨ w.heap.size ≤ k

structure PSpec (Rep : World → Nat → (Nat → Prop) → St → Prop) : Prop where
  fr : ∀ {w w' : World} {x : Nat} {F G : Nat → Prop} {s : St}, Rep w x F s → Fr G w w' → (∀ k, F k → ¬ G k) → Rep w' x F s
  lt : ∀ {w : World} {x : Nat} {F : Nat → Prop} {s : St}, Rep w x F s → ∀ k, F k → k < w.heap.size
  turn : ∀ (w : World) (x : Nat) (F : Nat → Prop) (s : St) (id slot pool : Int), Rep w x F s → Inv s → I64 id → I64 slot → I64 pool →
    Calls Try.prog 25 #[.pointer (some ⟨x, 0, none⟩), .int .i64 id, .int .i64 slot, .int .i64 pool] w fun e w' => e = .returned (.tuple #[turnV s id slot pool, .int .i64 (turnErr s id slot pool)]) ∧ Left Rep w w' x F s
  stake : ∀ (w : World) (x : Nat) (F : Nat → Prop) (s : St) (id pool : Int), Rep w x F s → Inv s → I64 id → I64 pool →
    Calls Try.prog 20 #[.pointer (some ⟨x, 0, none⟩), .int .i64 id, .int .i64 pool] w fun e w' => e = .returned (.tuple #[.int .i64 (stakeV s id pool), .int .i64 (askErr s id pool)]) ∧ Left Rep w w' x F s
  count : ∀ (w : World) (x : Nat) (F : Nat → Prop) (s : St) (id pool : Int), Rep w x F s → Inv s → I64 id → I64 pool →
    Calls Try.prog 21 #[.pointer (some ⟨x, 0, none⟩), .int .i64 id, .int .i64 pool] w fun e w' => e = .returned (.tuple #[.int .i64 (countV s id pool), .int .i64 (askErr s id pool)]) ∧ Left Rep w w' x F s
  offer : ∀ (w : World) (x : Nat) (F : Nat → Prop) (s : St) (parent : Int) (h : Hdr), Rep w x F s → Inv s → I64 parent → HdrI h →
    Calls Try.prog 57 #[.pointer (some ⟨x, 0, none⟩), .int .i64 parent, hdrV h] w fun e w' => e = .returned (.tuple #[.int .i64 (offerId s parent h), .int .i64 (offerErr s parent h)]) ∧ Left Rep w w' x F (offer s parent h)
  new_no : ∀ (w : World) (p : Par) (so : Option Addr) (c : Nat), StkAt w so p.stakes → parB p = false →
    Calls Try.prog 46 #[parV p so c] w fun e w' => e = .returned (.tuple #[.pointer none, .int .i64 1]) ∧ Below w.heap.size w w'
  new_yes : ∀ (w : World) (p : Par) (so : Option Addr) (c : Nat), StkAt w so p.stakes → parB p = true →
    Calls Try.prog 46 #[parV p so c] w fun e w' => ∃ x F, e = .returned (.tuple #[.pointer (some ⟨x, 0, none⟩), .int .i64 0]) ∧ Rep w' x F (Bk.start p) ∧ Below w.heap.size w w' ∧ ∀ k, F k → w.heap.size ≤ k

theorem PSpec.keep {Rep : World → Nat → (Nat → Prop) → St → Prop} (P : PSpec Rep) {w w' : World} {x : Nat} {F : Nat → Prop} {s : St} (h : Rep w x F s) (hb : Below w.heap.size w w') : Rep w' x F s :=
  P.fr h (Fr.of_below hb (fun _ => False) (fun k h1 h2 => by omega)) (fun k _ h => h)

/-- pick, exactly. -/
def pickI (c n : Int) : Int := (if c < 0 then -(c + 1) else c) % n

theorem pickI_bounds (c n : Int) (hn : 1 ≤ n) : 0 ≤ pickI c n ∧ pickI c n < n := by
  unfold pickI
  exact ⟨Int.emod_nonneg _ (by omega), Int.emod_lt_of_pos _ (by omega)⟩

set_option maxHeartbeats 400000 in
theorem pick_is (c n : Int) (w : World) (h : I64 c) (hn : 1 ≤ n) (hn2 : n ≤ 100000000) :
    Calls Try.prog 17 #[.int .i64 c, .int .i64 n] w fun e w' => e = .returned (.int .i64 (pickI c n)) ∧ w = w' := by
  obtain ⟨h1, h2⟩ := h
  have hz : (n == 0) = false := by rw [beq_eq_false_iff_ne]; omega
  have HP := Go.Proofs.Ytfpbkiknfkjpbaa.hid (show pickI c n = (if c < 0 then -(c + 1) else c) % n from rfl)
  by_cases h : c < 0
  · have e : -(c + 1).tmod n = (-(c + 1)) % n := by rw [← Int.neg_tmod, Int.tmod_eq_emod_of_nonneg (by omega)]
    have HE := Go.Proofs.Ytfpbkiknfkjpbaa.hid e
    clear e
    go_enter Try.func17, Try.ntmps17
    go_wp2
    go_ret
    exact ⟨by rw [HP.out, if_pos h, ← HE.out]; rfl, rfl⟩
  · go_enter Try.func17, Try.ntmps17
    go_wp2
    go_ret
    exact ⟨by rw [HP.out, if_neg (by omega)]; rfl, rfl⟩

/-! ### What is made of a step -/
structure Stp where
  A : Int
  B : Int
  C : Int
  D : Int
def stpV (o : Stp) : Value := .agg #[.int .i64 o.A, .int .i64 o.B, .int .i64 o.C, .int .i64 o.D]

def beginsAt (s : St) (id : Nat) : Int := if id = 0 then 0 else (hd s.all id).slot + 1
def np (s : St) : Int := s.par.stakes.length
def slotK (s : St) (id : Nat) (o : Stp) (k : Nat) : Int := beginsAt s id + pickI o.B 7 + (k : Int) / np s
def poolK (s : St) (o : Stp) (k : Nat) : Int := (pickI o.C (np s) + k) % np s
/-- The header behind id that is made at try k. -/
def hdrK (s : St) (id : Nat) (o : Stp) (k : Nat) : Hdr :=
  let d := pickI o.D 1048576
  { slot := slotK s id o k, pool := poolK s o k, proof := proofAt s id (slotK s id o k) (poolK s o k), count := countAt s.all (poolK s o k) id + d % 2, frm := d / 2 % np s, dst := d / 2 / np s % np s,
    amount := d / 2 / np s / np s % (stakeOf s id (d / 2 % np s).toNat + 1) }
/-- Does the search end at try k? -/
def endK (s : St) (id : Nat) (o : Stp) (k : Nat) : Bool := decide (10000 < slotK s id o k) || leadsAt s id (slotK s id o k) (poolK s o k)
def foundK (s : St) (id : Nat) (o : Stp) : Option Nat := (List.range (25 * s.par.stakes.length)).find? (endK s id o)
/-- The header that is made, if one is. -/
def madeH (s : St) (id : Nat) (o : Stp) : Option Hdr :=
  match foundK s id o with
  | none => none
  | some k => if 10000 < slotK s id o k then none else some (hdrK s id o k)

end Go.Proofs.Ytfpbkiknfkjpbaa
