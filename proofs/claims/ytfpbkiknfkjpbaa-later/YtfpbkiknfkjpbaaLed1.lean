/-
  THE WALKS of the program's ledger: isPool, epochOf, isEarly, nonceIn, stakesIn.
-/
import Derived.Test.YtfpbkiknfkjpbaaFr
import Derived.Test.YtfpbkiknfkjpbaaNd
namespace Go.Proofs.Ytfpbkiknfkjpbaa
open Go.RowKit Num Bk
set_option linter.unusedVariables false

def rulV (p : Par) : Value := .agg #[.int .i64 p.epoch, .int .i64 p.a, .int .i64 p.b, .int .i64 (p.stakes.length : Int), .int .i64 (total p)]
def arrV (f : Nat → Int) : Value := .agg #[.int .i64 (f 0), .int .i64 (f 1), .int .i64 (f 2), .int .i64 (f 3), .int .i64 (f 4), .int .i64 (f 5)]
def pgA (g : Pg) : Array Value := #[.int .i64 g.slot, .int .i64 (g.stakes 0), .int .i64 (g.stakes 1), .int .i64 (g.stakes 2), .int .i64 (g.stakes 3), .int .i64 (g.stakes 4), .int .i64 (g.stakes 5),
  .int .i64 (g.counts 0), .int .i64 (g.counts 1), .int .i64 (g.counts 2), .int .i64 (g.counts 3), .int .i64 (g.counts 4), .int .i64 (g.counts 5), .int .i64 g.running, .int .i64 g.nonce,
  .int .i64 (g.before 0), .int .i64 (g.before 1), .int .i64 (g.before 2), .int .i64 (g.before 3), .int .i64 (g.before 4), .int .i64 (g.before 5),
  .int .i64 (g.long 0), .int .i64 (g.long 1), .int .i64 (g.long 2), .int .i64 (g.long 3), .int .i64 (g.long 4), .int .i64 (g.long 5)]
def pageV (g : Pg) : Value := .agg (pgA g)

theorem below_of {w A : World} {cs : Array Value} {t : TypeId} (hA : w.alloc (.cells cs t) = A) : A.heap.size = w.heap.size + 1 ∧ Below w.heap.size w A ∧ A.heap[w.heap.size]? = some (.cells cs t (0, 0)) := by
  subst hA
  exact ⟨by simp, (Below.refl _ _).alloc (Nat.le_refl _) _, heap_alloc_new w _⟩

def poolB (p : Par) (n : Int) : Bool := decide (0 ≤ n) && decide (n < p.stakes.length)

set_option maxHeartbeats 400000 in
theorem isPool_is (p : Par) (n : Int) (w : World) :
    Calls Try.prog 60 #[rulV p, .int .i64 n] w fun e w' => e = .returned (.bool (poolB p n)) ∧ Below w.heap.size w w' := by
  unfold rulV
  have HB := Go.Proofs.Ytfpbkiknfkjpbaa.hid (show poolB p n = (decide (0 ≤ n) && decide (n < p.stakes.length)) from rfl)
  by_cases h1 : 0 ≤ n
  · by_cases h2 : n < (p.stakes.length : Int)
    · go_enter Try.func60, Try.ntmps60
      go_wp2
      go_ret
      exact ⟨by rw [HB.out]; simp [h1, h2], (Below.refl _ _).alloc (Nat.le_refl _) _⟩
    · go_enter Try.func60, Try.ntmps60
      go_wp2
      go_ret
      exact ⟨by rw [HB.out]; simp [h1, h2], (Below.refl _ _).alloc (Nat.le_refl _) _⟩
  · go_enter Try.func60, Try.ntmps60
    go_wp2
    go_ret
    exact ⟨by rw [HB.out, decide_eq_false (by omega : ¬ (0 ≤ n))]; rfl, (Below.refl _ _).alloc (Nat.le_refl _) _⟩

def slotOkP (slot : Int) : Prop := slot = -1 ∨ (0 ≤ slot ∧ slot ≤ 10000)

set_option maxHeartbeats 400000 in
theorem epochOf_is (p : Par) (slot : Int) (w : World) (hp : ParOk p) (hs : slotOkP slot) :
    Calls Try.prog 61 #[rulV p, .int .i64 slot] w fun e w' => e = .returned (.int .i64 (epochOf p slot)) ∧ Below w.heap.size w w' := by
  unfold rulV
  have h1 := hp.e1
  have h2 := hp.e2
  have HB := Go.Proofs.Ytfpbkiknfkjpbaa.hid (show epochOf p slot = (if slot = -1 then -2 else slot / p.epoch) from rfl)
  by_cases h : slot = -1
  · subst h
    go_enter Try.func61, Try.ntmps61
    go_wp2
    go_ret
    exact ⟨by rw [HB.out]; rfl, (Below.refl _ _).alloc (Nat.le_refl _) _⟩
  · have hs' : 0 ≤ slot ∧ slot ≤ 10000 := hs.resolve_left h
    obtain ⟨h3, h4⟩ := hs'
    have hz : (p.epoch == 0) = false := by rw [beq_eq_false_iff_ne]; omega
    have hq : slot.tdiv p.epoch = slot / p.epoch := Int.tdiv_eq_ediv_of_nonneg h3
    have hq1 : 0 ≤ slot / p.epoch := Int.ediv_nonneg h3 (by omega)
    have hq2 : slot / p.epoch ≤ slot := Int.ediv_le_self _ h3
    go_enter Try.func61, Try.ntmps61
    go_wp2
    go_ret
    exact ⟨by rw [HB.out, if_neg h]; rfl, (Below.refl _ _).alloc (Nat.le_refl _) _⟩

set_option maxHeartbeats 400000 in
theorem isEarly_is (p : Par) (slot : Int) (w : World) (hp : ParOk p) (h3 : 0 ≤ slot) (h4 : slot ≤ 10000) :
    Calls Try.prog 120 #[rulV p, .int .i64 slot] w fun e w' => e = .returned (.bool (decide (3 * (slot % p.epoch) < 2 * p.epoch))) ∧ Below w.heap.size w w' := by
  unfold rulV
  have h1 := hp.e1
  have h2 := hp.e2
  have hz : (p.epoch == 0) = false := by rw [beq_eq_false_iff_ne]; omega
  have hq : slot.tmod p.epoch = slot % p.epoch := Int.tmod_eq_emod_of_nonneg h3
  have hq1 : 0 ≤ slot % p.epoch := Int.emod_nonneg _ (by omega)
  have hq2 : slot % p.epoch < p.epoch := Int.emod_lt_of_pos _ (by omega)
  go_enter Try.func120, Try.ntmps120
  go_wp2
  go_quiet (fail)
  go_wp2
  go_ret
  exact ⟨rfl, drawB ((Below.refl _ _).alloc (Nat.le_refl _) _) _⟩

end Go.Proofs.Ytfpbkiknfkjpbaa
