import Derived.Test.YtpaakikgfojplaaGreatCM5
import Derived.Test.YtpaakikgfojplaaGreatCNd
import Derived.BigQuiet
import Derived.Deep.QuietTactic
/-
  THE WALKS of the program's ledger: isPool, epochOf, isEarly, nonceIn, stakesIn.
-/
namespace Go.Proofs.YtpaakikgfojplaaGreat
open Go.RowKit Num Bk
set_option linter.unusedVariables false

def rulV (p : Par) : Value := .agg #[.int .i64 p.epoch, .int .i64 p.a, .int .i64 p.b, .int .i64 (p.stakes.length : Int), .int .i64 (total p)]
def arrV (f : Nat → Int) : Value := .agg #[.int .i64 (f 0), .int .i64 (f 1), .int .i64 (f 2), .int .i64 (f 3), .int .i64 (f 4), .int .i64 (f 5)]
def pgA (g : Pg) : Array Value := #[.int .i64 g.slot, .int .i64 (g.stakes 0), .int .i64 (g.stakes 1), .int .i64 (g.stakes 2), .int .i64 (g.stakes 3), .int .i64 (g.stakes 4), .int .i64 (g.stakes 5),
  .int .i64 (g.counts 0), .int .i64 (g.counts 1), .int .i64 (g.counts 2), .int .i64 (g.counts 3), .int .i64 (g.counts 4), .int .i64 (g.counts 5), .int .i64 g.running, .int .i64 g.nonce,
  .int .i64 (g.before 0), .int .i64 (g.before 1), .int .i64 (g.before 2), .int .i64 (g.before 3), .int .i64 (g.before 4), .int .i64 (g.before 5),
  .int .i64 (g.long 0), .int .i64 (g.long 1), .int .i64 (g.long 2), .int .i64 (g.long 3), .int .i64 (g.long 4), .int .i64 (g.long 5)]
def pageV (g : Pg) : Value := .agg (pgA g)

theorem below_of {w A : World} {cs : Array Value} {t : TypeId} (hA : w.alloc (.cells cs t) = A) : A.heap.size = w.heap.size + 1 ∧ Below w.heap.size w A ∧ A.heap[w.heap.size]? = some (.cells cs t (0, 0)) := by
  subst hA
  exact ⟨by simp, (Below.refl _ _).alloc (Nat.le_refl _) _, heap_alloc_new w _⟩

def poolB (p : Par) (n : Int) : Bool := decide (0 ≤ n) && decide (n < p.stakes.length)

set_option maxHeartbeats 400000 in
theorem isPool_is (p : Par) (n : Int) (w : World) :
    Calls Tryz.prog 77 #[rulV p, .int .i64 n] w fun e w' => e = .returned (.bool (poolB p n)) ∧ Below w.heap.size w w' := by
  unfold rulV
  have HB := Go.Proofs.YtpaakikgfojplaaGreat.hid (show poolB p n = (decide (0 ≤ n) && decide (n < p.stakes.length)) from rfl)
  by_cases h1 : 0 ≤ n
  · by_cases h2 : n < (p.stakes.length : Int)
    · go_enter Tryz.func77, Tryz.ntmps77
      go_wp2
      go_ret
      exact ⟨by rw [HB.out]; simp [h1, h2], (Below.refl _ _).alloc (Nat.le_refl _) _⟩
    · go_enter Tryz.func77, Tryz.ntmps77
      go_wp2
      go_ret
      exact ⟨by rw [HB.out]; simp [h1, h2], (Below.refl _ _).alloc (Nat.le_refl _) _⟩
  · go_enter Tryz.func77, Tryz.ntmps77
    go_wp2
    go_ret
    exact ⟨by rw [HB.out, decide_eq_false (by omega : ¬ (0 ≤ n))]; rfl, (Below.refl _ _).alloc (Nat.le_refl _) _⟩

def slotOkP (slot : Int) : Prop := slot = -1 ∨ (0 ≤ slot ∧ slot ≤ 10000)

set_option maxHeartbeats 400000 in
theorem epochOf_is (p : Par) (slot : Int) (w : World) (hp : ParOk p) (hs : slotOkP slot) :
    Calls Tryz.prog 78 #[rulV p, .int .i64 slot] w fun e w' => e = .returned (.int .i64 (epochOf p slot)) ∧ Below w.heap.size w w' := by
  unfold rulV
  have h1 := hp.e1
  have h2 := hp.e2
  have HB := Go.Proofs.YtpaakikgfojplaaGreat.hid (show epochOf p slot = (if slot = -1 then -2 else slot / p.epoch) from rfl)
  by_cases h : slot = -1
  · subst h
    go_enter Tryz.func78, Tryz.ntmps78
    go_wp2
    go_ret
    exact ⟨by rw [HB.out]; rfl, (Below.refl _ _).alloc (Nat.le_refl _) _⟩
  · have hs' : 0 ≤ slot ∧ slot ≤ 10000 := hs.resolve_left h
    obtain ⟨h3, h4⟩ := hs'
    have hz : (p.epoch == 0) = false := by rw [beq_eq_false_iff_ne]; omega
    have hq : slot.tdiv p.epoch = slot / p.epoch := Int.tdiv_eq_ediv_of_nonneg h3
    have hq1 : 0 ≤ slot / p.epoch := Int.ediv_nonneg h3 (by omega)
    have hq2 : slot / p.epoch ≤ slot := Int.ediv_le_self _ h3
    go_enter Tryz.func78, Tryz.ntmps78
    go_wp2
    go_ret
    exact ⟨by rw [HB.out, if_neg h]; rfl, (Below.refl _ _).alloc (Nat.le_refl _) _⟩

set_option maxHeartbeats 400000 in
theorem isEarly_is (p : Par) (slot : Int) (w : World) (hp : ParOk p) (h3 : 0 ≤ slot) (h4 : slot ≤ 10000) :
    Calls Tryz.prog 100 #[rulV p, .int .i64 slot] w fun e w' => e = .returned (.bool (decide (3 * (slot % p.epoch) < 2 * p.epoch))) ∧ Below w.heap.size w w' := by
  unfold rulV
  have h1 := hp.e1
  have h2 := hp.e2
  have hz : (p.epoch == 0) = false := by rw [beq_eq_false_iff_ne]; omega
  have hq : slot.tmod p.epoch = slot % p.epoch := Int.tmod_eq_emod_of_nonneg h3
  have hq1 : 0 ≤ slot % p.epoch := Int.emod_nonneg _ (by omega)
  have hq2 : slot % p.epoch < p.epoch := Int.emod_lt_of_pos _ (by omega)
  go_enter Tryz.func100, Tryz.ntmps100
  go_wp2
  go_quiet (fail)
  go_wp2
  go_ret
  exact ⟨rfl, drawB ((Below.refl _ _).alloc (Nat.le_refl _) _) _⟩

end Go.Proofs.YtpaakikgfojplaaGreat

/-
  THE WALKS of the program's ledger: nonceIn, stakesIn.
-/
namespace Go.Proofs.YtpaakikgfojplaaGreat
open Go.RowKit Num Bk
set_option linter.unusedVariables false

theorem blocks2 {w w1 : World} {o1 o2 : Obj} (hb : Below ((w.alloc o1).alloc o2).heap.size ((w.alloc o1).alloc o2) w1) :
    w.heap.size + 2 ≤ w1.heap.size ∧ Below w.heap.size w w1 ∧ w1.heap[w.heap.size]? = some o1 ∧ w1.heap[w.heap.size + 1]? = some o2 := by
  have hs := hb.size
  simp only [World.size_alloc] at hs
  have b1 : ((w.alloc o1).alloc o2).heap[w.heap.size]? = some o1 := by rw [Below.heap_alloc _ _ _ (by simp)]; exact heap_alloc_new w _
  have b2 : ((w.alloc o1).alloc o2).heap[w.heap.size + 1]? = some o2 := by have := heap_alloc_new (w.alloc o1) o2; simpa using this
  refine ⟨hs, ?_, ?_, ?_⟩
  · exact (((Below.refl _ _).alloc (Nat.le_refl _) _).alloc (by simp) _).trans (hb.mono (by simp; omega))
  · rw [hb.block _ (by simp; omega)]; exact b1
  · rw [hb.block _ (by simp)]; exact b2

theorem blocks3 {w w1 : World} {o1 o2 o3 : Obj} (hb : Below (((w.alloc o1).alloc o2).alloc o3).heap.size (((w.alloc o1).alloc o2).alloc o3) w1) :
    w.heap.size + 3 ≤ w1.heap.size ∧ Below w.heap.size w w1 ∧ w1.heap[w.heap.size]? = some o1 ∧ w1.heap[w.heap.size + 1]? = some o2 ∧ w1.heap[w.heap.size + 2]? = some o3 := by
  have hs := hb.size
  simp only [World.size_alloc] at hs
  have b1 : (((w.alloc o1).alloc o2).alloc o3).heap[w.heap.size]? = some o1 := by rw [Below.heap_alloc _ _ _ (by simp; omega), Below.heap_alloc _ _ _ (by simp)]; exact heap_alloc_new w _
  have b2 : (((w.alloc o1).alloc o2).alloc o3).heap[w.heap.size + 1]? = some o2 := by rw [Below.heap_alloc _ _ _ (by simp)]; have := heap_alloc_new (w.alloc o1) o2; simpa using this
  have b3 : (((w.alloc o1).alloc o2).alloc o3).heap[w.heap.size + 2]? = some o3 := by have := heap_alloc_new ((w.alloc o1).alloc o2) o3; simpa using this
  refine ⟨hs, ?_, ?_, ?_, ?_⟩
  · exact ((((Below.refl _ _).alloc (Nat.le_refl _) _).alloc (by simp) _).alloc (by simp; omega) _).trans (hb.mono (by simp; omega))
  · rw [hb.block _ (by simp; omega)]; exact b1
  · rw [hb.block _ (by simp)]; exact b2
  · rw [hb.block _ (by simp)]; exact b3

set_option maxHeartbeats 400000 in
theorem nonceIn_is (p : Par) (g : Pg) (e : Int) (w : World) (hp : ParOk p) (hs : slotOkP g.slot) :
    Calls Tryz.prog 79 #[rulV p, pageV g, .int .i64 e] w fun r w' => r = .returned (.int .i64 (nonceIn p g e)) ∧ Below w.heap.size w w' := by
  unfold rulV pageV pgA
  have HB := Go.Proofs.YtpaakikgfojplaaGreat.hid (show nonceIn p g e = (if epochOf p g.slot < e then g.running else g.nonce) from rfl)
  go_enter Tryz.func79, Tryz.ntmps79
  go_wp2_with fail
  refine (epochOf_is p g.slot _ hp hs).mono ?_
  rintro r w1 ⟨rfl, hb⟩
  obtain ⟨hs1, hb1, h1, h2⟩ := blocks2 hb
  have c13 := cell_of_cells (j := 13) h2 rfl
  have c14 := cell_of_cells (j := 14) h2 rfl
  have HBL := Go.Proofs.YtpaakikgfojplaaGreat.hid hb1
  clear hb hb1 h1 h2
  generalize epochOf p g.slot = E at *
  by_cases h : E < e
  · have HC := Go.Proofs.YtpaakikgfojplaaGreat.hid (HB.out.trans (if_pos h))
    go_wp2
    go_ret
    exact ⟨by rw [HC.out]; rfl, HBL.out⟩
  · have HC := Go.Proofs.YtpaakikgfojplaaGreat.hid (HB.out.trans (if_neg h))
    go_wp2
    go_ret
    exact ⟨by rw [HC.out]; rfl, HBL.out⟩

set_option maxHeartbeats 800000 in
theorem stakesIn_is (p : Par) (g : Pg) (e : Int) (w : World) (hp : ParOk p) (hs : slotOkP g.slot) (he : -100 ≤ e ∧ e ≤ 20000) :
    Calls Tryz.prog 80 #[rulV p, pageV g, .int .i64 e] w fun r w' => r = .returned (arrV (stakesIn p g e)) ∧ Below w.heap.size w w' := by
  obtain ⟨he1, he2⟩ := he
  unfold rulV pageV pgA arrV
  have HB := Go.Proofs.YtpaakikgfojplaaGreat.hid (show stakesIn p g e = (if epochOf p g.slot < e - 1 then g.stakes else if epochOf p g.slot < e then g.before else g.long) from rfl)
  go_enter Tryz.func80, Tryz.ntmps80
  go_wp2_with fail
  refine (epochOf_is p g.slot _ hp hs).mono ?_
  rintro r w1 ⟨rfl, hb⟩
  obtain ⟨hs1, hb1, h1, h2, h3⟩ := blocks3 hb
  have HBL := Go.Proofs.YtpaakikgfojplaaGreat.hid hb1
  have hne : w.heap.size + 2 < w1.heap.size := by omega
  clear hb hb1 h1
  generalize epochOf p g.slot = E at *
  have f0 := free_of_cells (j := 0) h3
  have f1 := free_of_cells (j := 1) h3
  have f2 := free_of_cells (j := 2) h3
  have f3 := free_of_cells (j := 3) h3
  have f4 := free_of_cells (j := 4) h3
  have f5 := free_of_cells (j := 5) h3
  have r0 := cell_of_cells (j := 0) h3 rfl
  have r1 := cell_of_cells (j := 1) h3 rfl
  have r2 := cell_of_cells (j := 2) h3 rfl
  have r3 := cell_of_cells (j := 3) h3 rfl
  have r4 := cell_of_cells (j := 4) h3 rfl
  have r5 := cell_of_cells (j := 5) h3 rfl
  have HF : Hid (∀ a0 a1 a2 a3 a4 a5 : Value, Below w.heap.size w ((((((w1.setCell ⟨w.heap.size + 2, 0, none⟩ a0).setCell ⟨w.heap.size + 2, 1, none⟩ a1).setCell ⟨w.heap.size + 2, 2, none⟩ a2).setCell ⟨w.heap.size + 2, 3, none⟩ a3).setCell ⟨w.heap.size + 2, 4, none⟩ a4).setCell ⟨w.heap.size + 2, 5, none⟩ a5)) := by
    intro a0 a1 a2 a3 a4 a5
    have h := HBL.out
    exact (((((h.setCell (by simp) _).setCell (by simp) _).setCell (by simp) _).setCell (by simp) _).setCell (by simp) _).setCell (by simp) _
  by_cases h : E < e - 1
  · have HC := Go.Proofs.YtpaakikgfojplaaGreat.hid (HB.out.trans (if_pos h))
    have c1 := cell_of_cells (j := 1) h2 rfl
    have c2 := cell_of_cells (j := 2) h2 rfl
    have c3 := cell_of_cells (j := 3) h2 rfl
    have c4 := cell_of_cells (j := 4) h2 rfl
    have c5 := cell_of_cells (j := 5) h2 rfl
    have c6 := cell_of_cells (j := 6) h2 rfl
    clear h2 h3
    go_wp2
    refine bodyPost_ret (v := .agg #[.int .i64 (g.stakes 0), .int .i64 (g.stakes 1), .int .i64 (g.stakes 2), .int .i64 (g.stakes 3), .int .i64 (g.stakes 4), .int .i64 (g.stakes 5)]) (by simp [results, Tryz.results80, go_sem, r0, r1, r2, r3, r4, r5]) rfl ⟨by rw [HC.out], HF.out _ _ _ _ _ _⟩
  · have HC := Go.Proofs.YtpaakikgfojplaaGreat.hid (HB.out.trans (if_neg h))
    by_cases h' : E < e
    · have HD := Go.Proofs.YtpaakikgfojplaaGreat.hid (HC.out.trans (if_pos h'))
      have c1 := cell_of_cells (j := 15) h2 rfl
      have c2 := cell_of_cells (j := 16) h2 rfl
      have c3 := cell_of_cells (j := 17) h2 rfl
      have c4 := cell_of_cells (j := 18) h2 rfl
      have c5 := cell_of_cells (j := 19) h2 rfl
      have c6 := cell_of_cells (j := 20) h2 rfl
      clear h2 h3 HC
      go_wp2
      refine bodyPost_ret (v := .agg #[.int .i64 (g.before 0), .int .i64 (g.before 1), .int .i64 (g.before 2), .int .i64 (g.before 3), .int .i64 (g.before 4), .int .i64 (g.before 5)]) (by simp [results, Tryz.results80, go_sem, r0, r1, r2, r3, r4, r5]) rfl ⟨by rw [HD.out], HF.out _ _ _ _ _ _⟩
    · have HD := Go.Proofs.YtpaakikgfojplaaGreat.hid (HC.out.trans (if_neg h'))
      have c1 := cell_of_cells (j := 21) h2 rfl
      have c2 := cell_of_cells (j := 22) h2 rfl
      have c3 := cell_of_cells (j := 23) h2 rfl
      have c4 := cell_of_cells (j := 24) h2 rfl
      have c5 := cell_of_cells (j := 25) h2 rfl
      have c6 := cell_of_cells (j := 26) h2 rfl
      clear h2 h3 HC
      go_wp2
      refine bodyPost_ret (v := .agg #[.int .i64 (g.long 0), .int .i64 (g.long 1), .int .i64 (g.long 2), .int .i64 (g.long 3), .int .i64 (g.long 4), .int .i64 (g.long 5)]) (by simp [results, Tryz.results80, go_sem, r0, r1, r2, r3, r4, r5]) rfl ⟨by rw [HD.out], HF.out _ _ _ _ _ _⟩

end Go.Proofs.YtpaakikgfojplaaGreat

/-
  THE WALKS of the program's ledger: Proof, Leads, Stake, Count, Turn.
-/
namespace Go.Proofs.YtpaakikgfojplaaGreat
open Go.RowKit Num Bk
set_option linter.unusedVariables false

set_option maxHeartbeats 400000 in
theorem proof_is (nonce slot pool : Int) (w : World) (h1 : 0 ≤ nonce) (h2 : nonce < 65521) (h3 : 0 ≤ slot) (h4 : slot ≤ 10000) (h5 : 0 ≤ pool) (h6 : pool < 6) :
    Calls Tryz.prog 81 #[.int .i64 nonce, .int .i64 slot, .int .i64 pool] w fun e w' => e = .returned (.tuple #[.int .i64 (drawN nonce slot pool), .int .i64 0]) ∧ w = w' := by
  have HD := Go.Proofs.YtpaakikgfojplaaGreat.hid (show drawN nonce slot pool = ((nonce * 4099 + slot * 769 + pool * 97 + 12345) % 65521 * ((nonce * 4099 + slot * 769 + pool * 97 + 12345) % 65521)) % 65521 % 1024 from rfl)
  have hb1 := Int.emod_nonneg (nonce * 4099 + slot * 769 + pool * 97 + 12345) (show (65521 : Int) ≠ 0 by omega)
  have hb2 := Int.emod_lt_of_pos (nonce * 4099 + slot * 769 + pool * 97 + 12345) (show (0 : Int) < 65521 by omega)
  have hb3 : 0 ≤ (nonce * 4099 + slot * 769 + pool * 97 + 12345) % 65521 * ((nonce * 4099 + slot * 769 + pool * 97 + 12345) % 65521) := Int.mul_nonneg hb1 hb1
  have hb4 : (nonce * 4099 + slot * 769 + pool * 97 + 12345) % 65521 * ((nonce * 4099 + slot * 769 + pool * 97 + 12345) % 65521) ≤ 65520 * 65520 := Int.mul_le_mul (by omega) (by omega) hb1 (by omega)
  go_enter Tryz.func81, Tryz.ntmps81
  go_wp2
  go_ret2
  exact ⟨by rw [HD.out]; rfl, rfl⟩

set_option maxHeartbeats 1600000 in
set_option maxRecDepth 1000000 in
theorem lead_in_nat (p s t a b : Nat) (w : World) (hp : p ≤ 1023) (ht1 : 1 ≤ t) (ht : t ≤ 240) (hs : s ≤ t) (hb : b ≤ 20) (ha : 1 ≤ a) (hab : a < b) :
    Calls Tryz.prog 82 #[.int .i64 (p : Int), .int .i64 (s : Int), .int .i64 (t : Int), .int .i64 (a : Int), .int .i64 (b : Int)] w fun e w' => e = .returned (.tuple #[.bool (leads p s t a b), .int .i64 0]) ∧ Below w.heap.size w w' := by
  go_enter Tryz.func82, Tryz.ntmps82
  go_wp2_with (first | (go_at_call 93; refine (edge_any p s t a b _ hp ht hs hb ha hab).mono ?_; rintro e w1 ⟨rfl, hB1⟩) | go_in)
  go_ret2
  exact ⟨rfl, hB1⟩

theorem lead_in (p s t a b : Int) (w : World) (h0 : 0 ≤ p) (h1 : p ≤ 1023) (h2 : 1 ≤ t) (h3 : t ≤ 240) (h4 : 0 ≤ s) (h5 : s ≤ t) (h6 : b ≤ 20) (h7 : 1 ≤ a) (h8 : a < b) :
    Calls Tryz.prog 82 #[.int .i64 p, .int .i64 s, .int .i64 t, .int .i64 a, .int .i64 b] w fun e w' => e = .returned (.tuple #[.bool (leads p.toNat s.toNat t.toNat a.toNat b.toNat), .int .i64 0]) ∧ Below w.heap.size w w' := by
  obtain ⟨p, rfl⟩ := Int.eq_ofNat_of_zero_le h0
  obtain ⟨s, rfl⟩ := Int.eq_ofNat_of_zero_le h4
  obtain ⟨t, rfl⟩ := Int.eq_ofNat_of_zero_le (show 0 ≤ t by omega)
  obtain ⟨a, rfl⟩ := Int.eq_ofNat_of_zero_le (show 0 ≤ a by omega)
  obtain ⟨b, rfl⟩ := Int.eq_ofNat_of_zero_le (show 0 ≤ b by omega)
  simp only [Int.toNat_natCast]
  exact lead_in_nat p s t a b w (by omega) (by omega) (by omega) (by omega) (by omega) (by omega) (by omega)

theorem six {P : Nat → Prop} (h0 : P 0) (h1 : P 1) (h2 : P 2) (h3 : P 3) (h4 : P 4) (h5 : P 5) : ∀ k, k < 6 → P k := by
  intro k hk
  match k, hk with
  | 0, _ => exact h0
  | 1, _ => exact h1
  | 2, _ => exact h2
  | 3, _ => exact h3
  | 4, _ => exact h4
  | 5, _ => exact h5
  | n + 6, h => omega

theorem pg_stakes (g : Pg) : ∀ k, k < 6 → (pgA g)[1 + k]? = some (.int .i64 (g.stakes k)) := six rfl rfl rfl rfl rfl rfl
theorem pg_counts (g : Pg) : ∀ k, k < 6 → (pgA g)[7 + k]? = some (.int .i64 (g.counts k)) := six rfl rfl rfl rfl rfl rfl

theorem poolB_yes {p : Par} {n : Int} (hp : ParOk p) (h : poolB p n = true) : ∃ k : Nat, n = (k : Int) ∧ k < p.stakes.length ∧ k < 6 := by
  simp only [poolB, Bool.and_eq_true, decide_eq_true_eq] at h
  obtain ⟨h1, h2⟩ := h
  have := hp.l2
  exact ⟨n.toNat, by omega, by omega, by omega⟩

set_option maxHeartbeats 800000 in
theorem lstake_is (p : Par) (g : Pg) (pool : Int) (w : World) (hp : ParOk p) :
    Calls Tryz.prog 61 #[rulV p, pageV g, .int .i64 pool] w fun r w' => r = .returned (.tuple #[.int .i64 (if poolB p pool then g.stakes pool.toNat else 0), .int .i64 (if poolB p pool then 0 else 5)]) ∧ Below w.heap.size w w' := by
  cases hpb : poolB p pool
  · simp only [Bool.false_eq_true, if_false]
    unfold rulV pageV
    go_enter Tryz.func61, Tryz.ntmps61
    go_wp2_with fail
    refine (isPool_is p pool _).mono ?_
    rintro r w1 ⟨rfl, hb⟩
    rw [hpb]
    obtain ⟨hs1, hb1, h1, h2⟩ := blocks2 hb
    have HBL := Go.Proofs.YtpaakikgfojplaaGreat.hid hb1
    clear hb hb1 h1
    clear h2
    go_wp2
    go_ret2
    exact ⟨rfl, HBL.out⟩
  · simp only [if_true]
    obtain ⟨k, rfl, hk1, hk2⟩ := poolB_yes hp hpb
    rw [Int.toNat_natCast]
    unfold rulV pageV
    go_enter Tryz.func61, Tryz.ntmps61
    go_wp2_with fail
    refine (isPool_is p (k : Int) _).mono ?_
    rintro r w1 ⟨rfl, hb⟩
    rw [hpb]
    obtain ⟨hs1, hb1, h1, h2⟩ := blocks2 hb
    have HBL := Go.Proofs.YtpaakikgfojplaaGreat.hid hb1
    clear hb hb1 h1
    have c1 := cell_of_cells (j := 1 + k) h2 (pg_stakes g k hk2)
    clear h2 hpb
    go_wp2
    go_ret2
    exact ⟨rfl, HBL.out⟩

set_option maxHeartbeats 800000 in
theorem lcount_is (p : Par) (g : Pg) (pool : Int) (w : World) (hp : ParOk p) :
    Calls Tryz.prog 62 #[rulV p, pageV g, .int .i64 pool] w fun r w' => r = .returned (.tuple #[.int .i64 (if poolB p pool then g.counts pool.toNat else 0), .int .i64 (if poolB p pool then 0 else 5)]) ∧ Below w.heap.size w w' := by
  cases hpb : poolB p pool
  · simp only [Bool.false_eq_true, if_false]
    unfold rulV pageV
    go_enter Tryz.func62, Tryz.ntmps62
    go_wp2_with fail
    refine (isPool_is p pool _).mono ?_
    rintro r w1 ⟨rfl, hb⟩
    rw [hpb]
    obtain ⟨hs1, hb1, h1, h2⟩ := blocks2 hb
    have HBL := Go.Proofs.YtpaakikgfojplaaGreat.hid hb1
    clear hb hb1 h1
    clear h2
    go_wp2
    go_ret2
    exact ⟨rfl, HBL.out⟩
  · simp only [if_true]
    obtain ⟨k, rfl, hk1, hk2⟩ := poolB_yes hp hpb
    rw [Int.toNat_natCast]
    unfold rulV pageV
    go_enter Tryz.func62, Tryz.ntmps62
    go_wp2_with fail
    refine (isPool_is p (k : Int) _).mono ?_
    rintro r w1 ⟨rfl, hb⟩
    rw [hpb]
    obtain ⟨hs1, hb1, h1, h2⟩ := blocks2 hb
    have HBL := Go.Proofs.YtpaakikgfojplaaGreat.hid hb1
    clear hb hb1 h1
    have c1 := cell_of_cells (j := 7 + k) h2 (pg_counts g k hk2)
    clear h2 hpb
    go_wp2
    go_ret2
    exact ⟨rfl, HBL.out⟩

end Go.Proofs.YtpaakikgfojplaaGreat

