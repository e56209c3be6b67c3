import Derived.Test.YtpaakikgfojplaaCM25
import Derived.BigQuiet
import Derived.Deep.QuietTactic
import Derived.Test.YtpaakikgfojplaaCM4
import Derived.OpenShut
/-
  THE WALKS of the program's ledger: Proof, Leads, Stake, Count, Turn.
-/
namespace Go.Proofs.Ytpaakikgfojplaa
open Go.RowKit Num Bk
set_option linter.unusedVariables false

set_option maxHeartbeats 400000 in
theorem proof_is (nonce slot pool : Int) (w : World) (h1 : 0 ≤ nonce) (h2 : nonce < 65521) (h3 : 0 ≤ slot) (h4 : slot ≤ 10000) (h5 : 0 ≤ pool) (h6 : pool < 6) :
    Calls Try.prog 37 #[.int .i64 nonce, .int .i64 slot, .int .i64 pool] w fun e w' => e = .returned (.tuple #[.int .i64 (drawN nonce slot pool), .int .i64 0]) ∧ w = w' := by
  have HD := Go.Proofs.Ytpaakikgfojplaa.hid (show drawN nonce slot pool = ((nonce * 4099 + slot * 769 + pool * 97 + 12345) % 65521 * ((nonce * 4099 + slot * 769 + pool * 97 + 12345) % 65521)) % 65521 % 1024 from rfl)
  have hb1 := Int.emod_nonneg (nonce * 4099 + slot * 769 + pool * 97 + 12345) (show (65521 : Int) ≠ 0 by omega)
  have hb2 := Int.emod_lt_of_pos (nonce * 4099 + slot * 769 + pool * 97 + 12345) (show (0 : Int) < 65521 by omega)
  have hb3 : 0 ≤ (nonce * 4099 + slot * 769 + pool * 97 + 12345) % 65521 * ((nonce * 4099 + slot * 769 + pool * 97 + 12345) % 65521) := Int.mul_nonneg hb1 hb1
  have hb4 : (nonce * 4099 + slot * 769 + pool * 97 + 12345) % 65521 * ((nonce * 4099 + slot * 769 + pool * 97 + 12345) % 65521) ≤ 65520 * 65520 := Int.mul_le_mul (by omega) (by omega) hb1 (by omega)
  go_enter Try.func37, Try.ntmps37
  go_wp2
  go_ret2
  exact ⟨by rw [HD.out]; rfl, rfl⟩

set_option maxHeartbeats 1600000 in
set_option maxRecDepth 1000000 in
theorem lead_in_nat (p s t a b : Nat) (w : World) (hp : p ≤ 1023) (ht1 : 1 ≤ t) (ht : t ≤ 240) (hs : s ≤ t) (hb : b ≤ 20) (ha : 1 ≤ a) (hab : a < b) :
    Calls Try.prog 35 #[.int .i64 (p : Int), .int .i64 (s : Int), .int .i64 (t : Int), .int .i64 (a : Int), .int .i64 (b : Int)] w fun e w' => e = .returned (.tuple #[.bool (leads p s t a b), .int .i64 0]) ∧ Below w.heap.size w w' := by
  go_enter Try.func35, Try.ntmps35
  go_wp2_with (first | (go_at_call 65; refine (edge_any p s t a b _ hp ht hs hb ha hab).mono ?_; rintro e w1 ⟨rfl, hB1⟩) | go_in)
  go_ret2
  exact ⟨rfl, hB1⟩

theorem lead_in (p s t a b : Int) (w : World) (h0 : 0 ≤ p) (h1 : p ≤ 1023) (h2 : 1 ≤ t) (h3 : t ≤ 240) (h4 : 0 ≤ s) (h5 : s ≤ t) (h6 : b ≤ 20) (h7 : 1 ≤ a) (h8 : a < b) :
    Calls Try.prog 35 #[.int .i64 p, .int .i64 s, .int .i64 t, .int .i64 a, .int .i64 b] w fun e w' => e = .returned (.tuple #[.bool (leads p.toNat s.toNat t.toNat a.toNat b.toNat), .int .i64 0]) ∧ Below w.heap.size w w' := by
  obtain ⟨p, rfl⟩ := Int.eq_ofNat_of_zero_le h0
  obtain ⟨s, rfl⟩ := Int.eq_ofNat_of_zero_le h4
  obtain ⟨t, rfl⟩ := Int.eq_ofNat_of_zero_le (show 0 ≤ t by omega)
  obtain ⟨a, rfl⟩ := Int.eq_ofNat_of_zero_le (show 0 ≤ a by omega)
  obtain ⟨b, rfl⟩ := Int.eq_ofNat_of_zero_le (show 0 ≤ b by omega)
  simp only [Int.toNat_natCast]
  exact lead_in_nat p s t a b w (by omega) (by omega) (by omega) (by omega) (by omega) (by omega) (by omega)

theorem six {P : Nat → Prop} (h0 : P 0) (h1 : P 1) (h2 : P 2) (h3 : P 3) (h4 : P 4) (h5 : P 5) : ∀ k, k < 6 → P k := by
  intro k hk
  match k, hk with
  | 0, _ => exact h0
  | 1, _ => exact h1
  | 2, _ => exact h2
  | 3, _ => exact h3
  | 4, _ => exact h4
  | 5, _ => exact h5
  | n + 6, h => omega

theorem pg_stakes (g : Pg) : ∀ k, k < 6 → (pgA g)[1 + k]? = some (.int .i64 (g.stakes k)) := six rfl rfl rfl rfl rfl rfl
theorem pg_counts (g : Pg) : ∀ k, k < 6 → (pgA g)[7 + k]? = some (.int .i64 (g.counts k)) := six rfl rfl rfl rfl rfl rfl

theorem poolB_yes {p : Par} {n : Int} (hp : ParOk p) (h : poolB p n = true) : ∃ k : Nat, n = (k : Int) ∧ k < p.stakes.length ∧ k < 6 := by
  simp only [poolB, Bool.and_eq_true, decide_eq_true_eq] at h
  obtain ⟨h1, h2⟩ := h
  have := hp.l2
  exact ⟨n.toNat, by omega, by omega, by omega⟩

set_option maxHeartbeats 800000 in
theorem lstake_is (p : Par) (g : Pg) (pool : Int) (w : World) (hp : ParOk p) :
    Calls Try.prog 47 #[rulV p, pageV g, .int .i64 pool] w fun r w' => r = .returned (.tuple #[.int .i64 (if poolB p pool then g.stakes pool.toNat else 0), .int .i64 (if poolB p pool then 0 else 5)]) ∧ Below w.heap.size w w' := by
  cases hpb : poolB p pool
  · simp only [Bool.false_eq_true, if_false]
    unfold rulV pageV
    go_enter Try.func47, Try.ntmps47
    go_wp2_with fail
    refine (isPool_is p pool _).mono ?_
    rintro r w1 ⟨rfl, hb⟩
    rw [hpb]
    obtain ⟨hs1, hb1, h1, h2⟩ := blocks2 hb
    have HBL := Go.Proofs.Ytpaakikgfojplaa.hid hb1
    clear hb hb1 h1
    clear h2
    go_wp2
    go_ret2
    exact ⟨rfl, HBL.out⟩
  · simp only [if_true]
    obtain ⟨k, rfl, hk1, hk2⟩ := poolB_yes hp hpb
    rw [Int.toNat_natCast]
    unfold rulV pageV
    go_enter Try.func47, Try.ntmps47
    go_wp2_with fail
    refine (isPool_is p (k : Int) _).mono ?_
    rintro r w1 ⟨rfl, hb⟩
    rw [hpb]
    obtain ⟨hs1, hb1, h1, h2⟩ := blocks2 hb
    have HBL := Go.Proofs.Ytpaakikgfojplaa.hid hb1
    clear hb hb1 h1
    have c1 := cell_of_cells (j := 1 + k) h2 (pg_stakes g k hk2)
    clear h2 hpb
    go_wp2
    go_ret2
    exact ⟨rfl, HBL.out⟩

set_option maxHeartbeats 800000 in
theorem lcount_is (p : Par) (g : Pg) (pool : Int) (w : World) (hp : ParOk p) :
    Calls Try.prog 48 #[rulV p, pageV g, .int .i64 pool] w fun r w' => r = .returned (.tuple #[.int .i64 (if poolB p pool then g.counts pool.toNat else 0), .int .i64 (if poolB p pool then 0 else 5)]) ∧ Below w.heap.size w w' := by
  cases hpb : poolB p pool
  · simp only [Bool.false_eq_true, if_false]
    unfold rulV pageV
    go_enter Try.func48, Try.ntmps48
    go_wp2_with fail
    refine (isPool_is p pool _).mono ?_
    rintro r w1 ⟨rfl, hb⟩
    rw [hpb]
    obtain ⟨hs1, hb1, h1, h2⟩ := blocks2 hb
    have HBL := Go.Proofs.Ytpaakikgfojplaa.hid hb1
    clear hb hb1 h1
    clear h2
    go_wp2
    go_ret2
    exact ⟨rfl, HBL.out⟩
  · simp only [if_true]
    obtain ⟨k, rfl, hk1, hk2⟩ := poolB_yes hp hpb
    rw [Int.toNat_natCast]
    unfold rulV pageV
    go_enter Try.func48, Try.ntmps48
    go_wp2_with fail
    refine (isPool_is p (k : Int) _).mono ?_
    rintro r w1 ⟨rfl, hb⟩
    rw [hpb]
    obtain ⟨hs1, hb1, h1, h2⟩ := blocks2 hb
    have HBL := Go.Proofs.Ytpaakikgfojplaa.hid hb1
    clear hb hb1 h1
    have c1 := cell_of_cells (j := 7 + k) h2 (pg_counts g k hk2)
    clear h2 hpb
    go_wp2
    go_ret2
    exact ⟨rfl, HBL.out⟩

end Go.Proofs.Ytpaakikgfojplaa

/-
  The contract of pick (the statements' own), and that of beacon.Leads over Int.
-/
namespace Go.Proofs.Ytpaakikgfojplaa
open Go.RowKit Num

set_option maxHeartbeats 400000 in
theorem pick_any (c n : Int) (w : World) (h1 : -9223372036854775808 ≤ c) (h2 : c ≤ 9223372036854775807) (hn : 1 ≤ n) (hn2 : n ≤ 1000000) :
    Calls Try.prog 20 #[.int .i64 c, .int .i64 n] w fun e w' => ∃ r : Int, 0 ≤ r ∧ r < n ∧ e = .returned (.int .i64 r) ∧ w = w' := by
  have hz : (n == 0) = false := by rw [beq_eq_false_iff_ne]; omega
  by_cases h : c < 0
  · go_enter Try.func20, Try.ntmps20
    go_wp2
    go_ret
    have e : -(c + 1).tmod n = (-(c + 1)) % n := by rw [← Int.neg_tmod, Int.tmod_eq_emod_of_nonneg (by omega)]
    exact ⟨-(c + 1).tmod n, by rw [e]; exact Int.emod_nonneg _ (by omega), by rw [e]; exact Int.emod_lt_of_pos _ (by omega), rfl, rfl⟩
  · go_enter Try.func20, Try.ntmps20
    go_wp2
    go_ret
    exact ⟨_, Int.emod_nonneg _ (by omega), Int.emod_lt_of_pos _ (by omega), rfl, rfl⟩

theorem lead_int (p s t a b : Int) (w : World) (h0 : 0 ≤ p) (h1 : p ≤ 1023) (h2 : 1 ≤ t) (h3 : t ≤ 240) (h4 : 0 ≤ s) (h5 : s ≤ t) (h6 : b ≤ 20) (h7 : 1 ≤ a) (h8 : a < b) :
    Calls Try.prog 12 #[.int .i64 p, .int .i64 s, .int .i64 t, .int .i64 a, .int .i64 b] w fun e w' => e = .returned (.tuple #[.bool (leads p.toNat s.toNat t.toNat a.toNat b.toNat), .int .i64 0]) ∧ Below w.heap.size w w' := by
  obtain ⟨p, rfl⟩ := Int.eq_ofNat_of_zero_le h0
  obtain ⟨s, rfl⟩ := Int.eq_ofNat_of_zero_le h4
  obtain ⟨t, rfl⟩ := Int.eq_ofNat_of_zero_le (show 0 ≤ t by omega)
  obtain ⟨a, rfl⟩ := Int.eq_ofNat_of_zero_le (show 0 ≤ a by omega)
  obtain ⟨b, rfl⟩ := Int.eq_ofNat_of_zero_le (show 0 ≤ b by omega)
  simp only [Int.toNat_natCast]
  exact lead_yes p s t a b w (by omega) (by omega) (by omega) (by omega) (by omega) (by omega) (by omega)

end Go.Proofs.Ytpaakikgfojplaa

