import Derived.Test.YtpaakikgfojplaaGreatCM27
import Derived.Test.YtpaakikgfojplaaGreatCM34
import Derived.Test.YtpaakikgfojplaaGreatCM24
import Derived.Test.YtpaakikgfojplaaGreatCM23
import Derived.Test.YtpaakikgfojplaaGreatCM13
/-
  THE WALKS of the statements' sameInts and tells.
-/
namespace Go.Proofs.YtpaakikgfojplaaGreat
open Go.RowKit Num Bk
set_option linter.unusedVariables false

end Go.Proofs.YtpaakikgfojplaaGreat

/-
  MATHEMATICS: headers with one thing in them that may not be, and how they are refused.
-/
namespace Go.Proofs.YtpaakikgfojplaaGreat
open Go.RowKit Num Bk
set_option linter.unusedVariables false

/-- A header with one thing in it that may not be. -/
def spoiltH (s : St) (id : Nat) (h : Hdr) (k : Int) : Hdr :=
  if k = 0 then { h with slot := beginsAt s id - 1 }
  else if k = 1 then { h with slot := 10001 }
  else if k = 2 then { h with pool := np s }
  else if k = 3 then { h with pool := -1 }
  else if k = 4 then { h with count := countAt s.all h.pool id + 2 }
  else if k = 5 then { h with count := countAt s.all h.pool id - 1 }
  else if k = 6 then { h with amount := stakeOf s id h.frm.toNat + 1 }
  else if k = 7 then { h with amount := -1 }
  else if k = 8 then { h with dst := np s }
  else if k = 9 then { h with frm := -1 }
  else if k = 10 then { h with proof := (h.proof + 1) % 1024 }
  else { h with proof := h.proof + 1024 }
def spoiltE (k : Int) : Int := if k ≤ 1 then 4 else if k ≤ 3 then 5 else if k ≤ 5 then 6 else if k ≤ 9 then 7 else 8

theorem offerErr_of {s : St} {parent : Int} {h : Hdr} {e : Int} (h1 : refused s parent h = e) (h2 : e ≠ 0) : offerErr s parent h = e := by
  unfold offerErr
  rw [h1, if_pos h2]

theorem offer_bad {s : St} {parent : Int} {h : Hdr} {e : Int} (h1 : offerErr s parent h = e) (h2 : e ≠ 0) : offer s parent h = s ∧ offerId s parent h = 0 := by
  unfold offer offerId
  rw [if_neg (by rw [h1]; exact h2), if_neg (by rw [h1]; exact h2)]
  exact ⟨rfl, rfl⟩

/-- What Turn says of a slot behind a kept header. -/
theorem turn_parts {s : St} {id : Nat} {slot pool : Int} (hk : id ∈ s.keep) (h : turnErr s (id : Int) slot pool = 0) : slotOk s id slot = true ∧ poolOk s pool = true := by
  unfold turnErr at h
  rw [if_neg (by simp [missing_keep hk]), Int.toNat_natCast] at h
  cases h1 : slotOk s id slot
  · rw [h1] at h; simp at h
  · rw [h1] at h
    simp at h
    cases h2 : poolOk s pool
    · rw [h2] at h; simp at h
    · exact ⟨rfl, rfl⟩

theorem refused_slot {s : St} {id : Nat} {h : Hdr} (hk : id ∈ s.keep) (h1 : slotOk s id h.slot = false) : refused s (id : Int) h = 4 := by
  have ht : turnErr s (id : Int) h.slot h.pool = 4 := by
    unfold turnErr
    rw [if_neg (by simp [missing_keep hk]), Int.toNat_natCast, if_pos h1]
  unfold refused
  rw [ht, if_pos (by decide)]

theorem refused_pool {s : St} {id : Nat} {h : Hdr} (hk : id ∈ s.keep) (h1 : slotOk s id h.slot = true) (h2 : poolOk s h.pool = false) : refused s (id : Int) h = 5 := by
  have ht : turnErr s (id : Int) h.slot h.pool = 5 := by
    unfold turnErr
    rw [if_neg (by simp [missing_keep hk]), Int.toNat_natCast, if_neg (by simp [h1]), if_pos h2]
  unfold refused
  rw [ht, if_pos (by decide)]

theorem refused_count {s : St} {id : Nat} {h : Hdr} (ht : turnErr s (id : Int) h.slot h.pool = 0) (h1 : h.count ≠ countAt s.all h.pool id) (h2 : h.count ≠ countAt s.all h.pool id + 1) : refused s (id : Int) h = 6 := by
  unfold refused
  rw [if_neg (by simp [ht]), Int.toNat_natCast, if_pos ⟨h1, h2⟩]

theorem refused_move {s : St} {id : Nat} {h : Hdr} (ht : turnErr s (id : Int) h.slot h.pool = 0) (hc : h.count = countAt s.all h.pool id ∨ h.count = countAt s.all h.pool id + 1)
    (hm : poolOk s h.frm = false ∨ poolOk s h.dst = false ∨ h.amount < 0 ∨ (stakesAt s.par s.all id).getD h.frm.toNat 0 < h.amount) : refused s (id : Int) h = 7 := by
  unfold refused
  rw [if_neg (by simp [ht]), Int.toNat_natCast, if_neg (by rintro ⟨a, b⟩; rcases hc with e | e; exact a e; exact b e)]
  by_cases h1 : poolOk s h.frm = false ∨ poolOk s h.dst = false
  · rw [if_pos h1]
  · rw [if_neg h1, if_pos]
    rcases hm with h | h | h | h
    · exact absurd (Or.inl h) h1
    · exact absurd (Or.inr h) h1
    · exact Or.inl h
    · exact Or.inr h

theorem refused_proof {s : St} {id : Nat} {h : Hdr} (ht : turnErr s (id : Int) h.slot h.pool = 0) (hc : h.count = countAt s.all h.pool id ∨ h.count = countAt s.all h.pool id + 1)
    (hf : poolOk s h.frm = true) (hd : poolOk s h.dst = true) (h0 : 0 ≤ h.amount) (h1 : h.amount ≤ (stakesAt s.par s.all id).getD h.frm.toNat 0) (hp : h.proof ≠ proofAt s id h.slot h.pool) : refused s (id : Int) h = 8 := by
  unfold refused
  rw [if_neg (by simp [ht]), Int.toNat_natCast, if_neg (by rintro ⟨a, b⟩; rcases hc with e | e; exact a e; exact b e), if_neg (by simp [hf, hd]), if_neg (by omega), if_pos hp]

theorem refused_leader {s : St} {id : Nat} {h : Hdr} (ht : turnErr s (id : Int) h.slot h.pool = 0) (hc : h.count = countAt s.all h.pool id ∨ h.count = countAt s.all h.pool id + 1)
    (hf : poolOk s h.frm = true) (hd : poolOk s h.dst = true) (h0 : 0 ≤ h.amount) (h1 : h.amount ≤ (stakesAt s.par s.all id).getD h.frm.toNat 0) (hp : h.proof = proofAt s id h.slot h.pool) (hl : leadsAt s id h.slot h.pool = false) : refused s (id : Int) h = 9 := by
  unfold refused
  rw [if_neg (by simp [ht]), Int.toNat_natCast, if_neg (by rintro ⟨a, b⟩; rcases hc with e | e; exact a e; exact b e), if_neg (by simp [hf, hd]), if_neg (by omega), if_neg (by simp [hp]), if_pos hl]

theorem spoilt_err {s : St} (hv : Inv s) {id : Nat} (hk : id ∈ s.keep) {h : Hdr} (m : MadeOk s id h) (k : Int) (h0 : 0 ≤ k) (h1 : k < 12) : offerErr s (id : Int) (spoiltH s id h k) = spoiltE k ∧ spoiltE k ≠ 0 ∧ HdrI (spoiltH s id h k) := by
  have hl := inv_lt hv hk
  have hb := begins_bounds hv hl
  have hn := np_bounds hv
  have hnp : np s = (s.par.stakes.length : Int) := rfl
  obtain ⟨hts, htp⟩ := turn_parts hk m.turn
  have hcb := count_bounds hv h.pool id hl
  have hhb := height_small hv hl
  have hsb := stake_bounds hv hl h.frm.toNat
  have htt := (total_small hv.par).2
  have hdb := drawN_bounds (nonceAt s id h.slot) h.slot h.pool
  have hpr : h.proof = drawN (nonceAt s id h.slot) h.slot h.pool := m.proof
  have hso : stakeOf s id h.frm.toNat = (stakesAt s.par s.all id).getD h.frm.toNat 0 := rfl
  have mi := m.is
  have key : refused s (id : Int) (spoiltH s id h k) = spoiltE k ∧ HdrI (spoiltH s id h k) := by
    unfold spoiltH
    by_cases e : k = 0
    · rw [if_pos e]; subst e
      refine ⟨refused_slot hk ?_, ⟨i64_of (by show _ ≤ beginsAt s id - 1; omega) (by show beginsAt s id - 1 ≤ _; omega), mi.a1, mi.a2, mi.a3, mi.a4, mi.a5, mi.a6⟩⟩
      show slotOk s id (beginsAt s id - 1) = false
      unfold slotOk beginsAt
      by_cases h0 : id = 0
      · rw [if_pos h0]; simp
      · rw [if_neg h0]; simp [h0]
    rw [if_neg e]
    by_cases e : k = 1
    · rw [if_pos e]; subst e
      refine ⟨refused_slot hk ?_, ⟨i64_of (by show _ ≤ (10001 : Int); omega) (by show (10001 : Int) ≤ _; omega), mi.a1, mi.a2, mi.a3, mi.a4, mi.a5, mi.a6⟩⟩
      show slotOk s id 10001 = false
      simp [slotOk]
    rw [if_neg e]
    by_cases e : k = 2
    · rw [if_pos e]; subst e
      refine ⟨refused_pool hk hts ?_, ⟨mi.a0, i64_of (by show _ ≤ np s; omega) (by show np s ≤ _; omega), mi.a2, mi.a3, mi.a4, mi.a5, mi.a6⟩⟩
      show poolOk s (np s) = false
      simp [poolOk, hnp]
    rw [if_neg e]
    by_cases e : k = 3
    · rw [if_pos e]; subst e
      refine ⟨refused_pool hk hts ?_, ⟨mi.a0, i64_of (by show _ ≤ (-1 : Int); omega) (by show (-1 : Int) ≤ _; omega), mi.a2, mi.a3, mi.a4, mi.a5, mi.a6⟩⟩
      show poolOk s (-1) = false
      simp [poolOk]
    rw [if_neg e]
    by_cases e : k = 4
    · rw [if_pos e]; subst e
      refine ⟨refused_count m.turn ?_ ?_, ⟨mi.a0, mi.a1, mi.a2, i64_of (by show _ ≤ countAt s.all h.pool id + 2; omega) (by show countAt s.all h.pool id + 2 ≤ _; omega), mi.a4, mi.a5, mi.a6⟩⟩
      · show countAt s.all h.pool id + 2 ≠ countAt s.all h.pool id; omega
      · show countAt s.all h.pool id + 2 ≠ countAt s.all h.pool id + 1; omega
    rw [if_neg e]
    by_cases e : k = 5
    · rw [if_pos e]; subst e
      refine ⟨refused_count m.turn ?_ ?_, ⟨mi.a0, mi.a1, mi.a2, i64_of (by show _ ≤ countAt s.all h.pool id - 1; omega) (by show countAt s.all h.pool id - 1 ≤ _; omega), mi.a4, mi.a5, mi.a6⟩⟩
      · show countAt s.all h.pool id - 1 ≠ countAt s.all h.pool id; omega
      · show countAt s.all h.pool id - 1 ≠ countAt s.all h.pool id + 1; omega
    rw [if_neg e]
    by_cases e : k = 6
    · rw [if_pos e]; subst e
      refine ⟨refused_move m.turn m.count (Or.inr (Or.inr (Or.inr ?_))), ⟨mi.a0, mi.a1, mi.a2, mi.a3, mi.a4, mi.a5, i64_of (by show _ ≤ stakeOf s id h.frm.toNat + 1; omega) (by show stakeOf s id h.frm.toNat + 1 ≤ _; omega)⟩⟩
      show (stakesAt s.par s.all id).getD h.frm.toNat 0 < stakeOf s id h.frm.toNat + 1
      omega
    rw [if_neg e]
    by_cases e : k = 7
    · rw [if_pos e]; subst e
      refine ⟨refused_move m.turn m.count (Or.inr (Or.inr (Or.inl ?_))), ⟨mi.a0, mi.a1, mi.a2, mi.a3, mi.a4, mi.a5, i64_of (by show _ ≤ (-1 : Int); omega) (by show (-1 : Int) ≤ _; omega)⟩⟩
      show (-1 : Int) < 0
      omega
    rw [if_neg e]
    by_cases e : k = 8
    · rw [if_pos e]; subst e
      refine ⟨refused_move m.turn m.count (Or.inr (Or.inl ?_)), ⟨mi.a0, mi.a1, mi.a2, mi.a3, mi.a4, i64_of (by show _ ≤ np s; omega) (by show np s ≤ _; omega), mi.a6⟩⟩
      show poolOk s (np s) = false
      simp [poolOk, hnp]
    rw [if_neg e]
    by_cases e : k = 9
    · rw [if_pos e]; subst e
      refine ⟨refused_move m.turn m.count (Or.inl ?_), ⟨mi.a0, mi.a1, mi.a2, mi.a3, i64_of (by show _ ≤ (-1 : Int); omega) (by show (-1 : Int) ≤ _; omega), mi.a5, mi.a6⟩⟩
      show poolOk s (-1) = false
      simp [poolOk]
    rw [if_neg e]
    by_cases e : k = 10
    · rw [if_pos e]; subst e
      refine ⟨refused_proof m.turn m.count m.frm m.dst m.am0 m.am1 ?_, ⟨mi.a0, mi.a1, i64_of (by show _ ≤ (h.proof + 1) % 1024; omega) (by show (h.proof + 1) % 1024 ≤ _; omega), mi.a3, mi.a4, mi.a5, mi.a6⟩⟩
      show (h.proof + 1) % 1024 ≠ drawN (nonceAt s id h.slot) h.slot h.pool
      omega
    rw [if_neg e]
    have e : k = 11 := by omega
    subst e
    refine ⟨refused_proof m.turn m.count m.frm m.dst m.am0 m.am1 ?_, ⟨mi.a0, mi.a1, i64_of (by show _ ≤ h.proof + 1024; omega) (by show h.proof + 1024 ≤ _; omega), mi.a3, mi.a4, mi.a5, mi.a6⟩⟩
    show h.proof + 1024 ≠ drawN (nonceAt s id h.slot) h.slot h.pool
    omega
  have hne : spoiltE k ≠ 0 := by
    unfold spoiltE
    repeat' split
    all_goals decide
  exact ⟨offerErr_of key.1 hne, hne, key.2⟩

/-- Behind a header that never was. -/
theorem never_err {s : St} (hv : Inv s) (h : Hdr) : missing s (s.all.length : Int) = 3 ∧ offerErr s (s.all.length : Int) h = 3 := by
  have hm : missing s (s.all.length : Int) = 3 := by
    unfold missing
    rw [if_neg, if_neg]
    · intro e
      rw [has_nat] at e
      have := line_le hv.tree _ _ e
      have := fin_lt hv
      omega
    · intro e
      rw [has_nat] at e
      have := inv_lt hv e
      omega
  have ht : turnErr s (s.all.length : Int) h.slot h.pool = 3 := by
    unfold turnErr
    rw [hm, if_pos (by decide)]
  refine ⟨hm, offerErr_of (e := 3) ?_ (by decide)⟩
  unfold refused
  rw [ht, if_pos (by decide)]
theorem minus_err {s : St} (hv : Inv s) : missing s (-1) = 3 := by
  unfold missing
  rw [if_neg, if_neg]
  · intro e
    rw [has_iff] at e
    obtain ⟨k, _, h⟩ := e
    omega
  · intro e
    rw [has_iff] at e
    obtain ⟨k, _, h⟩ := e
    omega

/-- A header of a pool that does not lead. -/
def plainH (s : St) (id : Nat) (pool : Nat) : Hdr := ⟨beginsAt s id, pool, proofAt s id (beginsAt s id) pool, countAt s.all (pool : Int) id, 0, 0, 0⟩
theorem plain_err {s : St} (hv : Inv s) {id : Nat} (hk : id ∈ s.keep) {pool : Nat} (hp : pool < s.par.stakes.length) (hb : beginsAt s id ≤ 10000) (hl : leadsAt s id (beginsAt s id) (pool : Int) = false) :
    turnErr s (id : Int) (beginsAt s id) (pool : Int) = 0 ∧ offerErr s (id : Int) (plainH s id pool) = 9 ∧ HdrI (plainH s id pool) := by
  have hil := inv_lt hv hk
  have hnp : np s = (s.par.stakes.length : Int) := rfl
  have hbb := begins_bounds hv hil
  have hcb := count_bounds hv (pool : Int) id hil
  have hhb := height_small hv hil
  have hsb := stake_bounds hv hil 0
  have hl2 := hv.par.l2
  have hdb := drawN_bounds (nonceAt s id (beginsAt s id)) (beginsAt s id) (pool : Int)
  have ht := turn_zero hv hk (Int.le_refl _) hb (by omega : (0 : Int) ≤ pool) (by omega)
  have h0 : poolOk s 0 = true := by simp [poolOk]; omega
  refine ⟨ht, offerErr_of (refused_leader ht (Or.inl rfl) h0 h0 (Int.le_refl _) hsb.1 rfl hl) (by decide), ⟨i64_of (by show _ ≤ beginsAt s id; omega) (by show beginsAt s id ≤ _; omega), i64_of (by show _ ≤ (pool : Int); omega) (by show (pool : Int) ≤ _; omega), i64_of (by show _ ≤ drawN _ _ _; exact Int.le_trans (by decide) hdb.1) (by show drawN _ _ _ ≤ _; omega), i64_of (by show _ ≤ countAt s.all (pool : Int) id; omega) (by show countAt s.all (pool : Int) id ≤ _; omega), i64_of (by show _ ≤ (0 : Int); omega) (by show (0 : Int) ≤ _; omega), i64_of (by show _ ≤ (0 : Int); omega) (by show (0 : Int) ≤ _; omega), i64_of (by show _ ≤ (0 : Int); omega) (by show (0 : Int) ≤ _; omega)⟩⟩

end Go.Proofs.YtpaakikgfojplaaGreat

/-
  THE WALK of the statements' looks.
-/
namespace Go.Proofs.YtpaakikgfojplaaGreat
open Go.RowKit Num Bk
set_option linter.unusedVariables false

theorem run_neq_hdr (w : World) (a0 a1 a2 a3 a4 a5 a6 : Int) :
    (binOp .neq 40 (.agg #[.int .i64 a0, .int .i64 a1, .int .i64 a2, .int .i64 a3, .int .i64 a4, .int .i64 a5, .int .i64 a6]) (.agg #[.int .i64 a0, .int .i64 a1, .int .i64 a2, .int .i64 a3, .int .i64 a4, .int .i64 a5, .int .i64 a6])).run Tryz.prog w =
      .ok (.bool false) w := by
  go_simp
theorem run_neq_blk (w : World) :
    (binOp .neq 82 (.agg #[.int .i64 0, .int .i64 0, .int .i64 0, .int .i64 0, .int .i64 0, .int .i64 0, .int .i64 0, .int .i64 0, .int .i64 0]) (.agg #[.int .i64 0, .int .i64 0, .int .i64 0, .int .i64 0, .int .i64 0, .int .i64 0, .int .i64 0, .int .i64 0, .int .i64 0])).run Tryz.prog w =
      .ok (.bool false) w := by
  go_simp
attribute [local go_sem] run_neq_hdr run_neq_blk

/-- The three ways in which a header that came is told. -/
theorem look_cases {s : St} (hi : Inv s) {k : Nat} (hk : k < s.all.length) :
    (has s.keep (k : Int) = true ∧ missing s (k : Int) = 0 ∧ ∃ a0 a1 a2 a3 a4 a5 a6, hd s.all k = ⟨a0, a1, a2, a3, a4, a5, a6⟩ ∧ blkV s (k : Int) = .agg #[.int .i64 a0, .int .i64 a1, .int .i64 a2, .int .i64 a3, .int .i64 a4, .int .i64 a5, .int .i64 a6, .int .i64 ((pa s.all k : Nat) : Int), .int .i64 ((height s.all k : Nat) : Int)]) ∨
    (has s.keep (k : Int) = false ∧ has (line s.all (fin s)) (k : Int) = true ∧ missing s (k : Int) = 2 ∧ blkV s (k : Int) = .agg #[.int .i64 0, .int .i64 0, .int .i64 0, .int .i64 0, .int .i64 0, .int .i64 0, .int .i64 0, .int .i64 0, .int .i64 0]) ∨
    (has s.keep (k : Int) = false ∧ has (line s.all (fin s)) (k : Int) = false ∧ missing s (k : Int) = 3 ∧ blkV s (k : Int) = .agg #[.int .i64 0, .int .i64 0, .int .i64 0, .int .i64 0, .int .i64 0, .int .i64 0, .int .i64 0, .int .i64 0, .int .i64 0]) := by
  cases h1 : has s.keep (k : Int)
  · right
    cases h2 : has (line s.all (fin s)) (k : Int)
    · right
      have hm : missing s (k : Int) = 3 := by unfold missing; rw [h1, h2]; rfl
      refine ⟨rfl, rfl, hm, ?_⟩
      unfold blkV
      simp only [hm]
      rfl
    · left
      have hm : missing s (k : Int) = 2 := by unfold missing; rw [h1, h2]; rfl
      refine ⟨rfl, rfl, hm, ?_⟩
      unfold blkV
      simp only [hm]
      rfl
  · left
    have hm : missing s (k : Int) = 0 := by unfold missing; rw [h1]; rfl
    refine ⟨rfl, hm, _, _, _, _, _, _, _, rfl, ?_⟩
    unfold blkV
    simp only [hm, if_true, Int.toNat_natCast]
    rfl

theorem has_rev (l : List Nat) (i : Nat) : has l.reverse (i : Int) = has l (i : Int) := by
  rw [Bool.eq_iff_iff, has_nat, has_nat]; simp

theorem blk_agg (s : St) (id : Int) : ∃ a0 a1 a2 a3 a4 a5 a6 a7 a8, blkV s id = .agg #[.int .i64 a0, .int .i64 a1, .int .i64 a2, .int .i64 a3, .int .i64 a4, .int .i64 a5, .int .i64 a6, .int .i64 a7, .int .i64 a8] := ⟨_, _, _, _, _, _, _, _, _, rfl⟩

theorem cell_set9 {w : World} {q b : Nat} (h : b ≠ q) (v0 v1 v2 v3 v4 v5 v6 v7 v8 : Value) (j : Nat) : (((((((((w.setCell ⟨q, 0, none⟩ v0).setCell ⟨q, 1, none⟩ v1).setCell ⟨q, 2, none⟩ v2).setCell ⟨q, 3, none⟩ v3).setCell ⟨q, 4, none⟩ v4).setCell ⟨q, 5, none⟩ v5).setCell ⟨q, 6, none⟩ v6).setCell ⟨q, 7, none⟩ v7).setCell ⟨q, 8, none⟩ v8).cell? ⟨b, j, none⟩ = w.cell? ⟨b, j, none⟩ := by
  have key : ∀ (W : World) (o : Nat) (v : Value), (W.setCell ⟨q, o, none⟩ v).cell? ⟨b, j, none⟩ = W.cell? ⟨b, j, none⟩ := fun W o v => World.cell?_of_block (Below.heap_setCell _ _ _ _ h)
  simp only [key]

/-- A block of nine noughts that lies ahead of a call. -/
structure Nine (w' : World) (q : Nat) : Prop where
  z0 : w'.cell? ⟨q, 0, none⟩ = some (.int .i64 0)
  z1 : w'.cell? ⟨q, 1, none⟩ = some (.int .i64 0)
  z2 : w'.cell? ⟨q, 2, none⟩ = some (.int .i64 0)
  z3 : w'.cell? ⟨q, 3, none⟩ = some (.int .i64 0)
  z4 : w'.cell? ⟨q, 4, none⟩ = some (.int .i64 0)
  z5 : w'.cell? ⟨q, 5, none⟩ = some (.int .i64 0)
  z6 : w'.cell? ⟨q, 6, none⟩ = some (.int .i64 0)
  z7 : w'.cell? ⟨q, 7, none⟩ = some (.int .i64 0)
  z8 : w'.cell? ⟨q, 8, none⟩ = some (.int .i64 0)
  f : ∀ j, w'.frozen? ⟨q, j, none⟩ = w'.frozen? ⟨q, 0, none⟩
  f0 : w'.frozen? ⟨q, 0, none⟩ = false
theorem nine_of {w' : World} {q : Nat} (h : w'.heap[q]? = some (.cells #[.int .i64 0, .int .i64 0, .int .i64 0, .int .i64 0, .int .i64 0, .int .i64 0, .int .i64 0, .int .i64 0, .int .i64 0] 82 (0, 0))) : Nine w' q :=
  ⟨cell_of_cells (j := 0) h rfl, cell_of_cells (j := 1) h rfl, cell_of_cells (j := 2) h rfl, cell_of_cells (j := 3) h rfl, cell_of_cells (j := 4) h rfl, cell_of_cells (j := 5) h rfl, cell_of_cells (j := 6) h rfl, cell_of_cells (j := 7) h rfl, cell_of_cells (j := 8) h rfl, fun j => (free_of_cells (j := j) h).trans (free_of_cells (j := 0) h).symm, free_of_cells (j := 0) h⟩

theorem below_set9 {W w : World} (_ : Nine w W.heap.size) (hb : Below W.heap.size W w) (v0 v1 v2 v3 v4 v5 v6 v7 v8 : Value) : Below W.heap.size W (((((((((w.setCell ⟨W.heap.size, 0, none⟩ v0).setCell ⟨W.heap.size, 1, none⟩ v1).setCell ⟨W.heap.size, 2, none⟩ v2).setCell ⟨W.heap.size, 3, none⟩ v3).setCell ⟨W.heap.size, 4, none⟩ v4).setCell ⟨W.heap.size, 5, none⟩ v5).setCell ⟨W.heap.size, 6, none⟩ v6).setCell ⟨W.heap.size, 7, none⟩ v7).setCell ⟨W.heap.size, 8, none⟩ v8) :=
  ((((((((hb.setCell (Nat.le_refl _) v0).setCell (Nat.le_refl _) v1).setCell (Nat.le_refl _) v2).setCell (Nat.le_refl _) v3).setCell (Nat.le_refl _) v4).setCell (Nat.le_refl _) v5).setCell (Nat.le_refl _) v6).setCell (Nat.le_refl _) v7).setCell (Nat.le_refl _) v8

end Go.Proofs.YtpaakikgfojplaaGreat

/-
  THE WALK of beaconref: Look.
-/
namespace Go.Proofs.YtpaakikgfojplaaGreat
open Go.RowKit Num Bk
set_option linter.unusedVariables false

theorem cell_set9d {w : World} {q b : Nat} (h : b ≠ q) (v0 v1 v2 v3 v4 v5 v6 v7 v8 : Value) (j : Nat) : (((((((((w.setCell ⟨q, 0, none⟩ v0).setCell ⟨q, 1, none⟩ v1).setCell ⟨q, 2, none⟩ v2).setCell ⟨q, 3, none⟩ v3).setCell ⟨q, 4, none⟩ v4).setCell ⟨q, 5, none⟩ v5).setCell ⟨q, 6, none⟩ v6).setCell ⟨q, 7, none⟩ v7).setCell ⟨q, 8, none⟩ v8).drew.cell? ⟨b, j, none⟩ = w.cell? ⟨b, j, none⟩ := by
  have e : ∀ (W : World) (a : Addr), W.drew.cell? a = W.cell? a := fun _ _ => rfl
  rw [e]
  exact cell_set9 h v0 v1 v2 v3 v4 v5 v6 v7 v8 j

theorem heap_set9 {w : World} {q : Nat} {u0 u1 u2 u3 u4 u5 u6 u7 u8 : Value} {t : TypeId} (h : w.heap[q]? = some (.cells #[u0, u1, u2, u3, u4, u5, u6, u7, u8] t (0, 0))) (v0 v1 v2 v3 v4 v5 v6 v7 v8 : Value) : (((((((((w.setCell ⟨q, 0, none⟩ v0).setCell ⟨q, 1, none⟩ v1).setCell ⟨q, 2, none⟩ v2).setCell ⟨q, 3, none⟩ v3).setCell ⟨q, 4, none⟩ v4).setCell ⟨q, 5, none⟩ v5).setCell ⟨q, 6, none⟩ v6).setCell ⟨q, 7, none⟩ v7).setCell ⟨q, 8, none⟩ v8).heap[q]? = some (.cells #[v0, v1, v2, v3, v4, v5, v6, v7, v8] t (0, 0)) := by
  have h0 : (w.setCell ⟨q, 0, none⟩ v0).heap[q]? = some (.cells #[v0, u1, u2, u3, u4, u5, u6, u7, u8] t (0, 0)) := by
    rw [heap_setCell_same _ q 0 _ t v0 h]; rfl
  have h1 : ((w.setCell ⟨q, 0, none⟩ v0).setCell ⟨q, 1, none⟩ v1).heap[q]? = some (.cells #[v0, v1, u2, u3, u4, u5, u6, u7, u8] t (0, 0)) := by
    rw [heap_setCell_same _ q 1 _ t v1 h0]; rfl
  have h2 : (((w.setCell ⟨q, 0, none⟩ v0).setCell ⟨q, 1, none⟩ v1).setCell ⟨q, 2, none⟩ v2).heap[q]? = some (.cells #[v0, v1, v2, u3, u4, u5, u6, u7, u8] t (0, 0)) := by
    rw [heap_setCell_same _ q 2 _ t v2 h1]; rfl
  have h3 : ((((w.setCell ⟨q, 0, none⟩ v0).setCell ⟨q, 1, none⟩ v1).setCell ⟨q, 2, none⟩ v2).setCell ⟨q, 3, none⟩ v3).heap[q]? = some (.cells #[v0, v1, v2, v3, u4, u5, u6, u7, u8] t (0, 0)) := by
    rw [heap_setCell_same _ q 3 _ t v3 h2]; rfl
  have h4 : (((((w.setCell ⟨q, 0, none⟩ v0).setCell ⟨q, 1, none⟩ v1).setCell ⟨q, 2, none⟩ v2).setCell ⟨q, 3, none⟩ v3).setCell ⟨q, 4, none⟩ v4).heap[q]? = some (.cells #[v0, v1, v2, v3, v4, u5, u6, u7, u8] t (0, 0)) := by
    rw [heap_setCell_same _ q 4 _ t v4 h3]; rfl
  have h5 : ((((((w.setCell ⟨q, 0, none⟩ v0).setCell ⟨q, 1, none⟩ v1).setCell ⟨q, 2, none⟩ v2).setCell ⟨q, 3, none⟩ v3).setCell ⟨q, 4, none⟩ v4).setCell ⟨q, 5, none⟩ v5).heap[q]? = some (.cells #[v0, v1, v2, v3, v4, v5, u6, u7, u8] t (0, 0)) := by
    rw [heap_setCell_same _ q 5 _ t v5 h4]; rfl
  have h6 : (((((((w.setCell ⟨q, 0, none⟩ v0).setCell ⟨q, 1, none⟩ v1).setCell ⟨q, 2, none⟩ v2).setCell ⟨q, 3, none⟩ v3).setCell ⟨q, 4, none⟩ v4).setCell ⟨q, 5, none⟩ v5).setCell ⟨q, 6, none⟩ v6).heap[q]? = some (.cells #[v0, v1, v2, v3, v4, v5, v6, u7, u8] t (0, 0)) := by
    rw [heap_setCell_same _ q 6 _ t v6 h5]; rfl
  have h7 : ((((((((w.setCell ⟨q, 0, none⟩ v0).setCell ⟨q, 1, none⟩ v1).setCell ⟨q, 2, none⟩ v2).setCell ⟨q, 3, none⟩ v3).setCell ⟨q, 4, none⟩ v4).setCell ⟨q, 5, none⟩ v5).setCell ⟨q, 6, none⟩ v6).setCell ⟨q, 7, none⟩ v7).heap[q]? = some (.cells #[v0, v1, v2, v3, v4, v5, v6, v7, u8] t (0, 0)) := by
    rw [heap_setCell_same _ q 7 _ t v7 h6]; rfl
  rw [heap_setCell_same _ q 8 _ t v8 h7]; rfl
theorem heap_set9d {w : World} {q : Nat} {u0 u1 u2 u3 u4 u5 u6 u7 u8 : Value} {t : TypeId} (h : w.heap[q]? = some (.cells #[u0, u1, u2, u3, u4, u5, u6, u7, u8] t (0, 0))) (v0 v1 v2 v3 v4 v5 v6 v7 v8 : Value) : (((((((((w.setCell ⟨q, 0, none⟩ v0).setCell ⟨q, 1, none⟩ v1).setCell ⟨q, 2, none⟩ v2).setCell ⟨q, 3, none⟩ v3).setCell ⟨q, 4, none⟩ v4).setCell ⟨q, 5, none⟩ v5).setCell ⟨q, 6, none⟩ v6).setCell ⟨q, 7, none⟩ v7).setCell ⟨q, 8, none⟩ v8).drew.heap[q]? = some (.cells #[v0, v1, v2, v3, v4, v5, v6, v7, v8] t (0, 0)) := by
  have e : ∀ W : World, W.drew.heap = W.heap := fun _ => rfl
  rw [e]
  exact heap_set9 h v0 v1 v2 v3 v4 v5 v6 v7 v8
theorem below_nine {B q : Nat} {a w : World} (hb : Below B a w) (hq : B ≤ q) (v0 v1 v2 v3 v4 v5 v6 v7 v8 : Value) : Below B a (((((((((w.setCell ⟨q, 0, none⟩ v0).setCell ⟨q, 1, none⟩ v1).setCell ⟨q, 2, none⟩ v2).setCell ⟨q, 3, none⟩ v3).setCell ⟨q, 4, none⟩ v4).setCell ⟨q, 5, none⟩ v5).setCell ⟨q, 6, none⟩ v6).setCell ⟨q, 7, none⟩ v7).setCell ⟨q, 8, none⟩ v8) :=
  (((((((((hb.setCell (p := ⟨q, 0, none⟩) hq v0).setCell (p := ⟨q, 1, none⟩) hq v1).setCell (p := ⟨q, 2, none⟩) hq v2).setCell (p := ⟨q, 3, none⟩) hq v3).setCell (p := ⟨q, 4, none⟩) hq v4).setCell (p := ⟨q, 5, none⟩) hq v5).setCell (p := ⟨q, 6, none⟩) hq v6).setCell (p := ⟨q, 7, none⟩) hq v7).setCell (p := ⟨q, 8, none⟩) hq v8)

set_option maxHeartbeats 3200000 in
set_option maxRecDepth 1000000 in
theorem rlook_any (x gs cs ga ca gk ck : Nat) (s : St) (id : Int) (w : World) (hr : RefAt w x gs cs ga ca gk ck s) (hv : Inv s) :
    Calls Tryz.prog 29 #[.pointer (some ⟨x, 0, none⟩), .int .i64 id] w fun e w' => e = .returned (.tuple #[blkV s id, .int .i64 (missing s id)]) ∧ Below w.heap.size w w' := by
  have hi := hv.wk
  have hsm := hi.small
  go_enter Tryz.func29, Tryz.ntmps29
  go_wp2_with fail
  generalize hA : w.alloc (.cells #[.int .i64 0, .int .i64 0, .int .i64 0, .int .i64 0, .int .i64 0, .int .i64 0, .int .i64 0, .int .i64 0, .int .i64 0] 82) = A at *
  obtain ⟨hsA, hbA, hAR⟩ := below_zero hA
  clear hA
  refine (missing_any x gs cs ga ca gk ck s id A (hr.keep hbA) hi).mono ?_
  rintro e w1 ⟨rfl, hb1⟩
  have hs1 := hb1.size
  have hR1 : w1.heap[w.heap.size]? = some (.cells (bkA zeroH 0 0) 82 (0, 0)) := (hb1.block w.heap.size (by omega)).trans hAR
  have hbw1 := hbA.trans (hb1.mono (by omega))
  clear hAR
  by_cases hm : missing s id = 0
  · obtain ⟨k, hk, rfl⟩ := missing_zero hm
    have hkl := inv_lt hv hk
    have HBV : Hid (blkV s (k : Int) = .agg (bkA (hd s.all k) ((pa s.all k : Nat) : Int) ((height s.all k : Nat) : Int))) := by
      show _ = _
      unfold blkV
      simp only [hm, if_true, Int.toNat_natCast]
      rfl
    have HM := Go.Proofs.YtpaakikgfojplaaGreat.hid hm
    rw [hm]
    have hrA := (hr.keep hbA).keep hb1
    clear hm hr hb1 hbA
    go_wp2_with fail
    refine (height_any x gs cs ga ca gk ck s k w1 hrA hi hkl).mono ?_
    rintro e w2 ⟨rfl, hb2⟩
    have hs2 := hb2.size
    have hr2 := hrA.keep hb2
    have hR2 := (hb2.block w.heap.size (by omega)).trans hR1
    have HB2 := Go.Proofs.YtpaakikgfojplaaGreat.hid (hbw1.trans (hb2.mono (by omega)))
    have c7 : w2.cell? ⟨x, 7, none⟩ = some (.slice (some ⟨ga, 0, none⟩) s.all.length ca) := cell_of_cells (j := 7) hr2.blk rfl
    have hc := hr2.hdr_at hkl
    have hp := hr2.par_at hkl
    have hh0 := hc.c0
    have hh1 := hc.c1
    have hh2 := hc.c2
    have hh3 := hc.c3
    have hh4 := hc.c4
    have hh5 := hc.c5
    have hh6 := hc.c6
    have hN2 : Nine w2 w.heap.size := nine_of hR2
    obtain ⟨z0, z1, z2, z3, z4, z5, z6, z7, z8, zf, zf0⟩ := hN2
    have y1 := (zf 1).trans zf0
    have y2 := (zf 2).trans zf0
    have y3 := (zf 3).trans zf0
    have y4 := (zf 4).trans zf0
    have y5 := (zf 5).trans zf0
    have y6 := (zf 6).trans zf0
    have y7 := (zf 7).trans zf0
    have y8 := (zf 8).trans zf0
    have hlt := hr2.lts
    have i1 : (0 : Int) ≤ (k : Int) := by omega
    have i2 : (k : Int) < ((s.all.length : Nat) : Int) := by omega
    have hxn : x ≠ w.heap.size := block_ne hr2.blk hR2 (by decide)
    have hgn : ga ≠ w.heap.size := by
      obtain ⟨c2, h2, _⟩ := row_block hr2.all
      exact block_ne h2 hR2 (by decide)
    have HR2 := Go.Proofs.YtpaakikgfojplaaGreat.hid hR2
    clear hrA hr2 hR2 hR1 hb2 hbw1 hc zf
    generalize hd s.all k = hh at *
    generalize pa s.all k = pk at *
    generalize height s.all k = hk' at *
    obtain ⟨a0, a1, a2, a3, a4, a5, a6⟩ := hh
    simp only at hh0 hh1 hh2 hh3 hh4 hh5 hh6
    generalize hwz : w.heap.size = q at *
    have D0 := Go.Proofs.YtpaakikgfojplaaGreat.hid c7
    have D1 := Go.Proofs.YtpaakikgfojplaaGreat.hid hh0
    have D2 := Go.Proofs.YtpaakikgfojplaaGreat.hid hh1
    have D3 := Go.Proofs.YtpaakikgfojplaaGreat.hid hh2
    have D4 := Go.Proofs.YtpaakikgfojplaaGreat.hid hh3
    have D5 := Go.Proofs.YtpaakikgfojplaaGreat.hid hh4
    have D6 := Go.Proofs.YtpaakikgfojplaaGreat.hid hh5
    have D7 := Go.Proofs.YtpaakikgfojplaaGreat.hid hh6
    have D8 := Go.Proofs.YtpaakikgfojplaaGreat.hid hp
    go_upto_region 5 with fail
    go_region_held3 (fun w' => w'.cell? ⟨x, 7, none⟩ = some (.slice (some ⟨ga, 0, none⟩) s.all.length ca) ∧ w'.cell? ⟨ga, k * 8, none⟩ = some (.int .i64 a0) ∧ w'.cell? ⟨ga, k * 8 + 1, none⟩ = some (.int .i64 a1) ∧ w'.cell? ⟨ga, k * 8 + 2, none⟩ = some (.int .i64 a2) ∧ w'.cell? ⟨ga, k * 8 + 3, none⟩ = some (.int .i64 a3) ∧ w'.cell? ⟨ga, k * 8 + 4, none⟩ = some (.int .i64 a4) ∧ w'.cell? ⟨ga, k * 8 + 5, none⟩ = some (.int .i64 a5) ∧ w'.cell? ⟨ga, k * 8 + 6, none⟩ = some (.int .i64 a6) ∧ w'.cell? ⟨ga, k * 8 + 7, none⟩ = some (.int .i64 (pk : Int))) (first | with_reducible exact ⟨(cell_set9d hxn _ _ _ _ _ _ _ _ _ _).trans D0.out, (cell_set9d hgn _ _ _ _ _ _ _ _ _ _).trans D1.out, (cell_set9d hgn _ _ _ _ _ _ _ _ _ _).trans D2.out, (cell_set9d hgn _ _ _ _ _ _ _ _ _ _).trans D3.out, (cell_set9d hgn _ _ _ _ _ _ _ _ _ _).trans D4.out, (cell_set9d hgn _ _ _ _ _ _ _ _ _ _).trans D5.out, (cell_set9d hgn _ _ _ _ _ _ _ _ _ _).trans D6.out, (cell_set9d hgn _ _ _ _ _ _ _ _ _ _).trans D7.out, (cell_set9d hgn _ _ _ _ _ _ _ _ _ _).trans D8.out⟩ | go_keep) (fail)
    all_goals
      go_wp2
      refine bodyPost_ret (results_ct rfl _ _ _ q 82 (bkA ⟨a0, a1, a2, a3, a4, a5, a6⟩ (pk : Int) (hk' : Int)) (0, 0) _ rfl (heap_set9d HR2.out _ _ _ _ _ _ _ _ _) rfl Tryz.underlying82 (info_blkA _ _ _)) rfl ⟨by rw [HBV.out, HM.out]; rfl, ?_⟩
      rw [hwz]
      exact (below_nine HB2.out (Nat.le_refl _) _ _ _ _ _ _ _ _ _).drew
  · have HBV : Hid (blkV s id = .agg (bkA zeroH 0 0)) := by
      show _ = _
      unfold blkV
      simp only [if_neg hm]
      rfl
    have hmb : (missing s id != 0) = true := by simp [hm]
    have HR1 := Go.Proofs.YtpaakikgfojplaaGreat.hid hR1
    have HB1 := Go.Proofs.YtpaakikgfojplaaGreat.hid hbw1
    generalize hMM : missing s id = MM at *
    clear hr hR1 hbw1 hb1 hbA
    go_wp2_with (refine wpList_store_row rfl 82 _ _ rfl w.heap.size (bkA zeroH 0 0) rfl rfl 82 (bkA zeroH 0 0) HR1.out (info_blkA _ _ _) rfl (bk_one _ _ _) ?_)
    refine bodyPost_ret (results_ct rfl _ _ _ w.heap.size 82 (bkA zeroH 0 0) (0, 0) _ rfl (setRow_heap _ _ _ _ _ _ HR1.out) rfl Tryz.underlying82 (info_blkA _ _ _)) rfl ⟨by rw [HBV.out, hMM]; rfl, Below.setRow HB1.out (Nat.le_refl _) _⟩

theorem rlook (w : World) (c : Nat) (G : Nat → Prop) (s : St) (id : Int) (h : RefR w c G s) (hv : Inv s) :
    Calls Tryz.prog 29 #[.pointer (some ⟨c, 0, none⟩), .int .i64 id] w fun e w' => e = .returned (.tuple #[blkV s id, .int .i64 (missing s id)]) ∧ Below w.heap.size w w' := by
  obtain ⟨gs, cs, ga, ca, gk, ck, hr, hE⟩ := h
  exact rlook_any c gs cs ga ca gk ck s id w hr hv
theorem rtip (w : World) (c : Nat) (G : Nat → Prop) (s : St) (h : RefR w c G s) (hv : Inv s) :
    Calls Tryz.prog 31 #[.pointer (some ⟨c, 0, none⟩)] w fun e w' => e = .returned (.int .i64 ((tip s : Nat) : Int)) ∧ Below w.heap.size w w' := by
  obtain ⟨gs, cs, ga, ca, gk, ck, hr, hE⟩ := h
  exact tip_any c gs cs ga ca gk ck s w hr hv.wk
theorem rfinal (w : World) (c : Nat) (G : Nat → Prop) (s : St) (h : RefR w c G s) (hv : Inv s) :
    Calls Tryz.prog 33 #[.pointer (some ⟨c, 0, none⟩)] w fun e w' => e = .returned (.int .i64 ((fin s : Nat) : Int)) ∧ Below w.heap.size w w' := by
  obtain ⟨gs, cs, ga, ca, gk, ck, hr, hE⟩ := h
  exact final_any c gs cs ga ca gk ck s w hr hv.wk
theorem rkept (w : World) (c : Nat) (G : Nat → Prop) (s : St) (h : RefR w c G s) (hv : Inv s) :
    Calls Tryz.prog 35 #[.pointer (some ⟨c, 0, none⟩)] w fun e w' => ListOut w w' e s.keep := by
  obtain ⟨gs, cs, ga, ca, gk, ck, hr, hE⟩ := h
  exact (kept_any c gs cs ga ca gk ck s w hr hv.wk).mono (fun _ _ ⟨g, h1, h2, h3⟩ => ⟨g, _, h1, h2, h3⟩)
theorem rpath (w : World) (c : Nat) (G : Nat → Prop) (s : St) (h : RefR w c G s) (hv : Inv s) :
    Calls Tryz.prog 39 #[.pointer (some ⟨c, 0, none⟩)] w fun e w' => ListOut w w' e (line s.all (tip s)) := by
  obtain ⟨gs, cs, ga, ca, gk, ck, hr, hE⟩ := h
  exact path_any c gs cs ga ca gk ck s w hr hv.wk

end Go.Proofs.YtpaakikgfojplaaGreat

