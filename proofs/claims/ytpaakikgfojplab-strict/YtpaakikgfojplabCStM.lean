import Derived.Test.YtpaakikgfojplabCBookStep
/-
  MATHEMATICS: headers with one thing in them that may not be, and how they are refused.
-/
namespace Go.Proofs.Ytpaakikgfojplab
open Go.RowKit Num Bk
set_option linter.unusedVariables false

/-- A header with one thing in it that may not be. -/
def spoiltH (s : St) (id : Nat) (h : Hdr) (k : Int) : Hdr :=
  if k = 0 then { h with slot := beginsAt s id - 1 }
  else if k = 1 then { h with slot := 10001 }
  else if k = 2 then { h with pool := np s }
  else if k = 3 then { h with pool := -1 }
  else if k = 4 then { h with count := countAt s.all h.pool id + 2 }
  else if k = 5 then { h with count := countAt s.all h.pool id - 1 }
  else if k = 6 then { h with amount := stakeOf s id h.frm.toNat + 1 }
  else if k = 7 then { h with amount := -1 }
  else if k = 8 then { h with dst := np s }
  else if k = 9 then { h with frm := -1 }
  else if k = 10 then { h with proof := (h.proof + 1) % 1024 }
  else { h with proof := h.proof + 1024 }
def spoiltE (k : Int) : Int := if k ≤ 1 then 4 else if k ≤ 3 then 5 else if k ≤ 5 then 6 else if k ≤ 9 then 7 else 8

theorem offerErr_of {s : St} {parent : Int} {h : Hdr} {e : Int} (h1 : refused s parent h = e) (h2 : e ≠ 0) : offerErr s parent h = e := by
  unfold offerErr
  rw [h1, if_pos h2]

theorem offer_bad {s : St} {parent : Int} {h : Hdr} {e : Int} (h1 : offerErr s parent h = e) (h2 : e ≠ 0) : offer s parent h = s ∧ offerId s parent h = 0 := by
  unfold offer offerId
  rw [if_neg (by rw [h1]; exact h2), if_neg (by rw [h1]; exact h2)]
  exact ⟨rfl, rfl⟩

/-- What Turn says of a slot behind a kept header. -/
theorem turn_parts {s : St} {id : Nat} {slot pool : Int} (hk : id ∈ s.keep) (h : turnErr s (id : Int) slot pool = 0) : slotOk s id slot = true ∧ poolOk s pool = true := by
  unfold turnErr at h
  rw [if_neg (by simp [missing_keep hk]), Int.toNat_natCast] at h
  cases h1 : slotOk s id slot
  · rw [h1] at h; simp at h
  · rw [h1] at h
    simp at h
    cases h2 : poolOk s pool
    · rw [h2] at h; simp at h
    · exact ⟨rfl, rfl⟩

theorem refused_slot {s : St} {id : Nat} {h : Hdr} (hk : id ∈ s.keep) (h1 : slotOk s id h.slot = false) : refused s (id : Int) h = 4 := by
  have ht : turnErr s (id : Int) h.slot h.pool = 4 := by
    unfold turnErr
    rw [if_neg (by simp [missing_keep hk]), Int.toNat_natCast, if_pos h1]
  unfold refused
  rw [ht, if_pos (by decide)]

theorem refused_pool {s : St} {id : Nat} {h : Hdr} (hk : id ∈ s.keep) (h1 : slotOk s id h.slot = true) (h2 : poolOk s h.pool = false) : refused s (id : Int) h = 5 := by
  have ht : turnErr s (id : Int) h.slot h.pool = 5 := by
    unfold turnErr
    rw [if_neg (by simp [missing_keep hk]), Int.toNat_natCast, if_neg (by simp [h1]), if_pos h2]
  unfold refused
  rw [ht, if_pos (by decide)]

theorem refused_count {s : St} {id : Nat} {h : Hdr} (ht : turnErr s (id : Int) h.slot h.pool = 0) (h1 : h.count ≠ countAt s.all h.pool id) (h2 : h.count ≠ countAt s.all h.pool id + 1) : refused s (id : Int) h = 6 := by
  unfold refused
  rw [if_neg (by simp [ht]), Int.toNat_natCast, if_pos ⟨h1, h2⟩]

theorem refused_move {s : St} {id : Nat} {h : Hdr} (ht : turnErr s (id : Int) h.slot h.pool = 0) (hc : h.count = countAt s.all h.pool id ∨ h.count = countAt s.all h.pool id + 1)
    (hm : poolOk s h.frm = false ∨ poolOk s h.dst = false ∨ h.amount < 0 ∨ (stakesAt s.par s.all id).getD h.frm.toNat 0 < h.amount) : refused s (id : Int) h = 7 := by
  unfold refused
  rw [if_neg (by simp [ht]), Int.toNat_natCast, if_neg (by rintro ⟨a, b⟩; rcases hc with e | e; exact a e; exact b e)]
  by_cases h1 : poolOk s h.frm = false ∨ poolOk s h.dst = false
  · rw [if_pos h1]
  · rw [if_neg h1, if_pos]
    rcases hm with h | h | h | h
    · exact absurd (Or.inl h) h1
    · exact absurd (Or.inr h) h1
    · exact Or.inl h
    · exact Or.inr h

theorem refused_proof {s : St} {id : Nat} {h : Hdr} (ht : turnErr s (id : Int) h.slot h.pool = 0) (hc : h.count = countAt s.all h.pool id ∨ h.count = countAt s.all h.pool id + 1)
    (hf : poolOk s h.frm = true) (hd : poolOk s h.dst = true) (h0 : 0 ≤ h.amount) (h1 : h.amount ≤ (stakesAt s.par s.all id).getD h.frm.toNat 0) (hp : h.proof ≠ proofAt s id h.slot h.pool) : refused s (id : Int) h = 8 := by
  unfold refused
  rw [if_neg (by simp [ht]), Int.toNat_natCast, if_neg (by rintro ⟨a, b⟩; rcases hc with e | e; exact a e; exact b e), if_neg (by simp [hf, hd]), if_neg (by omega), if_pos hp]

theorem refused_leader {s : St} {id : Nat} {h : Hdr} (ht : turnErr s (id : Int) h.slot h.pool = 0) (hc : h.count = countAt s.all h.pool id ∨ h.count = countAt s.all h.pool id + 1)
    (hf : poolOk s h.frm = true) (hd : poolOk s h.dst = true) (h0 : 0 ≤ h.amount) (h1 : h.amount ≤ (stakesAt s.par s.all id).getD h.frm.toNat 0) (hp : h.proof = proofAt s id h.slot h.pool) (hl : leadsAt s id h.slot h.pool = false) : refused s (id : Int) h = 9 := by
  unfold refused
  rw [if_neg (by simp [ht]), Int.toNat_natCast, if_neg (by rintro ⟨a, b⟩; rcases hc with e | e; exact a e; exact b e), if_neg (by simp [hf, hd]), if_neg (by omega), if_neg (by simp [hp]), if_pos hl]

theorem spoilt_err {s : St} (hv : Inv s) {id : Nat} (hk : id ∈ s.keep) {h : Hdr} (m : MadeOk s id h) (k : Int) (h0 : 0 ≤ k) (h1 : k < 12) : offerErr s (id : Int) (spoiltH s id h k) = spoiltE k ∧ spoiltE k ≠ 0 ∧ HdrI (spoiltH s id h k) := by
  have hl := inv_lt hv hk
  have hb := begins_bounds hv hl
  have hn := np_bounds hv
  have hnp : np s = (s.par.stakes.length : Int) := rfl
  obtain ⟨hts, htp⟩ := turn_parts hk m.turn
  have hcb := count_bounds hv h.pool id hl
  have hhb := height_small hv hl
  have hsb := stake_bounds hv hl h.frm.toNat
  have htt := (total_small hv.par).2
  have hdb := drawN_bounds (nonceAt s id h.slot) h.slot h.pool
  have hpr : h.proof = drawN (nonceAt s id h.slot) h.slot h.pool := m.proof
  have hso : stakeOf s id h.frm.toNat = (stakesAt s.par s.all id).getD h.frm.toNat 0 := rfl
  have mi := m.is
  have key : refused s (id : Int) (spoiltH s id h k) = spoiltE k ∧ HdrI (spoiltH s id h k) := by
    unfold spoiltH
    by_cases e : k = 0
    · rw [if_pos e]; subst e
      refine ⟨refused_slot hk ?_, ⟨i64_of (by show _ ≤ beginsAt s id - 1; omega) (by show beginsAt s id - 1 ≤ _; omega), mi.a1, mi.a2, mi.a3, mi.a4, mi.a5, mi.a6⟩⟩
      show slotOk s id (beginsAt s id - 1) = false
      unfold slotOk beginsAt
      by_cases h0 : id = 0
      · rw [if_pos h0]; simp
      · rw [if_neg h0]; simp [h0]
    rw [if_neg e]
    by_cases e : k = 1
    · rw [if_pos e]; subst e
      refine ⟨refused_slot hk ?_, ⟨i64_of (by show _ ≤ (10001 : Int); omega) (by show (10001 : Int) ≤ _; omega), mi.a1, mi.a2, mi.a3, mi.a4, mi.a5, mi.a6⟩⟩
      show slotOk s id 10001 = false
      simp [slotOk]
    rw [if_neg e]
    by_cases e : k = 2
    · rw [if_pos e]; subst e
      refine ⟨refused_pool hk hts ?_, ⟨mi.a0, i64_of (by show _ ≤ np s; omega) (by show np s ≤ _; omega), mi.a2, mi.a3, mi.a4, mi.a5, mi.a6⟩⟩
      show poolOk s (np s) = false
      simp [poolOk, hnp]
    rw [if_neg e]
    by_cases e : k = 3
    · rw [if_pos e]; subst e
      refine ⟨refused_pool hk hts ?_, ⟨mi.a0, i64_of (by show _ ≤ (-1 : Int); omega) (by show (-1 : Int) ≤ _; omega), mi.a2, mi.a3, mi.a4, mi.a5, mi.a6⟩⟩
      show poolOk s (-1) = false
      simp [poolOk]
    rw [if_neg e]
    by_cases e : k = 4
    · rw [if_pos e]; subst e
      refine ⟨refused_count m.turn ?_ ?_, ⟨mi.a0, mi.a1, mi.a2, i64_of (by show _ ≤ countAt s.all h.pool id + 2; omega) (by show countAt s.all h.pool id + 2 ≤ _; omega), mi.a4, mi.a5, mi.a6⟩⟩
      · show countAt s.all h.pool id + 2 ≠ countAt s.all h.pool id; omega
      · show countAt s.all h.pool id + 2 ≠ countAt s.all h.pool id + 1; omega
    rw [if_neg e]
    by_cases e : k = 5
    · rw [if_pos e]; subst e
      refine ⟨refused_count m.turn ?_ ?_, ⟨mi.a0, mi.a1, mi.a2, i64_of (by show _ ≤ countAt s.all h.pool id - 1; omega) (by show countAt s.all h.pool id - 1 ≤ _; omega), mi.a4, mi.a5, mi.a6⟩⟩
      · show countAt s.all h.pool id - 1 ≠ countAt s.all h.pool id; omega
      · show countAt s.all h.pool id - 1 ≠ countAt s.all h.pool id + 1; omega
    rw [if_neg e]
    by_cases e : k = 6
    · rw [if_pos e]; subst e
      refine ⟨refused_move m.turn m.count (Or.inr (Or.inr (Or.inr ?_))), ⟨mi.a0, mi.a1, mi.a2, mi.a3, mi.a4, mi.a5, i64_of (by show _ ≤ stakeOf s id h.frm.toNat + 1; omega) (by show stakeOf s id h.frm.toNat + 1 ≤ _; omega)⟩⟩
      show (stakesAt s.par s.all id).getD h.frm.toNat 0 < stakeOf s id h.frm.toNat + 1
      omega
    rw [if_neg e]
    by_cases e : k = 7
    · rw [if_pos e]; subst e
      refine ⟨refused_move m.turn m.count (Or.inr (Or.inr (Or.inl ?_))), ⟨mi.a0, mi.a1, mi.a2, mi.a3, mi.a4, mi.a5, i64_of (by show _ ≤ (-1 : Int); omega) (by show (-1 : Int) ≤ _; omega)⟩⟩
      show (-1 : Int) < 0
      omega
    rw [if_neg e]
    by_cases e : k = 8
    · rw [if_pos e]; subst e
      refine ⟨refused_move m.turn m.count (Or.inr (Or.inl ?_)), ⟨mi.a0, mi.a1, mi.a2, mi.a3, mi.a4, i64_of (by show _ ≤ np s; omega) (by show np s ≤ _; omega), mi.a6⟩⟩
      show poolOk s (np s) = false
      simp [poolOk, hnp]
    rw [if_neg e]
    by_cases e : k = 9
    · rw [if_pos e]; subst e
      refine ⟨refused_move m.turn m.count (Or.inl ?_), ⟨mi.a0, mi.a1, mi.a2, mi.a3, i64_of (by show _ ≤ (-1 : Int); omega) (by show (-1 : Int) ≤ _; omega), mi.a5, mi.a6⟩⟩
      show poolOk s (-1) = false
      simp [poolOk]
    rw [if_neg e]
    by_cases e : k = 10
    · rw [if_pos e]; subst e
      refine ⟨refused_proof m.turn m.count m.frm m.dst m.am0 m.am1 ?_, ⟨mi.a0, mi.a1, i64_of (by show _ ≤ (h.proof + 1) % 1024; omega) (by show (h.proof + 1) % 1024 ≤ _; omega), mi.a3, mi.a4, mi.a5, mi.a6⟩⟩
      show (h.proof + 1) % 1024 ≠ drawN (nonceAt s id h.slot) h.slot h.pool
      omega
    rw [if_neg e]
    have e : k = 11 := by omega
    subst e
    refine ⟨refused_proof m.turn m.count m.frm m.dst m.am0 m.am1 ?_, ⟨mi.a0, mi.a1, i64_of (by show _ ≤ h.proof + 1024; omega) (by show h.proof + 1024 ≤ _; omega), mi.a3, mi.a4, mi.a5, mi.a6⟩⟩
    show h.proof + 1024 ≠ drawN (nonceAt s id h.slot) h.slot h.pool
    omega
  have hne : spoiltE k ≠ 0 := by
    unfold spoiltE
    repeat' split
    all_goals decide
  exact ⟨offerErr_of key.1 hne, hne, key.2⟩

/-- Behind a header that never was. -/
theorem never_err {s : St} (hv : Inv s) (h : Hdr) : missing s (s.all.length : Int) = 3 ∧ offerErr s (s.all.length : Int) h = 3 := by
  have hm : missing s (s.all.length : Int) = 3 := by
    unfold missing
    rw [if_neg, if_neg]
    · intro e
      rw [has_nat] at e
      have := line_le hv.tree _ _ e
      have := fin_lt hv
      omega
    · intro e
      rw [has_nat] at e
      have := inv_lt hv e
      omega
  have ht : turnErr s (s.all.length : Int) h.slot h.pool = 3 := by
    unfold turnErr
    rw [hm, if_pos (by decide)]
  refine ⟨hm, offerErr_of (e := 3) ?_ (by decide)⟩
  unfold refused
  rw [ht, if_pos (by decide)]
theorem minus_err {s : St} (hv : Inv s) : missing s (-1) = 3 := by
  unfold missing
  rw [if_neg, if_neg]
  · intro e
    rw [has_iff] at e
    obtain ⟨k, _, h⟩ := e
    omega
  · intro e
    rw [has_iff] at e
    obtain ⟨k, _, h⟩ := e
    omega

/-- A header of a pool that does not lead. -/
def plainH (s : St) (id : Nat) (pool : Nat) : Hdr := ⟨beginsAt s id, pool, proofAt s id (beginsAt s id) pool, countAt s.all (pool : Int) id, 0, 0, 0⟩
theorem plain_err {s : St} (hv : Inv s) {id : Nat} (hk : id ∈ s.keep) {pool : Nat} (hp : pool < s.par.stakes.length) (hb : beginsAt s id ≤ 10000) (hl : leadsAt s id (beginsAt s id) (pool : Int) = false) :
    turnErr s (id : Int) (beginsAt s id) (pool : Int) = 0 ∧ offerErr s (id : Int) (plainH s id pool) = 9 ∧ HdrI (plainH s id pool) := by
  have hil := inv_lt hv hk
  have hnp : np s = (s.par.stakes.length : Int) := rfl
  have hbb := begins_bounds hv hil
  have hcb := count_bounds hv (pool : Int) id hil
  have hhb := height_small hv hil
  have hsb := stake_bounds hv hil 0
  have hl2 := hv.par.l2
  have hdb := drawN_bounds (nonceAt s id (beginsAt s id)) (beginsAt s id) (pool : Int)
  have ht := turn_zero hv hk (Int.le_refl _) hb (by omega : (0 : Int) ≤ pool) (by omega)
  have h0 : poolOk s 0 = true := by simp [poolOk]; omega
  refine ⟨ht, offerErr_of (refused_leader ht (Or.inl rfl) h0 h0 (Int.le_refl _) hsb.1 rfl hl) (by decide), ⟨i64_of (by show _ ≤ beginsAt s id; omega) (by show beginsAt s id ≤ _; omega), i64_of (by show _ ≤ (pool : Int); omega) (by show (pool : Int) ≤ _; omega), i64_of (by show _ ≤ drawN _ _ _; exact Int.le_trans (by decide) hdb.1) (by show drawN _ _ _ ≤ _; omega), i64_of (by show _ ≤ countAt s.all (pool : Int) id; omega) (by show countAt s.all (pool : Int) id ≤ _; omega), i64_of (by show _ ≤ (0 : Int); omega) (by show (0 : Int) ≤ _; omega), i64_of (by show _ ≤ (0 : Int); omega) (by show (0 : Int) ≤ _; omega), i64_of (by show _ ≤ (0 : Int); omega) (by show (0 : Int) ≤ _; omega)⟩⟩

end Go.Proofs.Ytpaakikgfojplab

