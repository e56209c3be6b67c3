import Derived.Test.YtpaakikgfojplabCMade
/-
  The statements' book: a header that was made is refused as 'wanted' says and no other way; step.
-/
namespace Go.Proofs.Ytpaakikgfojplab
open Go.RowKit Num Bk
set_option linter.unusedVariables false

theorem made_from {s : St} {id : Nat} {o : Stp} {h : Hdr} (hm : madeH s id o = some h) : ∃ k, k < 25 * s.par.stakes.length ∧ ¬ 10000 < slotK s id o k ∧ leadsAt s id (slotK s id o k) (poolK s o k) = true ∧ h = hdrK s id o k := by
  unfold madeH at hm
  cases hf : foundK s id o with
  | none => rw [hf] at hm; exact absurd hm (by simp)
  | some k =>
    rw [hf] at hm
    simp only at hm
    unfold foundK at hf
    have h1 := List.mem_of_find?_eq_some hf
    have h2 := List.find?_some hf
    rw [List.mem_range] at h1
    by_cases hb : 10000 < slotK s id o k
    · rw [if_pos hb] at hm; exact absurd hm (by simp)
    · rw [if_neg hb] at hm
      unfold endK at h2
      simp only [Bool.or_eq_true, decide_eq_true_eq] at h2
      rcases h2 with h2 | h2
      · exact absurd h2 hb
      · exact ⟨k, h1, hb, h2, by simpa using hm.symm⟩

structure MadeOk (s : St) (id : Nat) (h : Hdr) : Prop where
  turn : turnErr s (id : Int) h.slot h.pool = 0
  count : h.count = countAt s.all h.pool id ∨ h.count = countAt s.all h.pool id + 1
  frm : poolOk s h.frm = true
  dst : poolOk s h.dst = true
  am0 : 0 ≤ h.amount
  am1 : h.amount ≤ (stakesAt s.par s.all id).getD h.frm.toNat 0
  proof : h.proof = proofAt s id h.slot h.pool
  leads : leadsAt s id h.slot h.pool = true
  is : HdrI h

theorem made_ok {s : St} (hv : Inv s) {id : Nat} (hk : id ∈ s.keep) {o : Stp} {h : Hdr} (hm : madeH s id o = some h) : MadeOk s id h := by
  have hl := inv_lt hv hk
  obtain ⟨k, h1, h2, h3, rfl⟩ := made_from hm
  have hnp := np_bounds hv
  have hn : np s = (s.par.stakes.length : Int) := rfl
  have hsb := slotK_bounds hv hl o k (by omega)
  have hpb := poolK_bounds hv o k
  have hpd := pickI_bounds o.D 1048576 (by omega)
  have hf1 : 0 ≤ pickI o.D 1048576 / 2 % np s := Int.emod_nonneg _ (by omega)
  have hf2 : pickI o.D 1048576 / 2 % np s < np s := Int.emod_lt_of_pos _ (by omega)
  have ht1 : 0 ≤ pickI o.D 1048576 / 2 / np s % np s := Int.emod_nonneg _ (by omega)
  have ht2 : pickI o.D 1048576 / 2 / np s % np s < np s := Int.emod_lt_of_pos _ (by omega)
  have hsk := stake_bounds hv hl (pickI o.D 1048576 / 2 % np s).toNat
  have hst := (total_small hv.par).2
  have hst' : stakeOf s id (pickI o.D 1048576 / 2 % np s).toNat = (stakesAt s.par s.all id).getD (pickI o.D 1048576 / 2 % np s).toNat 0 := rfl
  have ha1 : 0 ≤ pickI o.D 1048576 / 2 / np s / np s % (stakeOf s id (pickI o.D 1048576 / 2 % np s).toNat + 1) := Int.emod_nonneg _ (by omega)
  have ha2 : pickI o.D 1048576 / 2 / np s / np s % (stakeOf s id (pickI o.D 1048576 / 2 % np s).toNat + 1) < stakeOf s id (pickI o.D 1048576 / 2 % np s).toNat + 1 := Int.emod_lt_of_pos _ (by omega)
  have hcb := count_bounds hv (poolK s o k) id hl
  have hhb := height_small hv hl
  have hdb := drawN_bounds (nonceAt s id (slotK s id o k)) (slotK s id o k) (poolK s o k)
  have hm2 : 0 ≤ pickI o.D 1048576 % 2 ∧ pickI o.D 1048576 % 2 ≤ 1 := by omega
  refine ⟨turn_zero hv hk hsb.1 (by show slotK s id o k ≤ 10000; omega) hpb.1 hpb.2, ?_, ?_, ?_, ha1, ?_, rfl, h3, ?_⟩
  · show countAt s.all (poolK s o k) id + pickI o.D 1048576 % 2 = countAt s.all (poolK s o k) id ∨ countAt s.all (poolK s o k) id + pickI o.D 1048576 % 2 = countAt s.all (poolK s o k) id + 1
    omega
  · show poolOk s (pickI o.D 1048576 / 2 % np s) = true
    simp only [poolOk, Bool.and_eq_true, decide_eq_true_eq]; omega
  · show poolOk s (pickI o.D 1048576 / 2 / np s % np s) = true
    simp only [poolOk, Bool.and_eq_true, decide_eq_true_eq]; omega
  · show pickI o.D 1048576 / 2 / np s / np s % (stakeOf s id (pickI o.D 1048576 / 2 % np s).toNat + 1) ≤ (stakesAt s.par s.all id).getD (pickI o.D 1048576 / 2 % np s).toNat 0
    omega
  · refine ⟨?_, ?_, ?_, ?_, ?_, ?_, ?_⟩
    · exact i64_of (by show _ ≤ slotK s id o k; omega) (by show slotK s id o k ≤ _; omega)
    · exact i64_of (by show _ ≤ poolK s o k; omega) (by show poolK s o k ≤ _; omega)
    · exact i64_of (by show _ ≤ drawN _ _ _; omega) (by show drawN _ _ _ ≤ _; omega)
    · exact i64_of (by show _ ≤ countAt s.all (poolK s o k) id + pickI o.D 1048576 % 2; omega) (by show countAt s.all (poolK s o k) id + pickI o.D 1048576 % 2 ≤ _; omega)
    · exact i64_of (by show _ ≤ pickI o.D 1048576 / 2 % np s; omega) (by show pickI o.D 1048576 / 2 % np s ≤ _; omega)
    · exact i64_of (by show _ ≤ pickI o.D 1048576 / 2 / np s % np s; omega) (by show pickI o.D 1048576 / 2 / np s % np s ≤ _; omega)
    · exact i64_of (by show _ ≤ pickI o.D 1048576 / 2 / np s / np s % (stakeOf s id (pickI o.D 1048576 / 2 % np s).toNat + 1); omega) (by show pickI o.D 1048576 / 2 / np s / np s % (stakeOf s id (pickI o.D 1048576 / 2 % np s).toNat + 1) ≤ _; omega)

theorem MadeOk.refused {s : St} {id : Nat} {h : Hdr} (m : MadeOk s id h) : refused s (id : Int) h = if 0 < there s (id : Int) h then 10 else 0 := by
  unfold Bk.refused
  rw [if_neg (by simp [m.turn]), Int.toNat_natCast, if_neg (by rintro ⟨a, b⟩; rcases m.count with e | e; exact a e; exact b e), if_neg (by simp [m.frm, m.dst]),
    if_neg (by have := m.am0; have := m.am1; omega), if_neg (by simp [m.proof]), if_neg (by simp [m.leads])]

theorem MadeOk.err {s : St} {id : Nat} {h : Hdr} (m : MadeOk s id h) : offerErr s (id : Int) h = wantErr s (id : Int) h := by
  unfold offerErr wantErr
  rw [m.refused]
  split <;> simp

theorem MadeOk.num {s : St} {id : Nat} {h : Hdr} (m : MadeOk s id h) : offerId s (id : Int) h = wantId s (id : Int) h := by
  unfold offerId wantId
  rw [m.err]

/-- The header of a step, its parent, and what is there behind it. -/
def stepP (s : St) (o : Stp) : Nat := s.keep.getD (pickI o.A s.keep.length).toNat 0
def stepS (s : St) (o : Stp) : St :=
  match madeH s (stepP s o) o with
  | none => s
  | some h => offer s (stepP s o) h

theorem stepP_mem {s : St} (hv : Inv s) (o : Stp) : stepP s o ∈ s.keep ∧ (pickI o.A s.keep.length).toNat < s.keep.length := by
  have h0 : 0 < s.keep.length := List.length_pos_of_mem hv.tipin
  have h1 := pickI_bounds o.A s.keep.length (by omega)
  have h2 : (pickI o.A s.keep.length).toNat < s.keep.length := by omega
  refine ⟨?_, h2⟩
  unfold stepP
  rw [List.getD_eq_getElem?_getD, List.getElem?_eq_getElem h2]
  exact List.getElem_mem _

theorem inv_step {s : St} (hv : Inv s) (o : Stp) : Inv (stepS s o) := by
  unfold stepS
  split
  · exact hv
  · exact inv_offer hv _ _

end Go.Proofs.Ytpaakikgfojplab

