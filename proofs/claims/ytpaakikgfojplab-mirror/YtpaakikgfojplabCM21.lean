import Derived.Test.YtpaakikgfojplabCRt
/-
  MATHEMATICS for Mirror: each header that came is what Turn says, and none came twice; what goes with a header hangs on its line alone.
-/
namespace Go.Proofs.Ytpaakikgfojplab
open Go.RowKit Num Bk
set_option linter.unusedVariables false

namespace Bk

/-- Each header that came is what Turn says; none that is kept came twice. -/
structure Fair (s : St) : Prop where
  proof : ∀ i, 0 < i → i < s.all.length → (hd s.all i).proof = proofAt s (pa s.all i) (hd s.all i).slot (hd s.all i).pool
  leads : ∀ i, 0 < i → i < s.all.length → leadsAt s (pa s.all i) (hd s.all i).slot (hd s.all i).pool = true
  uniq : ∀ i j, i ∈ s.keep → j ∈ s.keep → 0 < i → 0 < j → pa s.all i = pa s.all j → hd s.all i = hd s.all j → i = j

theorem fair_start (p : Par) : Fair (start p) := by
  refine ⟨fun i h0 h => ?_, fun i h0 h => ?_, fun i j hi hj h0 _ _ _ => ?_⟩
  · exact absurd h (by show ¬ i < 1; omega)
  · exact absurd h (by show ¬ i < 1; omega)
  · have : i = 0 := by simpa [start] using hi
    omega

theorem taken_all (s : St) (p : Nat) (h : Hdr) : (taken s p h).all = s.all ++ [⟨h, p⟩] := rfl
theorem taken_par (s : St) (p : Nat) (h : Hdr) : (taken s p h).par = s.par := rfl
theorem nonce_taken {s : St} (hi : Inv s) {p : Nat} {h : Hdr} (hp : p < s.all.length) (slot : Int) {i : Nat} (hil : i < s.all.length) : nonceAt (taken s p h) i slot = nonceAt s i slot := by
  unfold nonceAt
  rw [taken_all, taken_par, lastAt_old hi.tree hi.len (x := ⟨h, p⟩) hp s.par _ hil, runAt_old hi.tree hi.len (x := ⟨h, p⟩) hp s.par (last_lt hi _ hil)]
theorem stake_taken {s : St} (hi : Inv s) {p : Nat} {h : Hdr} (hp : p < s.all.length) (slot pool : Int) {i : Nat} (hil : i < s.all.length) : stakeAt (taken s p h) i slot pool = stakeAt s i slot pool := by
  unfold stakeAt oldStakes
  rw [taken_all, taken_par, lastAt_old hi.tree hi.len (x := ⟨h, p⟩) hp s.par _ hil, stakesAt_old hi.tree hi.len (x := ⟨h, p⟩) hp s.par (last_lt hi _ hil)]
theorem proof_taken {s : St} (hi : Inv s) {p : Nat} {h : Hdr} (hp : p < s.all.length) (slot pool : Int) {i : Nat} (hil : i < s.all.length) : proofAt (taken s p h) i slot pool = proofAt s i slot pool := by
  unfold proofAt
  rw [nonce_taken hi hp slot hil]
theorem leads_taken {s : St} (hi : Inv s) {p : Nat} {h : Hdr} (hp : p < s.all.length) (slot pool : Int) {i : Nat} (hil : i < s.all.length) : leadsAt (taken s p h) i slot pool = leadsAt s i slot pool := by
  unfold leadsAt
  rw [proof_taken hi hp slot pool hil, stake_taken hi hp slot pool hil]
  rfl

theorem there_none {s : St} {parent : Int} {h : Hdr} (ht : there s parent h = 0) {k : Nat} (hk : k ∈ s.keep) (h0 : 0 < k) (hp : ((pa s.all k : Nat) : Int) = parent) (hh : hd s.all k = h) : False := by
  unfold there at ht
  cases hf : s.keep.find? (fun k => decide (0 < k) && ((pa s.all k : Int) == parent) && eqH (hd s.all k) h) with
  | none =>
    rw [List.find?_eq_none] at hf
    have := hf k hk
    have he : eqH (hd s.all k) h = true := (eqH_iff _ _).2 hh
    simp [h0, hp, he] at this
  | some j =>
    have hj := List.find?_some hf
    rw [hf] at ht
    simp at ht hj
    omega

theorem fair_taken {s : St} (hi : Inv s) (hf : Fair s) {p : Nat} {h : Hdr} (ha : Accept s p h) (ht : there s (p : Int) h = 0) : Fair (taken s p h) := by
  have hpl := inv_lt hi ha.keep
  have hall : (taken s p h).all = s.all ++ [⟨h, p⟩] := rfl
  have hlen : (taken s p h).all.length = s.all.length + 1 := by rw [hall]; simp
  have hsub : ∀ k ∈ (taken s p h).keep, k ∈ s.keep ∨ k = s.all.length := by
    intro k hk
    have : k ∈ s.keep ++ [s.all.length] := (List.mem_filter.1 hk).1
    rcases List.mem_append.1 this with h | h
    · exact Or.inl h
    · exact Or.inr (by simpa using h)
  refine ⟨fun i h0 hil => ?_, fun i h0 hil => ?_, fun i j hki hkj h0 h0' hpa hhd => ?_⟩
  · rw [hlen] at hil
    rcases Nat.lt_or_ge i s.all.length with h1 | h1
    · have h2 := hi.tree i h0
      rw [hall, hd_old h1, pa_old h1, proof_taken hi hpl _ _ (by omega)]
      exact hf.proof i h0 h1
    · have e : i = s.all.length := by omega
      subst e
      rw [hall, hd_new, pa_new, proof_taken hi hpl _ _ hpl]
      exact ha.proof
  · rw [hlen] at hil
    rcases Nat.lt_or_ge i s.all.length with h1 | h1
    · have h2 := hi.tree i h0
      rw [hall, hd_old h1, pa_old h1, leads_taken hi hpl _ _ (by omega)]
      exact hf.leads i h0 h1
    · have e : i = s.all.length := by omega
      subst e
      rw [hall, hd_new, pa_new, leads_taken hi hpl _ _ hpl]
      exact ha.lead
  · rcases hsub i hki with h1 | h1 <;> rcases hsub j hkj with h2 | h2
    · have e1 := inv_lt hi h1
      have e2 := inv_lt hi h2
      rw [hall, pa_old e1, pa_old e2] at hpa
      rw [hall, hd_old e1, hd_old e2] at hhd
      exact hf.uniq i j h1 h2 h0 h0' hpa hhd
    · subst h2
      have e1 := inv_lt hi h1
      rw [hall, pa_old e1, pa_new] at hpa
      rw [hall, hd_old e1, hd_new] at hhd
      exact (there_none ht h1 h0 (by rw [hpa]) hhd).elim
    · subst h1
      have e2 := inv_lt hi h2
      rw [hall, pa_old e2, pa_new] at hpa
      rw [hall, hd_old e2, hd_new] at hhd
      exact (there_none ht h2 h0' (by rw [← hpa]) hhd.symm).elim
    · omega

theorem fair_offer {s : St} (hi : Inv s) (hf : Fair s) (parent : Int) (h : Hdr) : Fair (offer s parent h) := by
  unfold offer
  split
  · rename_i he
    obtain ⟨h1, h2, h3⟩ := accept_of he
    exact fair_taken hi hf h1 (by rw [h2]; exact h3)
  · exact hf

/-! ### The same headers in another order -/

/-- A part of one state's headers, and where they are in another. -/
structure Iso (s d : St) (f : Nat → Nat) (D : Nat → Prop) : Prop where
  par : d.par = s.par
  zero : f 0 = 0
  in0 : D 0
  lt : ∀ i, D i → i < s.all.length
  up : ∀ i, D i → 0 < i → D (pa s.all i)
  pos : ∀ i, D i → 0 < i → 0 < f i ∧ f i < d.all.length
  hdr : ∀ i, D i → 0 < i → hd d.all (f i) = hd s.all i
  prt : ∀ i, D i → 0 < i → pa d.all (f i) = f (pa s.all i)

theorem Iso.line {s d : St} {f : Nat → Nat} {D : Nat → Prop} (hs : Tree s.all) (hd' : Tree d.all) (h : Iso s d f D) : ∀ i, D i → Bk.line d.all (f i) = (Bk.line s.all i).map f ∧ ∀ k ∈ Bk.line s.all i, D k := by
  intro i
  refine line_ind hs (fun i => D i → Bk.line d.all (f i) = (Bk.line s.all i).map f ∧ ∀ k ∈ Bk.line s.all i, D k) ?_ ?_ i
  · intro _
    rw [h.zero, line_zero, line_zero]
    refine ⟨by simp [h.zero], fun k hk => ?_⟩
    have : k = 0 := by simpa using hk
    subst this
    exact h.in0
  · intro i h0 ih hi
    obtain ⟨e1, e2⟩ := ih (h.up i hi h0)
    rw [line_step hd' (h.pos i hi h0).1, h.prt i hi h0, e1, line_step hs h0, List.map_append]
    refine ⟨rfl, fun k hk => ?_⟩
    rcases List.mem_append.1 hk with hk | hk
    · exact e2 k hk
    · have : k = i := by simpa using hk
      subst this
      exact hi

theorem Iso.height {s d : St} {f : Nat → Nat} {D : Nat → Prop} (hs : Tree s.all) (hd' : Tree d.all) (h : Iso s d f D) (i : Nat) (hi : D i) : Bk.height d.all (f i) = Bk.height s.all i := by
  unfold Bk.height
  rw [(h.line hs hd' i hi).1, List.length_map]

theorem tail_pos {all : List Itm} (ht : Tree all) : ∀ i, ∀ k ∈ (Bk.line all i).tail, 0 < k := by
  intro i
  refine line_ind ht (fun i => ∀ k ∈ (Bk.line all i).tail, 0 < k) ?_ ?_ i
  · rw [line_zero]
    intro k hk
    simp at hk
  · intro i h0 ih k hk
    rw [line_step ht h0] at hk
    cases hl : Bk.line all (pa all i) with
    | nil => rw [hl] at hk; simp at hk
    | cons a l =>
      rw [hl] at hk ih
      simp only [List.cons_append, List.tail_cons, List.mem_append, List.mem_singleton] at hk ih
      rcases hk with hk | hk
      · exact ih k hk
      · omega

/-- A fold along a line, carried over. -/
theorem Iso.fold {α : Type} {s d : St} {f : Nat → Nat} {D : Nat → Prop} (hs : Tree s.all) (hd' : Tree d.all) (h : Iso s d f D) (g : α → Nat → α) (g' : α → Nat → α) (hg : ∀ k, D k → 0 < k → ∀ a, g' a (f k) = g a k) (a : α) (i : Nat) (hi : D i) : (Bk.line d.all (f i)).tail.foldl g' a = (Bk.line s.all i).tail.foldl g a := by
  obtain ⟨e1, e2⟩ := h.line hs hd' i hi
  rw [e1, ← List.map_tail, List.foldl_map]
  have hpos : ∀ k ∈ (Bk.line s.all i).tail, 0 < k := by
    exact tail_pos hs i
  have hD : ∀ k ∈ (Bk.line s.all i).tail, D k := fun k hk => e2 k (List.mem_of_mem_tail hk)
  generalize (Bk.line s.all i).tail = l at *
  induction l generalizing a with
  | nil => rfl
  | cons k l ih =>
    rw [List.foldl_cons, List.foldl_cons, hg k (hD k (by simp)) (hpos k (by simp))]
    exact ih _ (fun j hj => hpos j (by simp [hj])) (fun j hj => hD j (by simp [hj]))

end Bk

end Go.Proofs.Ytpaakikgfojplab

/-
  MATHEMATICS for Mirror: what goes with a header, carried over to another state with the same line.
-/
namespace Go.Proofs.Ytpaakikgfojplab
open Go.RowKit Num Bk
set_option linter.unusedVariables false

namespace Bk

section
variable {s d : St} {f : Nat → Nat} {D : Nat → Prop}

theorem Iso.stakes (hs : Tree s.all) (hd' : Tree d.all) (h : Iso s d f D) (i : Nat) (hi : D i) : stakesAt d.par d.all (f i) = stakesAt s.par s.all i := by
  unfold stakesAt
  rw [h.par]
  exact h.fold hs hd' _ _ (fun k hk h0 a => by rw [h.hdr k hk h0]) _ i hi

theorem Iso.count (hs : Tree s.all) (hd' : Tree d.all) (h : Iso s d f D) (pool : Int) (i : Nat) (hi : D i) : countAt d.all pool (f i) = countAt s.all pool i := by
  unfold countAt
  exact h.fold hs hd' _ _ (fun k hk h0 a => by rw [h.hdr k hk h0]) _ i hi

theorem Iso.run (hs : Tree s.all) (hd' : Tree d.all) (h : Iso s d f D) (i : Nat) (hi : D i) : runAt d.par d.all (f i) = runAt s.par s.all i := by
  unfold runAt
  rw [h.par]
  exact h.fold hs hd' _ _ (fun k hk h0 a => by rw [h.hdr k hk h0]) _ i hi

theorem Iso.last (hs : Tree s.all) (hd' : Tree d.all) (h : Iso s d f D) (e : Int) : ∀ i, D i → lastAt d.par d.all e (f i) = f (lastAt s.par s.all e i) ∧ D (lastAt s.par s.all e i) := by
  intro i
  refine line_ind hs (fun i => D i → lastAt d.par d.all e (f i) = f (lastAt s.par s.all e i) ∧ D (lastAt s.par s.all e i)) ?_ ?_ i
  · intro _
    rw [h.zero, lastAt_zero, lastAt_zero, h.zero]
    exact ⟨rfl, h.in0⟩
  · intro i h0 ih hi
    obtain ⟨e1, e2⟩ := ih (h.up i hi h0)
    rw [lastAt_step d.par e hd' (h.pos i hi h0).1, lastAt_step s.par e hs h0, h.hdr i hi h0, h.par, h.prt i hi h0]
    rw [h.par] at e1
    split
    · exact ⟨rfl, hi⟩
    · exact ⟨e1, e2⟩

theorem Iso.nonce (hs : Tree s.all) (hd' : Tree d.all) (h : Iso s d f D) (slot : Int) (i : Nat) (hi : D i) : nonceAt d (f i) slot = nonceAt s i slot := by
  unfold nonceAt
  obtain ⟨e1, e2⟩ := h.last hs hd' (slot / d.par.epoch) i hi
  rw [e1, h.run hs hd' _ e2, h.par]

theorem Iso.stake (hs : Tree s.all) (hd' : Tree d.all) (h : Iso s d f D) (slot pool : Int) (i : Nat) (hi : D i) : stakeAt d (f i) slot pool = stakeAt s i slot pool := by
  unfold stakeAt oldStakes
  obtain ⟨e1, e2⟩ := h.last hs hd' (slot / d.par.epoch - 1) i hi
  rw [e1, h.stakes hs hd' _ e2, h.par]

theorem Iso.proof (hs : Tree s.all) (hd' : Tree d.all) (h : Iso s d f D) (slot pool : Int) (i : Nat) (hi : D i) : proofAt d (f i) slot pool = proofAt s i slot pool := by
  unfold proofAt
  rw [h.nonce hs hd' slot i hi]

theorem Iso.leads (hs : Tree s.all) (hd' : Tree d.all) (h : Iso s d f D) (slot pool : Int) (i : Nat) (hi : D i) : leadsAt d (f i) slot pool = leadsAt s i slot pool := by
  unfold leadsAt
  rw [h.proof hs hd' slot pool i hi, h.stake hs hd' slot pool i hi, h.par]

theorem Iso.slotOk (h : Iso s d f D) (i : Nat) (hi : D i) (slot : Int) : Bk.slotOk d (f i) slot = Bk.slotOk s i slot := by
  unfold Bk.slotOk
  rcases Nat.eq_zero_or_pos i with h0 | h0
  · subst h0
    rw [h.zero]
    simp
  · rw [h.hdr i hi h0]
    have := (h.pos i hi h0).1
    have e1 : decide (f i = 0) = false := by simp; omega
    have e2 : decide (i = 0) = false := by simp; omega
    rw [e1, e2]

/-- What acceptance takes, the other way. -/
theorem of_accept {s : St} {p : Nat} {h : Hdr} (ha : Accept s p h) (ht : there s (p : Int) h = 0) : offerErr s (p : Int) h = 0 := by
  have hm : missing s (p : Int) = 0 := by unfold missing; rw [if_pos ((has_nat _ _).2 ha.keep)]
  have hs : Bk.slotOk s p h.slot = true := by
    have h1 := ha.slot0
    have h2 := ha.slot1
    have h3 := ha.slot2
    simp [Bk.slotOk, h1, h2, h3]
  have hp : poolOk s h.pool = true := by have := ha.pool0; have := ha.pool1; simp [poolOk]; omega
  have hf : poolOk s h.frm = true := by have := ha.frm0; have := ha.frm1; simp [poolOk]; omega
  have hd' : poolOk s h.dst = true := by have := ha.dst0; have := ha.dst1; simp [poolOk]; omega
  have htn : turnErr s (p : Int) h.slot h.pool = 0 := by
    unfold turnErr
    rw [Int.toNat_natCast, hm, hs, hp]
    simp
  have hr : refused s (p : Int) h = 0 := by
    unfold refused
    rw [Int.toNat_natCast, htn, hf, hd']
    have h1 := ha.count
    have h2 := ha.amount0
    have h3 := ha.amount1
    have h4 := ha.proof
    have h5 := ha.lead
    rw [if_neg (by simp), if_neg (by omega), if_neg (by simp), if_neg (by omega), if_neg (by simpa using h4), if_neg (by simp [h5]), if_neg (by omega)]
  unfold offerErr
  have := ha.room
  rw [hr, if_neg (by simp), if_neg (by omega)]

/-- A header of one state, put behind its parent's like in another. -/
theorem Iso.accept (hs : Inv s) (hf : Fair s) (hd' : Inv d) (h : Iso s d f D) {i : Nat} (h0 : 0 < i) (hi : i < s.all.length) (hp : D (pa s.all i)) (hk : f (pa s.all i) ∈ d.keep) (hroom : (d.keep.length : Int) < d.par.room) : Accept d (f (pa s.all i)) (hd s.all i) := by
  have ho := hs.hdrs i h0 hi
  have hsl := h.slotOk (pa s.all i) hp (hd s.all i).slot
  have h1 := ho.slot0
  have h2 := ho.slot1
  have h3 := ho.slot2
  have hs1 : Bk.slotOk s (pa s.all i) (hd s.all i).slot = true := by simp [Bk.slotOk, h1, h2, h3]
  rw [hs1] at hsl
  simp [Bk.slotOk] at hsl
  refine ⟨hk, h1, h2, hsl.2, ho.pool0, by rw [h.par]; exact ho.pool1, ?_, ho.frm0, by rw [h.par]; exact ho.frm1, ho.dst0, by rw [h.par]; exact ho.dst1, ho.amount0, ?_, ?_, ?_, hroom⟩
  · rw [h.count hs.tree hd'.tree _ _ hp]; exact ho.count0
  · rw [h.stakes hs.tree hd'.tree _ hp]; exact ho.amount1
  · rw [h.proof hs.tree hd'.tree _ _ _ hp]; exact hf.proof i h0 hi
  · rw [h.leads hs.tree hd'.tree _ _ _ hp]; exact hf.leads i h0 hi

end

end Bk

end Go.Proofs.Ytpaakikgfojplab

