import Derived.Test.YtpaakikgfojplaaGreatCM13
/-
  The statements' book: a header that was made is refused as 'wanted' says and no other way; step.
-/
namespace Go.Proofs.YtpaakikgfojplaaGreat
open Go.RowKit Num Bk
set_option linter.unusedVariables false

theorem made_from {s : St} {id : Nat} {o : Stp} {h : Hdr} (hm : madeH s id o = some h) : ∃ k, k < 25 * s.par.stakes.length ∧ ¬ 10000 < slotK s id o k ∧ leadsAt s id (slotK s id o k) (poolK s o k) = true ∧ h = hdrK s id o k := by
  unfold madeH at hm
  cases hf : foundK s id o with
  | none => rw [hf] at hm; exact absurd hm (by simp)
  | some k =>
    rw [hf] at hm
    simp only at hm
    unfold foundK at hf
    have h1 := List.mem_of_find?_eq_some hf
    have h2 := List.find?_some hf
    rw [List.mem_range] at h1
    by_cases hb : 10000 < slotK s id o k
    · rw [if_pos hb] at hm; exact absurd hm (by simp)
    · rw [if_neg hb] at hm
      unfold endK at h2
      simp only [Bool.or_eq_true, decide_eq_true_eq] at h2
      rcases h2 with h2 | h2
      · exact absurd h2 hb
      · exact ⟨k, h1, hb, h2, by simpa using hm.symm⟩

structure MadeOk (s : St) (id : Nat) (h : Hdr) : Prop where
  turn : turnErr s (id : Int) h.slot h.pool = 0
  count : h.count = countAt s.all h.pool id ∨ h.count = countAt s.all h.pool id + 1
  frm : poolOk s h.frm = true
  dst : poolOk s h.dst = true
  am0 : 0 ≤ h.amount
  am1 : h.amount ≤ (stakesAt s.par s.all id).getD h.frm.toNat 0
  proof : h.proof = proofAt s id h.slot h.pool
  leads : leadsAt s id h.slot h.pool = true
  is : HdrI h

theorem made_ok {s : St} (hv : Inv s) {id : Nat} (hk : id ∈ s.keep) {o : Stp} {h : Hdr} (hm : madeH s id o = some h) : MadeOk s id h := by
  have hl := inv_lt hv hk
  obtain ⟨k, h1, h2, h3, rfl⟩ := made_from hm
  have hnp := np_bounds hv
  have hn : np s = (s.par.stakes.length : Int) := rfl
  have hsb := slotK_bounds hv hl o k (by omega)
  have hpb := poolK_bounds hv o k
  have hpd := pickI_bounds o.D 1048576 (by omega)
  have hf1 : 0 ≤ pickI o.D 1048576 / 2 % np s := Int.emod_nonneg _ (by omega)
  have hf2 : pickI o.D 1048576 / 2 % np s < np s := Int.emod_lt_of_pos _ (by omega)
  have ht1 : 0 ≤ pickI o.D 1048576 / 2 / np s % np s := Int.emod_nonneg _ (by omega)
  have ht2 : pickI o.D 1048576 / 2 / np s % np s < np s := Int.emod_lt_of_pos _ (by omega)
  have hsk := stake_bounds hv hl (pickI o.D 1048576 / 2 % np s).toNat
  have hst := (total_small hv.par).2
  have hst' : stakeOf s id (pickI o.D 1048576 / 2 % np s).toNat = (stakesAt s.par s.all id).getD (pickI o.D 1048576 / 2 % np s).toNat 0 := rfl
  have ha1 : 0 ≤ pickI o.D 1048576 / 2 / np s / np s % (stakeOf s id (pickI o.D 1048576 / 2 % np s).toNat + 1) := Int.emod_nonneg _ (by omega)
  have ha2 : pickI o.D 1048576 / 2 / np s / np s % (stakeOf s id (pickI o.D 1048576 / 2 % np s).toNat + 1) < stakeOf s id (pickI o.D 1048576 / 2 % np s).toNat + 1 := Int.emod_lt_of_pos _ (by omega)
  have hcb := count_bounds hv (poolK s o k) id hl
  have hhb := height_small hv hl
  have hdb := drawN_bounds (nonceAt s id (slotK s id o k)) (slotK s id o k) (poolK s o k)
  have hm2 : 0 ≤ pickI o.D 1048576 % 2 ∧ pickI o.D 1048576 % 2 ≤ 1 := by omega
  refine ⟨turn_zero hv hk hsb.1 (by show slotK s id o k ≤ 10000; omega) hpb.1 hpb.2, ?_, ?_, ?_, ha1, ?_, rfl, h3, ?_⟩
  · show countAt s.all (poolK s o k) id + pickI o.D 1048576 % 2 = countAt s.all (poolK s o k) id ∨ countAt s.all (poolK s o k) id + pickI o.D 1048576 % 2 = countAt s.all (poolK s o k) id + 1
    omega
  · show poolOk s (pickI o.D 1048576 / 2 % np s) = true
    simp only [poolOk, Bool.and_eq_true, decide_eq_true_eq]; omega
  · show poolOk s (pickI o.D 1048576 / 2 / np s % np s) = true
    simp only [poolOk, Bool.and_eq_true, decide_eq_true_eq]; omega
  · show pickI o.D 1048576 / 2 / np s / np s % (stakeOf s id (pickI o.D 1048576 / 2 % np s).toNat + 1) ≤ (stakesAt s.par s.all id).getD (pickI o.D 1048576 / 2 % np s).toNat 0
    omega
  · refine ⟨?_, ?_, ?_, ?_, ?_, ?_, ?_⟩
    · exact i64_of (by show _ ≤ slotK s id o k; omega) (by show slotK s id o k ≤ _; omega)
    · exact i64_of (by show _ ≤ poolK s o k; omega) (by show poolK s o k ≤ _; omega)
    · exact i64_of (by show _ ≤ drawN _ _ _; omega) (by show drawN _ _ _ ≤ _; omega)
    · exact i64_of (by show _ ≤ countAt s.all (poolK s o k) id + pickI o.D 1048576 % 2; omega) (by show countAt s.all (poolK s o k) id + pickI o.D 1048576 % 2 ≤ _; omega)
    · exact i64_of (by show _ ≤ pickI o.D 1048576 / 2 % np s; omega) (by show pickI o.D 1048576 / 2 % np s ≤ _; omega)
    · exact i64_of (by show _ ≤ pickI o.D 1048576 / 2 / np s % np s; omega) (by show pickI o.D 1048576 / 2 / np s % np s ≤ _; omega)
    · exact i64_of (by show _ ≤ pickI o.D 1048576 / 2 / np s / np s % (stakeOf s id (pickI o.D 1048576 / 2 % np s).toNat + 1); omega) (by show pickI o.D 1048576 / 2 / np s / np s % (stakeOf s id (pickI o.D 1048576 / 2 % np s).toNat + 1) ≤ _; omega)

theorem MadeOk.refused {s : St} {id : Nat} {h : Hdr} (m : MadeOk s id h) : refused s (id : Int) h = if 0 < there s (id : Int) h then 10 else 0 := by
  unfold Bk.refused
  rw [if_neg (by simp [m.turn]), Int.toNat_natCast, if_neg (by rintro ⟨a, b⟩; rcases m.count with e | e; exact a e; exact b e), if_neg (by simp [m.frm, m.dst]),
    if_neg (by have := m.am0; have := m.am1; omega), if_neg (by simp [m.proof]), if_neg (by simp [m.leads])]

theorem MadeOk.err {s : St} {id : Nat} {h : Hdr} (m : MadeOk s id h) : offerErr s (id : Int) h = wantErr s (id : Int) h := by
  unfold offerErr wantErr
  rw [m.refused]
  split <;> simp

theorem MadeOk.num {s : St} {id : Nat} {h : Hdr} (m : MadeOk s id h) : offerId s (id : Int) h = wantId s (id : Int) h := by
  unfold offerId wantId
  rw [m.err]

/-- The header of a step, its parent, and what is there behind it. -/
def stepP (s : St) (o : Stp) : Nat := s.keep.getD (pickI o.A s.keep.length).toNat 0
def stepS (s : St) (o : Stp) : St :=
  match madeH s (stepP s o) o with
  | none => s
  | some h => offer s (stepP s o) h

theorem stepP_mem {s : St} (hv : Inv s) (o : Stp) : stepP s o ∈ s.keep ∧ (pickI o.A s.keep.length).toNat < s.keep.length := by
  have h0 : 0 < s.keep.length := List.length_pos_of_mem hv.tipin
  have h1 := pickI_bounds o.A s.keep.length (by omega)
  have h2 : (pickI o.A s.keep.length).toNat < s.keep.length := by omega
  refine ⟨?_, h2⟩
  unfold stepP
  rw [List.getD_eq_getElem?_getD, List.getElem?_eq_getElem h2]
  exact List.getElem_mem _

theorem inv_step {s : St} (hv : Inv s) (o : Stp) : Inv (stepS s o) := by
  unfold stepS
  split
  · exact hv
  · exact inv_offer hv _ _

end Go.Proofs.YtpaakikgfojplaaGreat

/-
  THE WALK of the statements' book: step.
-/
namespace Go.Proofs.YtpaakikgfojplaaGreat
open Go.RowKit Num Bk
set_option linter.unusedVariables false

end Go.Proofs.YtpaakikgfojplaaGreat

/-
  Raw numbers: nth; the parameters that are made of them.
-/
namespace Go.Proofs.YtpaakikgfojplaaGreat
open Go.RowKit Num Bk
set_option linter.unusedVariables false

/-- A list of raw numbers that came in. -/
def RawAt (w : World) (a : Option Addr) (z : List Int) : Prop :=
  ∀ j, j < z.length → ∃ x, a = some x ∧ w.cell? (x.add j) = some (.int .i64 (z.getD j 0)) ∧ I64 (z.getD j 0)

theorem rawI {w : World} {a : Option Addr} {z : List Int} (h : RawAt w a z) (j : Nat) : I64 (z.getD j 0) := by
  by_cases hj : j < z.length
  · obtain ⟨_, _, _, hi⟩ := h j hj; exact hi
  · rw [List.getD_eq_getElem?_getD, List.getElem?_eq_none (by omega)]; exact ⟨by simp, by simp⟩

/-- The stakes that are drawn; the first is above 0. -/
def rawStakes (z : List Int) (n : Nat) : List Int := (List.range n).map fun i => pickI (z.getD (7 + i) 0) 41
def firstUp : List Int → List Int
  | [] => []
  | x :: l => (if x = 0 then 1 else x) :: l
def rawN (z : List Int) : Nat := (1 + pickI (z.getD 6 0) 6).toNat
def parOf (z : List Int) : Par :=
  { depth := 1 + pickI (z.getD 0 0) 8, epoch := 1 + pickI (z.getD 1 0) 50, room := 2 + pickI (z.getD 2 0) 39, a := 1 + pickI (z.getD 4 0) (2 + pickI (z.getD 3 0) 19 - 1), b := 2 + pickI (z.getD 3 0) 19,
    nonce := pickI (z.getD 5 0) 65521, stakes := firstUp (rawStakes z (rawN z)) }

theorem rawN_bounds (z : List Int) : 1 ≤ rawN z ∧ rawN z ≤ 6 := by
  have := pickI_bounds (z.getD 6 0) 6 (by omega)
  unfold rawN; omega
theorem rawStakes_length (z : List Int) (n : Nat) : (rawStakes z n).length = n := by simp [rawStakes]
theorem rawStakes_mem {z : List Int} {n : Nat} {x : Int} (h : x ∈ rawStakes z n) : 0 ≤ x ∧ x ≤ 40 := by
  unfold rawStakes at h
  obtain ⟨i, _, rfl⟩ := List.mem_map.1 h
  have := pickI_bounds (z.getD (7 + i) 0) 41 (by omega)
  omega
theorem firstUp_length (l : List Int) : (firstUp l).length = l.length := by cases l <;> rfl
theorem sum_nonneg : ∀ (l : List Int), (∀ x ∈ l, 0 ≤ x) → 0 ≤ l.sum := by
  intro l
  induction l with
  | nil => intro _; simp
  | cons x l ih => intro h; simp only [List.sum_cons]; have := h x (by simp); have := ih (fun y hy => h y (by simp [hy])); omega

theorem parOf_ok (z : List Int) : ParOk (parOf z) := by
  have h0 := pickI_bounds (z.getD 0 0) 8 (by omega)
  have h1 := pickI_bounds (z.getD 1 0) 50 (by omega)
  have h2 := pickI_bounds (z.getD 2 0) 39 (by omega)
  have h3 := pickI_bounds (z.getD 3 0) 19 (by omega)
  have h4 := pickI_bounds (z.getD 4 0) (2 + pickI (z.getD 3 0) 19 - 1) (by omega)
  have h5 := pickI_bounds (z.getD 5 0) 65521 (by omega)
  have hn := rawN_bounds z
  have hl : (parOf z).stakes.length = rawN z := by show (firstUp (rawStakes z (rawN z))).length = _; rw [firstUp_length, rawStakes_length]
  have hm : ∀ x ∈ rawStakes z (rawN z), 0 ≤ x ∧ x ≤ 40 := fun x h => rawStakes_mem h
  have hlen := rawStakes_length z (rawN z)
  refine ⟨?_, ?_, ?_, ?_, ?_, ?_, ?_, ?_, ?_, h5.1, h5.2, by omega, by omega, ?_, ?_⟩
  · show 1 ≤ 1 + _; omega
  · show 1 + _ ≤ _; omega
  · show 1 ≤ 1 + _; omega
  · show 1 + _ ≤ _; omega
  · show 2 ≤ 2 + _; omega
  · show 2 + _ ≤ _; omega
  · show 2 + _ ≤ _; omega
  · show 1 ≤ 1 + _; omega
  · show 1 + pickI (z.getD 4 0) (2 + pickI (z.getD 3 0) 19 - 1) < 2 + pickI (z.getD 3 0) 19; omega
  · show ∀ x ∈ firstUp (rawStakes z (rawN z)), 0 ≤ x ∧ x ≤ 40
    cases hc : rawStakes z (rawN z) with
    | nil => intro x hx; simp [firstUp] at hx
    | cons y l =>
      rw [hc] at hm
      intro x hx
      simp only [firstUp, List.mem_cons] at hx
      rcases hx with rfl | hx
      · have := hm y (by simp); split <;> omega
      · exact hm x (by simp [hx])
  · show 0 < (firstUp (rawStakes z (rawN z))).sum
    cases hc : rawStakes z (rawN z) with
    | nil => rw [hc] at hlen; simp at hlen; omega
    | cons y l =>
      rw [hc] at hm
      simp only [firstUp, List.sum_cons]
      have h1 := hm y (by simp)
      have h2 := sum_nonneg l (fun x hx => (hm x (by simp [hx])).1)
      split <;> omega

end Go.Proofs.YtpaakikgfojplaaGreat

/-
  THE WALK of the statements' params.
-/
namespace Go.Proofs.YtpaakikgfojplaaGreat
open Go.RowKit Num Bk
set_option linter.unusedVariables false

theorem RawAt.keep {w W : World} {a : Option Addr} {z : List Int} (h : RawAt w a z) (hb : Below w.heap.size w W) : RawAt W a z := by
  intro j hj
  obtain ⟨x, e, hc, hi⟩ := h j hj
  refine ⟨x, e, ?_, hi⟩
  have hlt : (x.add j).block < w.heap.size := by
    unfold World.cell? at hc
    cases hb : w.heap[(x.add j).block]? with
    | none => rw [hb] at hc; simp at hc
    | some o => exact (Array.getElem?_eq_some_iff.1 hb).1
  rw [hb.cell hlt]; exact hc

theorem par_fin {w W' : World} {g c k : Nat} {xs : List Value} (hb : Below w.heap.size w W') (hown : W'.ownsRow (w.heap.size + 2) 3 1 (.slice (some ⟨g, 0, none⟩) k c) k xs) (hne : g ≠ w.heap.size) (v0 v1 v2 v3 v4 v5 v6 : Value) :
    (((((((W'.setCell ⟨w.heap.size, 0, none⟩ v0).setCell ⟨w.heap.size, 1, none⟩ v1).setCell ⟨w.heap.size, 2, none⟩ v2).setCell ⟨w.heap.size, 3, none⟩ v3).setCell ⟨w.heap.size, 4, none⟩ v4).setCell ⟨w.heap.size, 5, none⟩ v5).setCell ⟨w.heap.size, 6, none⟩ v6).ownsRow w.heap.size 3 1 (.slice (some ⟨g, 0, none⟩) k c) k xs ∧ Below w.heap.size w (((((((W'.setCell ⟨w.heap.size, 0, none⟩ v0).setCell ⟨w.heap.size, 1, none⟩ v1).setCell ⟨w.heap.size, 2, none⟩ v2).setCell ⟨w.heap.size, 3, none⟩ v3).setCell ⟨w.heap.size, 4, none⟩ v4).setCell ⟨w.heap.size, 5, none⟩ v5).setCell ⟨w.heap.size, 6, none⟩ v6) :=
  ⟨row_weak (ownsRow_setCell_other (ownsRow_setCell_other (ownsRow_setCell_other (ownsRow_setCell_other (ownsRow_setCell_other (ownsRow_setCell_other (ownsRow_setCell_other hown (a := ⟨w.heap.size, 0, none⟩) (by simpa [Value.ownBlock] using hne) v0) (a := ⟨w.heap.size, 1, none⟩) (by simpa [Value.ownBlock] using hne) v1) (a := ⟨w.heap.size, 2, none⟩) (by simpa [Value.ownBlock] using hne) v2) (a := ⟨w.heap.size, 3, none⟩) (by simpa [Value.ownBlock] using hne) v3) (a := ⟨w.heap.size, 4, none⟩) (by simpa [Value.ownBlock] using hne) v4) (a := ⟨w.heap.size, 5, none⟩) (by simpa [Value.ownBlock] using hne) v5) (a := ⟨w.heap.size, 6, none⟩) (by simpa [Value.ownBlock] using hne) v6) (by omega), (((((((hb.setCell (p := ⟨w.heap.size, 0, none⟩) (by exact Nat.le_refl _) v0).setCell (p := ⟨w.heap.size, 1, none⟩) (by exact Nat.le_refl _) v1).setCell (p := ⟨w.heap.size, 2, none⟩) (by exact Nat.le_refl _) v2).setCell (p := ⟨w.heap.size, 3, none⟩) (by exact Nat.le_refl _) v3).setCell (p := ⟨w.heap.size, 4, none⟩) (by exact Nat.le_refl _) v4).setCell (p := ⟨w.heap.size, 5, none⟩) (by exact Nat.le_refl _) v5).setCell (p := ⟨w.heap.size, 6, none⟩) (by exact Nat.le_refl _) v6)⟩

theorem par_round {w wr w5 : World} {o : Obj} {v : Value} {k g5 cap5 : Nat} {os : List Int} {x : Int} {cz : Array Value} {c0 c1 c2 c3 c4 c5 : Value} (hzr : wr.heap[w.heap.size]? = some (.cells cz 24 (0, 0))) (hpr : wr.heap[w.heap.size + 1]? = some (.cells #[c0, c1, c2, c3, c4, c5, v] 24 (0, 0)))
    (hown : wr.ownsRow (w.heap.size + 2) 3 1 v k (icells os)) (hbr : Below w.heap.size w wr) (hsr : w.heap.size + 2 ≤ wr.heap.size) (hgrow5 : (wr.drew.alloc o).grownBy w5 v.ownBlock)
    (hown5 : w5.ownsRow (w.heap.size + 2) 3 1 (.slice (some ⟨g5, 0, none⟩) (k + 1) cap5) (k + 1) (icells os ++ [.int .i64 x])) :
    (w5.setCell ⟨w.heap.size + 1, 6, none⟩ (.slice (some ⟨g5, 0, none⟩) (k + 1) cap5)).heap[w.heap.size]? = some (.cells cz 24 (0, 0)) ∧
    (w5.setCell ⟨w.heap.size + 1, 6, none⟩ (.slice (some ⟨g5, 0, none⟩) (k + 1) cap5)).heap[w.heap.size + 1]? = some (.cells #[c0, c1, c2, c3, c4, c5, .slice (some ⟨g5, 0, none⟩) (k + 1) cap5] 24 (0, 0)) ∧
    (w5.setCell ⟨w.heap.size + 1, 6, none⟩ (.slice (some ⟨g5, 0, none⟩) (k + 1) cap5)).ownsRow (w.heap.size + 2) 3 1 (.slice (some ⟨g5, 0, none⟩) (k + 1) cap5) (k + 1) (icells (os ++ [x])) ∧
    Below w.heap.size w (w5.setCell ⟨w.heap.size + 1, 6, none⟩ (.slice (some ⟨g5, 0, none⟩) (k + 1) cap5)) ∧
    w.heap.size + 2 ≤ (w5.setCell ⟨w.heap.size + 1, 6, none⟩ (.slice (some ⟨g5, 0, none⟩) (k + 1) cap5)).heap.size := by
  have hrow := fun b (e : Value.ownBlock v = some b) => hown.lt b e
  have hF : Fr (fun b => v.ownBlock = some b) wr w5 := ((Fr.refl (fun b => v.ownBlock = some b) wr).drew.alloc o).grown hgrow5 (fun b e => Or.inl e)
  have hs5 := hF.size
  have hz5 := (hF.block w.heap.size (by omega) (fun e => by have := (hrow _ e).1; omega)).trans hzr
  have hp5 := (hF.block (w.heap.size + 1) (by omega) (fun e => by have := (hrow _ e).1; omega)).trans hpr
  have hg5 := (hown5.lt g5 (by simp [Value.ownBlock])).1
  refine ⟨(Below.heap_setCell _ _ _ _ (by simp)).trans hz5, ?_, ?_, ?_, by simp [World.setCell]; omega⟩
  · exact (heap_setCell_same w5 (w.heap.size + 1) 6 _ 24 _ hp5).trans rfl
  · have := ownsRow_setCell_other hown5 (a := ⟨w.heap.size + 1, 6, none⟩) (by simp [Value.ownBlock]; omega) (.slice (some ⟨g5, 0, none⟩) (k + 1) cap5)
    rw [show icells (os ++ [x]) = icells os ++ [.int .i64 x] by simp [icells]]
    exact this
  · exact ((hbr.drew.alloc (by exact Nat.le_trans (by omega) hsr) o).grown hgrow5 (by simp; omega) (fun b e => by have := (hrow b e).1; omega)).setCell (by show w.heap.size ≤ w.heap.size + 1; omega) _

theorem rawStakes_succ (z : List Int) (k : Nat) : rawStakes z (k + 1) = rawStakes z k ++ [pickI (z.getD (7 + k) 0) 41] := by
  unfold rawStakes
  rw [List.range_succ, List.map_append]; rfl

end Go.Proofs.YtpaakikgfojplaaGreat

/-
  THE WALKS of the statements' copied, lives.
-/
namespace Go.Proofs.YtpaakikgfojplaaGreat
open Go.RowKit Num Bk
set_option linter.unusedVariables false

def livesP : Par := { depth := 2, epoch := 5, room := 10, a := 19, b := 20, nonce := 0, stakes := [3, 1] }
def livesH : Hdr := { slot := 0, pool := 0, proof := 236, count := 0, frm := 0, dst := 1, amount := 2 }

theorem lives_ok : ParOk livesP := by
  refine ⟨by decide, by decide, by decide, by decide, by decide, by decide, by decide, by decide, by decide, by decide, by decide, by decide, by decide, ?_, by decide⟩
  intro x hx
  simp only [livesP, List.mem_cons, List.not_mem_nil, or_false] at hx
  rcases hx with rfl | rfl <;> omega

theorem lives_err : offerErr (Bk.start livesP) 0 livesH = 0 := by decide +kernel
theorem lives_id : offerId (Bk.start livesP) 0 livesH = 1 := by decide +kernel

theorem below_fr {a w w' : World} {F : Nat → Prop} (h : Below a.heap.size a w) (k : Fr F w w') (hF : ∀ i, F i → a.heap.size ≤ i) : Below a.heap.size a w' :=
  ⟨k.os.trans h.os, k.tape.trans h.tape, k.output.trans h.output, Nat.le_trans h.size k.size, fun i hi => (k.block i (Nat.lt_of_lt_of_le hi h.size) (fun f => by have := hF i f; omega)).trans (h.block i hi)⟩

end Go.Proofs.YtpaakikgfojplaaGreat

