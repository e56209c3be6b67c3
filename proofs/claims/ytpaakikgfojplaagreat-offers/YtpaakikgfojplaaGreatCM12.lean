import Derived.Test.YtpaakikgfojplaaGreatCM11
/-
  WHAT THE PROGRAM's CHAIN OWES, as hypotheses: a representation in memory with a footprint, and a contract for each call. (Each commit's own texts pay them.) Besides: the statements' 'pick', exactly.
-/
namespace Go.Proofs.YtpaakikgfojplaaGreat
open Go.RowKit Num Bk
set_option linter.unusedVariables false

def I64 (n : Int) : Prop := -9223372036854775808 ≤ n ∧ n ≤ 9223372036854775807
structure HdrI (h : Hdr) : Prop where
  a0 : I64 h.slot
  a1 : I64 h.pool
  a2 : I64 h.proof
  a3 : I64 h.count
  a4 : I64 h.frm
  a5 : I64 h.dst
  a6 : I64 h.amount

/-- What a call on a chain leaves. -/
def Left (Rep : World → Nat → (Nat → Prop) → St → Prop) (w w' : World) (x : Nat) (F : Nat → Prop) (s' : St) : Prop :=
  ∃ F', Rep w' x F' s' ∧ Fr F w w' ∧ ∀ k, F' k → F k ∨ w.heap.size ≤ k

/-- A list that came out: new memory. -/
def ListOut (w w' : World) (e : Ending) (l : List Nat) : Prop :=
  ∃ g cap, e = .returned (.slice (some ⟨g, 0, none⟩) l.length cap) ∧ w'.ownsRow w.heap.size 3 1 (.slice (some ⟨g, 0, none⟩) l.length cap) l.length (dcells l) ∧ Below w.heap.size w w'

/-- What Look tells. -/
def blkV (s : St) (id : Int) : Value :=
  let h := if missing s id = 0 then hd s.all id.toNat else zeroH
  .agg #[.int .i64 h.slot, .int .i64 h.pool, .int .i64 h.proof, .int .i64 h.count, .int .i64 h.frm, .int .i64 h.dst, .int .i64 h.amount, .int .i64 (if missing s id = 0 then ((pa s.all id.toNat : Nat) : Int) else 0), .int .i64 (if missing s id = 0 then ((height s.all id.toNat : Nat) : Int) else 0)]

structure PSpec (Rep : World → Nat → (Nat → Prop) → St → Prop) : Prop where
  fr : ∀ {w w' : World} {x : Nat} {F G : Nat → Prop} {s : St}, Rep w x F s → Fr G w w' → (∀ k, F k → ¬ G k) → Rep w' x F s
  lt : ∀ {w : World} {x : Nat} {F : Nat → Prop} {s : St}, Rep w x F s → ∀ k, F k → k < w.heap.size
  turn : ∀ (w : World) (x : Nat) (F : Nat → Prop) (s : St) (id slot pool : Int), Rep w x F s → Inv s → I64 id → I64 slot → I64 pool →
    Calls Tryz.prog 22 #[.pointer (some ⟨x, 0, none⟩), .int .i64 id, .int .i64 slot, .int .i64 pool] w fun e w' => e = .returned (.tuple #[turnV s id slot pool, .int .i64 (turnErr s id slot pool)]) ∧ Left Rep w w' x F s
  stake : ∀ (w : World) (x : Nat) (F : Nat → Prop) (s : St) (id pool : Int), Rep w x F s → Inv s → I64 id → I64 pool →
    Calls Tryz.prog 24 #[.pointer (some ⟨x, 0, none⟩), .int .i64 id, .int .i64 pool] w fun e w' => e = .returned (.tuple #[.int .i64 (stakeV s id pool), .int .i64 (askErr s id pool)]) ∧ Left Rep w w' x F s
  count : ∀ (w : World) (x : Nat) (F : Nat → Prop) (s : St) (id pool : Int), Rep w x F s → Inv s → I64 id → I64 pool →
    Calls Tryz.prog 26 #[.pointer (some ⟨x, 0, none⟩), .int .i64 id, .int .i64 pool] w fun e w' => e = .returned (.tuple #[.int .i64 (countV s id pool), .int .i64 (askErr s id pool)]) ∧ Left Rep w w' x F s
  offer : ∀ (w : World) (x : Nat) (F : Nat → Prop) (s : St) (parent : Int) (h : Hdr), Rep w x F s → Inv s → I64 parent → HdrI h →
    Calls Tryz.prog 20 #[.pointer (some ⟨x, 0, none⟩), .int .i64 parent, hdrV h] w fun e w' => e = .returned (.tuple #[.int .i64 (offerId s parent h), .int .i64 (offerErr s parent h)]) ∧ Left Rep w w' x F (offer s parent h)
  new_no : ∀ (w : World) (p : Par) (so : Option Addr) (c : Nat), StkAt w so p.stakes → parB p = false →
    Calls Tryz.prog 10 #[parV p so c] w fun e w' => e = .returned (.tuple #[.pointer none, .int .i64 1]) ∧ Below w.heap.size w w'
  new_yes : ∀ (w : World) (p : Par) (so : Option Addr) (c : Nat), StkAt w so p.stakes → parB p = true →
    Calls Tryz.prog 10 #[parV p so c] w fun e w' => ∃ x F, e = .returned (.tuple #[.pointer (some ⟨x, 0, none⟩), .int .i64 0]) ∧ Rep w' x F (Bk.start p) ∧ Below w.heap.size w w' ∧ ∀ k, F k → w.heap.size ≤ k
  tip : ∀ (w : World) (x : Nat) (F : Nat → Prop) (s : St), Rep w x F s → Inv s →
    Calls Tryz.prog 30 #[.pointer (some ⟨x, 0, none⟩)] w fun e w' => e = .returned (.int .i64 ((Bk.tip s : Nat) : Int)) ∧ Below w.heap.size w w'
  final : ∀ (w : World) (x : Nat) (F : Nat → Prop) (s : St), Rep w x F s → Inv s →
    Calls Tryz.prog 32 #[.pointer (some ⟨x, 0, none⟩)] w fun e w' => e = .returned (.int .i64 ((Bk.fin s : Nat) : Int)) ∧ Below w.heap.size w w'
  kept : ∀ (w : World) (x : Nat) (F : Nat → Prop) (s : St), Rep w x F s → Inv s →
    Calls Tryz.prog 34 #[.pointer (some ⟨x, 0, none⟩)] w fun e w' => ListOut w w' e s.keep
  path : ∀ (w : World) (x : Nat) (F : Nat → Prop) (s : St), Rep w x F s → Inv s →
    Calls Tryz.prog 38 #[.pointer (some ⟨x, 0, none⟩)] w fun e w' => ListOut w w' e (line s.all (Bk.tip s))
  look : ∀ (w : World) (x : Nat) (F : Nat → Prop) (s : St) (id : Int), Rep w x F s → Inv s → I64 id →
    Calls Tryz.prog 28 #[.pointer (some ⟨x, 0, none⟩), .int .i64 id] w fun e w' => e = .returned (.tuple #[blkV s id, .int .i64 (missing s id)]) ∧ Below w.heap.size w w'

theorem PSpec.keep {Rep : World → Nat → (Nat → Prop) → St → Prop} (P : PSpec Rep) {w w' : World} {x : Nat} {F : Nat → Prop} {s : St} (h : Rep w x F s) (hb : Below w.heap.size w w') : Rep w' x F s :=
  P.fr h (Fr.of_below hb (fun _ => False) (fun k h1 h2 => by omega)) (fun k _ h => h)

/-- pick, exactly. -/
def pickI (c n : Int) : Int := (if c < 0 then -(c + 1) else c) % n

theorem pickI_bounds (c n : Int) (hn : 1 ≤ n) : 0 ≤ pickI c n ∧ pickI c n < n := by
  unfold pickI
  exact ⟨Int.emod_nonneg _ (by omega), Int.emod_lt_of_pos _ (by omega)⟩

/-! ### What is made of a step -/
structure Stp where
  A : Int
  B : Int
  C : Int
  D : Int
def stpV (o : Stp) : Value := .agg #[.int .i64 o.A, .int .i64 o.B, .int .i64 o.C, .int .i64 o.D]

def beginsAt (s : St) (id : Nat) : Int := if id = 0 then 0 else (hd s.all id).slot + 1
def np (s : St) : Int := s.par.stakes.length
def slotK (s : St) (id : Nat) (o : Stp) (k : Nat) : Int := beginsAt s id + pickI o.B 7 + (k : Int) / np s
def poolK (s : St) (o : Stp) (k : Nat) : Int := (pickI o.C (np s) + k) % np s
/-- The header behind id that is made at try k. -/
def hdrK (s : St) (id : Nat) (o : Stp) (k : Nat) : Hdr :=
  let d := pickI o.D 1048576
  { slot := slotK s id o k, pool := poolK s o k, proof := proofAt s id (slotK s id o k) (poolK s o k), count := countAt s.all (poolK s o k) id + d % 2, frm := d / 2 % np s, dst := d / 2 / np s % np s,
    amount := d / 2 / np s / np s % (stakeOf s id (d / 2 % np s).toNat + 1) }
/-- Does the search end at try k? -/
def endK (s : St) (id : Nat) (o : Stp) (k : Nat) : Bool := decide (10000 < slotK s id o k) || leadsAt s id (slotK s id o k) (poolK s o k)
def foundK (s : St) (id : Nat) (o : Stp) : Option Nat := (List.range (25 * s.par.stakes.length)).find? (endK s id o)
/-- The header that is made, if one is. -/
def madeH (s : St) (id : Nat) (o : Stp) : Option Hdr :=
  match foundK s id o with
  | none => none
  | some k => if 10000 < slotK s id o k then none else some (hdrK s id o k)

end Go.Proofs.YtpaakikgfojplaaGreat

/-
  What calls on a chain leave, one behind another; facts on what is made of a step.
-/
namespace Go.Proofs.YtpaakikgfojplaaGreat
open Go.RowKit Num Bk
set_option linter.unusedVariables false

theorem Left.same {Rep : World → Nat → (Nat → Prop) → St → Prop} {w : World} {x : Nat} {F : Nat → Prop} {s : St} (h : Rep w x F s) : Left Rep w w x F s := ⟨F, h, Fr.refl _ _, fun k hk => Or.inl hk⟩

theorem Left.size {Rep : World → Nat → (Nat → Prop) → St → Prop} {w w' : World} {x : Nat} {F : Nat → Prop} {s : St} (h : Left Rep w w' x F s) : w.heap.size ≤ w'.heap.size := by
  obtain ⟨_, _, h2, _⟩ := h; exact h2.size

theorem Left.trans {Rep : World → Nat → (Nat → Prop) → St → Prop} {a b c : World} {x : Nat} {F : Nat → Prop} {s s' : St} (h : Left Rep a b x F s) (h2 : ∀ F', Rep b x F' s → Left Rep b c x F' s') : Left Rep a c x F s' := by
  obtain ⟨F1, r1, f1, n1⟩ := h
  obtain ⟨F2, r2, f2, n2⟩ := h2 F1 r1
  have hs := f1.size
  refine ⟨F2, r2, f1.trans' f2 (fun i hi h => ?_), fun k hk => ?_⟩
  · rcases n1 i h with h' | h'
    · exact h'
    · omega
  · rcases n2 k hk with h' | h'
    · exact n1 k h'
    · exact Or.inr (by omega)

theorem Left.below {Rep : World → Nat → (Nat → Prop) → St → Prop} (P : PSpec Rep) {a b c : World} {x : Nat} {F : Nat → Prop} {s : St} (h : Left Rep a b x F s) (hb : Below b.heap.size b c) : Left Rep a c x F s := by
  obtain ⟨F1, r1, f1, n1⟩ := h
  have hs := f1.size
  exact ⟨F1, P.keep r1 hb, f1.trans' (Fr.of_below hb (fun _ => False) (fun k h1 h2 => by omega)) (fun i _ h => h.elim), n1⟩

/-- A first step that writes nothing old. -/
theorem Left.from {Rep : World → Nat → (Nat → Prop) → St → Prop} {w a c : World} {x : Nat} {F : Nat → Prop} {s : St} (h : Left Rep a c x F s) (hb : Below w.heap.size w a) : Left Rep w c x F s := by
  obtain ⟨F1, r1, f1, n1⟩ := h
  have hs := hb.size
  exact ⟨F1, r1, (Fr.of_below hb F (fun k h1 h2 => by omega)).trans' f1 (fun i _ h => h), fun k hk => (n1 k hk).imp id (fun h => by omega)⟩

/-- Stores into new blocks that are none of the chain's. -/
theorem Left.store {Rep : World → Nat → (Nat → Prop) → St → Prop} (P : PSpec Rep) {w c : World} {x : Nat} {F : Nat → Prop} {s : St} (h : Left Rep w c x F s) {p : Addr} (hw : w.heap.size ≤ p.block) (hn : ∀ F', Rep c x F' s → (∀ k, F' k → F k ∨ w.heap.size ≤ k) → ¬ F' p.block) (u : Value) : Left Rep w (c.setCell p u) x F s := by
  obtain ⟨F1, r1, f1, n1⟩ := h
  have hb : Fr (fun k => k = p.block) c (c.setCell p u) := (Fr.refl (fun k => k = p.block) c).setCell (p := p) (Or.inl rfl) u
  exact ⟨F1, P.fr r1 hb (fun k hk e => hn F1 r1 n1 (by rw [← e]; exact hk)), f1.setCell (Or.inr hw) u, n1⟩

theorem Left.step {Rep : World → Nat → (Nat → Prop) → St → Prop} {a b c : World} {x : Nat} {F F1 : Nat → Prop} {s' : St} (f1 : Fr F a b) (n1 : ∀ k, F1 k → F k ∨ a.heap.size ≤ k) (h2 : Left Rep b c x F1 s') : Left Rep a c x F s' := by
  obtain ⟨F2, r2, f2, n2⟩ := h2
  have hs := f1.size
  refine ⟨F2, r2, f1.trans' f2 (fun i hi h => ?_), fun k hk => ?_⟩
  · rcases n1 i h with h' | h'
    · exact h'
    · omega
  · rcases n2 k hk with h' | h'
    · exact n1 k h'
    · exact Or.inr (by omega)

/-- A block of one's own, made ahead of the chain's calls, is written in the end. -/
theorem Left.put {Rep : World → Nat → (Nat → Prop) → St → Prop} (P : PSpec Rep) {w W c c' : World} {x : Nat} {F : Nat → Prop} {s : St} (h : Left Rep W c x F s) (hbW : Below w.heap.size w W) {q : Nat} (hq1 : w.heap.size ≤ q) (hq2 : q < W.heap.size) (hq3 : ¬ F q) (hc : Fr (fun k => k = q) c c') : Left Rep w c' x F s := by
  obtain ⟨F1, r1, f1, n1⟩ := h
  have hs := hbW.size
  refine ⟨F1, P.fr r1 hc (fun k hk e => ?_), ?_, fun k hk => (n1 k hk).imp id (fun h => by omega)⟩
  · subst e
    rcases n1 _ hk with h' | h'
    · exact hq3 h'
    · omega
  · exact ((Fr.of_below hbW F (fun k h1 h2 => by omega)).trans' f1 (fun i _ h => h)).trans' hc (fun i hi e => by omega)

/-- An old block that is none of the chain's. -/
theorem Left.block {Rep : World → Nat → (Nat → Prop) → St → Prop} {a b : World} {x : Nat} {F : Nat → Prop} {s : St} (h : Left Rep a b x F s) {k : Nat} (hk : k < a.heap.size) (hF : ¬ F k) : b.heap[k]? = a.heap[k]? := by
  obtain ⟨_, _, f1, _⟩ := h
  exact f1.block k hk hF

/-! ### What is made -/

theorem begins_bounds {s : St} (hv : Inv s) {id : Nat} (hl : id < s.all.length) : 0 ≤ beginsAt s id ∧ beginsAt s id ≤ 10001 := by
  unfold beginsAt
  have := slot_bounds hv hl
  split <;> omega

theorem np_bounds {s : St} (hv : Inv s) : 1 ≤ np s ∧ np s ≤ 6 := by
  have := hv.par.l1
  have := hv.par.l2
  unfold np; omega

theorem slotK_bounds {s : St} (hv : Inv s) {id : Nat} (hl : id < s.all.length) (o : Stp) (k : Nat) (hk : k ≤ 150) : beginsAt s id ≤ slotK s id o k ∧ 0 ≤ slotK s id o k ∧ slotK s id o k ≤ 10200 := by
  have h1 := begins_bounds hv hl
  have h2 := pickI_bounds o.B 7 (by omega)
  have h3 := np_bounds hv
  have h4 : 0 ≤ (k : Int) / np s := Int.ediv_nonneg (by omega) (by omega)
  have h5 : (k : Int) / np s ≤ k := Int.ediv_le_self _ (by omega)
  unfold slotK; omega

theorem poolK_bounds {s : St} (hv : Inv s) (o : Stp) (k : Nat) : 0 ≤ poolK s o k ∧ poolK s o k < np s := by
  have h3 := np_bounds hv
  unfold poolK
  exact ⟨Int.emod_nonneg _ (by omega), Int.emod_lt_of_pos _ (by omega)⟩

theorem missing_keep {s : St} {id : Nat} (h : id ∈ s.keep) : missing s (id : Int) = 0 := by
  unfold missing
  rw [if_pos ((has_nat _ _).2 h)]

/-- Turn answers at a slot that may be, behind a header that is kept. -/
theorem turn_zero {s : St} (hv : Inv s) {id : Nat} (hk : id ∈ s.keep) {slot pool : Int} (h1 : beginsAt s id ≤ slot) (h2 : slot ≤ 10000) (h3 : 0 ≤ pool) (h4 : pool < np s) : turnErr s (id : Int) slot pool = 0 := by
  have hl := inv_lt hv hk
  have hb := begins_bounds hv hl
  unfold turnErr
  rw [if_neg (by simp [missing_keep hk]), Int.toNat_natCast, if_neg, if_neg]
  · have : poolOk s pool = true := by
      unfold np at h4; simp [poolOk]; omega
    simp [this]
  · have h0 : 0 ≤ slot := by omega
    have : slotOk s id slot = true := by
      unfold beginsAt at h1
      simp only [slotOk, Bool.and_eq_true, Bool.or_eq_true, decide_eq_true_eq]
      refine ⟨⟨h0, h2⟩, ?_⟩
      split at h1
      · left; assumption
      · right; omega
    simp [this]

/-- Where the search has got to. -/
def Before (s : St) (id : Nat) (o : Stp) (k : Nat) : Prop := ∀ j, j < k → endK s id o j = false

theorem found_at {s : St} {id : Nat} {o : Stp} {k : Nat} (hk : k < 25 * s.par.stakes.length) (hb : Before s id o k) (h : endK s id o k = true) : foundK s id o = some k := by
  unfold foundK
  have e : List.range (25 * s.par.stakes.length) = List.range k ++ (k :: (List.range' (k + 1) (25 * s.par.stakes.length - k - 1))) := by
    rw [List.range_eq_range', show 25 * s.par.stakes.length = k + (1 + (25 * s.par.stakes.length - k - 1)) by omega, List.range'_append_1.symm, List.range_eq_range']
    simp [List.range'_append_1.symm, Nat.add_comm]
  rw [e, List.find?_append]
  have h1 : (List.range k).find? (endK s id o) = none := by
    rw [List.find?_eq_none]
    intro j hj
    rw [List.mem_range] at hj
    simp [hb j hj]
  rw [h1, List.find?_cons, h]
  rfl

theorem found_none {s : St} {id : Nat} {o : Stp} (hb : Before s id o (25 * s.par.stakes.length)) : foundK s id o = none := by
  unfold foundK
  rw [List.find?_eq_none]
  intro j hj
  rw [List.mem_range] at hj
  simp [hb j hj]

end Go.Proofs.YtpaakikgfojplaaGreat

