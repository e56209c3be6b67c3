import Derived.Test.YtpaakikgfojplaaGreatCM12
import Derived.Test.YtpaakikgfojplaaGreatCM11
/-
  The statements by the document's answer: the document's chain under a footprint; a chain of the program's beside it.
-/
namespace Go.Proofs.YtpaakikgfojplaaGreat
open Go.RowKit Num Bk
set_option linter.unusedVariables false

/-- The document's chain. -/
def RefR (w : World) (c : Nat) (G : Nat → Prop) (s : St) : Prop := ∃ gs cs ga ca gk ck, RefAt w c gs cs ga ca gk ck s ∧ ∀ k, G k ↔ (k = c ∨ k = gs ∨ k = ga ∨ k = gk)

theorem RefR.lt {w : World} {c : Nat} {G : Nat → Prop} {s : St} (h : RefR w c G s) : ∀ k, G k → k < w.heap.size := by
  obtain ⟨gs, cs, ga, ca, gk, ck, hr, hG⟩ := h
  intro k hk
  have := hr.lts
  rcases (hG k).1 hk with e | e | e | e <;> omega
theorem RefR.fr {w w' : World} {c : Nat} {G H : Nat → Prop} {s : St} (h : RefR w c G s) (hb : Fr H w w') (hG : ∀ k, G k → ¬ H k) : RefR w' c G s := by
  obtain ⟨gs, cs, ga, ca, gk, ck, hr, hE⟩ := h
  exact ⟨gs, cs, ga, ca, gk, ck, hr.fr hb (hG _ ((hE _).2 (by simp))) (hG _ ((hE _).2 (by simp))) (hG _ ((hE _).2 (by simp))) (hG _ ((hE _).2 (by simp))), hE⟩
theorem RefR.keep {w w' : World} {c : Nat} {G : Nat → Prop} {s : St} (h : RefR w c G s) (hb : Below w.heap.size w w') : RefR w' c G s :=
  h.fr (Fr.of_below hb (fun _ => False) (fun k h1 h2 => by omega)) (fun k _ h => h)
theorem RefR.same {w w' : World} {c : Nat} {G : Nat → Prop} {s : St} (h : RefR w c G s) (hb : Below w.heap.size w w') : Left RefR w w' c G s :=
  ⟨G, h.keep hb, Fr.of_below hb _ (fun k h1 h2 => by omega), fun k h => Or.inl h⟩

theorem rturn (w : World) (c : Nat) (G : Nat → Prop) (s : St) (id slot pool : Int) (h : RefR w c G s) (hv : Inv s) :
    Calls Tryz.prog 23 #[.pointer (some ⟨c, 0, none⟩), .int .i64 id, .int .i64 slot, .int .i64 pool] w fun e w' => e = .returned (.tuple #[turnV s id slot pool, .int .i64 (turnErr s id slot pool)]) ∧ Left RefR w w' c G s := by
  have h0 := h
  obtain ⟨gs, cs, ga, ca, gk, ck, hr, hE⟩ := h
  exact (turn_any c gs cs ga ca gk ck s id slot pool w hr hv).mono (fun _ _ ⟨h1, h2⟩ => ⟨h1, h0.same h2⟩)
theorem rstake (w : World) (c : Nat) (G : Nat → Prop) (s : St) (id pool : Int) (h : RefR w c G s) (hv : Inv s) :
    Calls Tryz.prog 25 #[.pointer (some ⟨c, 0, none⟩), .int .i64 id, .int .i64 pool] w fun e w' => e = .returned (.tuple #[.int .i64 (stakeV s id pool), .int .i64 (askErr s id pool)]) ∧ Left RefR w w' c G s := by
  have h0 := h
  obtain ⟨gs, cs, ga, ca, gk, ck, hr, hE⟩ := h
  exact (stake_any c gs cs ga ca gk ck s id pool w hr hv).mono (fun _ _ ⟨h1, h2⟩ => ⟨h1, h0.same h2⟩)
theorem rcount (w : World) (c : Nat) (G : Nat → Prop) (s : St) (id pool : Int) (h : RefR w c G s) (hv : Inv s) :
    Calls Tryz.prog 27 #[.pointer (some ⟨c, 0, none⟩), .int .i64 id, .int .i64 pool] w fun e w' => e = .returned (.tuple #[.int .i64 (countV s id pool), .int .i64 (askErr s id pool)]) ∧ Left RefR w w' c G s := by
  have h0 := h
  obtain ⟨gs, cs, ga, ca, gk, ck, hr, hE⟩ := h
  exact (count_any c gs cs ga ca gk ck s id pool w hr hv).mono (fun _ _ ⟨h1, h2⟩ => ⟨h1, h0.same h2⟩)
theorem roffer (w : World) (c : Nat) (G : Nat → Prop) (s : St) (parent : Int) (h : Hdr) (hR : RefR w c G s) (hv : Inv s) :
    Calls Tryz.prog 21 #[.pointer (some ⟨c, 0, none⟩), .int .i64 parent, hdrV h] w fun e w' => e = .returned (.tuple #[.int .i64 (offerId s parent h), .int .i64 (offerErr s parent h)]) ∧ Left RefR w w' c G (offer s parent h) := by
  obtain ⟨gs, cs, ga, ca, gk, ck, hr, hE⟩ := hR
  refine (offer_any c gs cs ga ca gk ck s parent h w hr hv).mono ?_
  rintro e w' ⟨h1, ga', ca', gk', ck', h2, h3, h4, h5⟩
  refine ⟨h1, fun k => k = c ∨ k = gs ∨ k = ga' ∨ k = gk', ⟨gs, cs, ga', ca', gk', ck', h2, fun k => Iff.rfl⟩, h3.mono (fun k _ h => ?_), fun k hk => ?_⟩
  · refine (hE k).2 ?_
    rcases h with h | h | h
    · exact Or.inl h
    · exact Or.inr (Or.inr (Or.inl h))
    · exact Or.inr (Or.inr (Or.inr h))
  · rcases hk with e | e | e | e
    · exact Or.inl ((hE k).2 (Or.inl e))
    · exact Or.inl ((hE k).2 (Or.inr (Or.inl e)))
    · rcases h4 with q | q
      · exact Or.inl ((hE k).2 (Or.inr (Or.inr (Or.inl (e.trans q)))))
      · exact Or.inr (by omega)
    · rcases h5 with q | q
      · exact Or.inl ((hE k).2 (Or.inr (Or.inr (Or.inr (e.trans q)))))
      · exact Or.inr (by omega)

/-- A chain of the program's, and the document's, of one state. -/
structure Side (Rep : World → Nat → (Nat → Prop) → St → Prop) (w : World) (x c : Nat) (F G : Nat → Prop) (s : St) : Prop where
  p : Rep w x F s
  r : RefR w c G s
  inv : Inv s
  dis : ∀ k, F k → ¬ G k

def SLeft (Rep : World → Nat → (Nat → Prop) → St → Prop) (w w' : World) (x c : Nat) (F G : Nat → Prop) (s' : St) : Prop :=
  ∃ F' G', Side Rep w' x c F' G' s' ∧ Fr (fun k => F k ∨ G k) w w' ∧ (∀ k, F' k → F k ∨ w.heap.size ≤ k) ∧ (∀ k, G' k → G k ∨ w.heap.size ≤ k)

theorem Side.keep {Rep : World → Nat → (Nat → Prop) → St → Prop} (P : PSpec Rep) {w w' : World} {x c : Nat} {F G : Nat → Prop} {s : St} (h : Side Rep w x c F G s) (hb : Below w.heap.size w w') : Side Rep w' x c F G s :=
  ⟨P.keep h.p hb, h.r.keep hb, h.inv, h.dis⟩
theorem Side.fr {Rep : World → Nat → (Nat → Prop) → St → Prop} (P : PSpec Rep) {w w' : World} {x c : Nat} {F G H : Nat → Prop} {s : St} (h : Side Rep w x c F G s) (hb : Fr H w w') (h1 : ∀ k, F k → ¬ H k) (h2 : ∀ k, G k → ¬ H k) : Side Rep w' x c F G s :=
  ⟨P.fr h.p hb h1, h.r.fr hb h2, h.inv, h.dis⟩

/-- The program's call, then the document's. -/
theorem Side.both {Rep : World → Nat → (Nat → Prop) → St → Prop} (P : PSpec Rep) {w w1 w2 : World} {x c : Nat} {F F1 G G2 : Nat → Prop} {s s' : St} (h : Side Rep w x c F G s) (hi : Inv s') (r1 : Rep w1 x F1 s') (f1 : Fr F w w1) (n1 : ∀ k, F1 k → F k ∨ w.heap.size ≤ k) (r2 : RefR w2 c G2 s') (f2 : Fr G w1 w2) (n2 : ∀ k, G2 k → G k ∨ w1.heap.size ≤ k) : SLeft Rep w w2 x c F G s' := by
  have hl := h.r.lt
  have hl1 := P.lt r1
  have hs := f1.size
  have hd : ∀ k, F1 k → ¬ G k := fun k hk hg => by
    rcases n1 k hk with e | e
    · exact h.dis k e hg
    · have := hl k hg; omega
  refine ⟨F1, G2, ⟨P.fr r1 f2 hd, r2, hi, fun k hk hg => ?_⟩, (f1.mono (fun k _ h => Or.inl h)).trans' f2 (fun i _ h => Or.inr h), n1, fun k hk => (n2 k hk).imp id (fun h => by omega)⟩
  rcases n2 k hg with e | e
  · exact hd k hk e
  · have := hl1 k hk; omega

theorem Side.mid {Rep : World → Nat → (Nat → Prop) → St → Prop} {w w1 : World} {x c : Nat} {F G : Nat → Prop} {s : St} (h : Side Rep w x c F G s) (f1 : Fr F w w1) : RefR w1 c G s :=
  h.r.fr f1 (fun k hg hf => h.dis k hf hg)

theorem SLeft.from {Rep : World → Nat → (Nat → Prop) → St → Prop} {w W w' : World} {x c : Nat} {F G : Nat → Prop} {s' : St} (h : SLeft Rep W w' x c F G s') (hb : Below w.heap.size w W) : SLeft Rep w w' x c F G s' := by
  obtain ⟨F', G', h1, h2, h3, h4⟩ := h
  have hs := hb.size
  exact ⟨F', G', h1, (Fr.of_below hb _ (fun k h1 h2 => by omega)).trans' h2 (fun i _ h => h), fun k hk => (h3 k hk).imp id (fun h => by omega), fun k hk => (h4 k hk).imp id (fun h => by omega)⟩
theorem SLeft.below {Rep : World → Nat → (Nat → Prop) → St → Prop} (P : PSpec Rep) {w W w' : World} {x c : Nat} {F G : Nat → Prop} {s' : St} (h : SLeft Rep w W x c F G s') (hb : Below W.heap.size W w') : SLeft Rep w w' x c F G s' := by
  obtain ⟨F', G', h1, h2, h3, h4⟩ := h
  exact ⟨F', G', h1.keep P hb, h2.trans' (Fr.of_below hb (fun _ => False) (fun k h1 h2 => by omega)) (fun i _ h => h.elim), h3, h4⟩

/-! ### A step of a script -/
structure OpS where
  kind : Int
  other : Bool
  A : Int
  B : Int
  C : Int
  h : Hdr
  S : ByteArray
structure OpI (o : OpS) : Prop where
  k : I64 o.kind
  a : I64 o.A
  b : I64 o.B
  c : I64 o.C
  h : HdrI o.h
  s : o.S.size ≤ maxLen
def opA (o : OpS) : Array Value := #[.int .i64 o.kind, .bool o.other, .int .i64 o.A, .int .i64 o.B, .int .i64 o.C, .int .i64 o.h.slot, .int .i64 o.h.pool, .int .i64 o.h.proof, .int .i64 o.h.count, .int .i64 o.h.frm, .int .i64 o.h.dst, .int .i64 o.h.amount, .string o.S]
def opV (o : OpS) : Value := .agg (opA o)
def sideV (x c : Nat) : Value := .agg #[.pointer (some ⟨x, 0, none⟩), .pointer (some ⟨c, 0, none⟩)]
/-- What a step leaves of a chain. -/
def opSt (s : St) (o : OpS) : St := if o.kind = 1 then offer s o.A o.h else s

end Go.Proofs.YtpaakikgfojplaaGreat

/-
  THE WALK of the statements' book: made.
-/
namespace Go.Proofs.YtpaakikgfojplaaGreat
open Go.RowKit Num Bk
set_option linter.unusedVariables false

theorem quiet_eq {P : Program} {f : FuncId} {args : Array Value} {w : World} {n : Nat} {v : Value}
    (h : Calls P f args (w.drewN n) fun e w' => e = .returned v ∧ w.drewN n = w') : Calls P f args (w.drewN n) fun e w'' => e = .returned v ∧ ∃ m, w'' = w.drewN m :=
  h.mono fun _ _ ⟨he, hm⟩ => ⟨he, n, hm.symm⟩

def optV : Option Hdr → Value
  | none => hdrV zeroH
  | some h => hdrV h

structure StpI (o : Stp) : Prop where
  a : I64 o.A
  b : I64 o.B
  c : I64 o.C
  d : I64 o.D

structure NpIs (s : St) (n : Nat) : Prop where
  eq : np s = (n : Int)

theorem i64_of {n : Int} (h1 : -1000000 ≤ n) (h2 : n ≤ 1000000) : I64 n := ⟨by omega, by omega⟩

theorem below_two {w A : World} {cs cs' : Array Value} {t t' : TypeId} (hA : (w.alloc (.cells cs t)).alloc (.cells cs' t') = A) : A.heap.size = w.heap.size + 2 ∧ Below w.heap.size w A ∧ A.heap[w.heap.size]? = some (.cells cs t (0, 0)) ∧ A.heap[w.heap.size + 1]? = some (.cells cs' t' (0, 0)) := by
  subst hA
  refine ⟨by simp, ((Below.refl _ _).alloc (Nat.le_refl _) _).alloc (by simp) _, ?_, ?_⟩
  · rw [Below.heap_alloc _ _ _ (by simp)]; exact heap_alloc_new w _
  · have := heap_alloc_new (w.alloc (.cells cs t)) (.cells cs' t')
    simpa using this

theorem below_set3 {w4 : World} {h : Nat} {a0 a1 a2 x y z : Value} {t : TypeId} {A5 : World} (hh : w4.heap[h]? = some (.cells #[a0, a1, a2, .int .i64 0, .int .i64 0, .int .i64 0, .int .i64 0] t (0, 0)))
    (hA : ((w4.setCell ⟨h, 3, none⟩ x).setCell ⟨h, 4, none⟩ y).setCell ⟨h, 5, none⟩ z = A5) : A5.heap[h]? = some (.cells #[a0, a1, a2, x, y, z, .int .i64 0] t (0, 0)) ∧ Fr (fun k => k = h) w4 A5 ∧ A5.heap.size = w4.heap.size := by
  subst hA
  refine ⟨?_, (((Fr.refl (fun k => k = h) w4).setCell (p := ⟨h, 3, none⟩) (Or.inl rfl) x).setCell (p := ⟨h, 4, none⟩) (Or.inl rfl) y).setCell (p := ⟨h, 5, none⟩) (Or.inl rfl) z, by simp [World.setCell]⟩
  have e1 := heap_setCell_same w4 h 3 _ t x hh
  have e2 := heap_setCell_same _ h 4 _ t y e1
  have e3 := heap_setCell_same _ h 5 _ t z e2
  rw [e3]; rfl

theorem Fr.also {G : Nat → Prop} {a b c : World} (h : Fr G a b) (hb : Below b.heap.size b c) : Fr G a c :=
  h.trans' (Fr.of_below hb (fun _ => False) (fun k h1 h2 => by omega)) (fun i _ h => h.elim)

/-- Stores into a block that was not there in the first world. -/
theorem Fr.new {G : Nat → Prop} {a b c : World} {k : Nat} (h : Fr G a b) (hk : a.heap.size ≤ k) (hc : Fr (fun i => i = k) b c) : Fr G a c :=
  h.trans' hc (fun i hi e => by omega)

end Go.Proofs.YtpaakikgfojplaaGreat

/-
  THE WALK of the statements' goes.
-/
namespace Go.Proofs.YtpaakikgfojplaaGreat
open Go.RowKit Num Bk
set_option linter.unusedVariables false

/-- The two boxes of a call: the side, the step. -/
structure Boxes (w W : World) (x c : Nat) (o : OpS) : Prop where
  side : W.heap[w.heap.size]? = some (.cells #[.pointer (some ⟨x, 0, none⟩), .pointer (some ⟨c, 0, none⟩)] 31 (0, 0))
  op : W.heap[w.heap.size + 1]? = some (.cells (opA o) 42 (0, 0))

theorem Boxes.fr {w W W' : World} {x c : Nat} {o : OpS} {F : Nat → Prop} (h : Boxes w W x c o) (hb : Fr F W W') (hF : ∀ k, F k → k < w.heap.size) : Boxes w W' x c o := by
  have h1 := lt_of_block h.side
  have h2 := lt_of_block h.op
  exact ⟨(hb.block _ h1 (fun e => by have := hF _ e; omega)).trans h.side, (hb.block _ h2 (fun e => by have := hF _ e; omega)).trans h.op⟩
theorem Boxes.keep {w W W' : World} {x c : Nat} {o : OpS} (h : Boxes w W x c o) (hb : Below W.heap.size W W') : Boxes w W' x c o := by
  have h1 := lt_of_block h.side
  have h2 := lt_of_block h.op
  exact ⟨(hb.block _ h1).trans h.side, (hb.block _ h2).trans h.op⟩

theorem run_eql_turn (w : World) (a b c : Int) (d : Bool) :
    (binOp .eql 77 (.agg #[.int .i64 a, .int .i64 b, .int .i64 c, .bool d]) (.agg #[.int .i64 a, .int .i64 b, .int .i64 c, .bool d])).run Tryz.prog w = .ok (.bool true) w := by
  go_simp
attribute [local go_sem] run_eql_turn

theorem turn_agg2 (s : St) (id slot pool : Int) : ∃ a b c d, turnV s id slot pool = .agg #[.int .i64 a, .int .i64 b, .int .i64 c, .bool d] := by
  unfold turnV
  split
  · exact ⟨_, _, _, _, rfl⟩
  · exact ⟨_, _, _, _, rfl⟩

set_option maxHeartbeats 12800000 in
set_option maxRecDepth 1000000 in
theorem goes_any {Rep : World → Nat → (Nat → Prop) → St → Prop} (P : PSpec Rep) (x c : Nat) (F G : Nat → Prop) (s : St) (o : OpS) (w : World) (hS : Side Rep w x c F G s) (ho : OpI o) :
    Calls Tryz.prog 12 #[sideV x c, opV o] w fun e w' => e = .returned (.bool true) ∧ SLeft Rep w w' x c F G (opSt s o) := by
  unfold sideV opV
  rw [show opA o = #[.int .i64 o.kind, .bool o.other, .int .i64 o.A, .int .i64 o.B, .int .i64 o.C, .int .i64 o.h.slot, .int .i64 o.h.pool, .int .i64 o.h.proof, .int .i64 o.h.count, .int .i64 o.h.frm, .int .i64 o.h.dst, .int .i64 o.h.amount, .string o.S] from rfl]
  have hFl := P.lt hS.p
  have hGl := hS.r.lt
  have hv := hS.inv
  have HO := Go.Proofs.YtpaakikgfojplaaGreat.hid ho
  go_enter Tryz.func12, Tryz.ntmps12
  go_upto_region 1 with fail
  generalize hA : (w.alloc (.cells #[.pointer (some ⟨x, 0, none⟩), .pointer (some ⟨c, 0, none⟩)] 31)).alloc (.cells #[.int .i64 o.kind, .bool o.other, .int .i64 o.A, .int .i64 o.B, .int .i64 o.C, .int .i64 o.h.slot, .int .i64 o.h.pool, .int .i64 o.h.proof, .int .i64 o.h.count, .int .i64 o.h.frm, .int .i64 o.h.dst, .int .i64 o.h.amount, .string o.S] 42) = A at *
  obtain ⟨hsA, hbA, hA1, hA2⟩ := below_two hA
  have hX : Boxes w A x c o := ⟨hA1, hA2⟩
  have hSA := hS.keep P hbA
  have HSA := Go.Proofs.YtpaakikgfojplaaGreat.hid hSA
  have HBA := Go.Proofs.YtpaakikgfojplaaGreat.hid hbA
  clear hA hA1 hA2 hsA hS hbA hSA ho
  have p0 := cell_of_cells (j := 0) hX.side rfl
  have k0 : A.cell? ⟨w.heap.size + 1, 0, none⟩ = some (.int .i64 o.kind) := cell_of_cells (j := 0) hX.op rfl
  have k2 : A.cell? ⟨w.heap.size + 1, 2, none⟩ = some (.int .i64 o.A) := cell_of_cells (j := 2) hX.op rfl
  have k3 : A.cell? ⟨w.heap.size + 1, 3, none⟩ = some (.int .i64 o.B) := cell_of_cells (j := 3) hX.op rfl
  have k4 : A.cell? ⟨w.heap.size + 1, 4, none⟩ = some (.int .i64 o.C) := cell_of_cells (j := 4) hX.op rfl
  have k5 : A.cell? ⟨w.heap.size + 1, 5, none⟩ = some (.int .i64 o.h.slot) := cell_of_cells (j := 5) hX.op rfl
  have k6 : A.cell? ⟨w.heap.size + 1, 6, none⟩ = some (.int .i64 o.h.pool) := cell_of_cells (j := 6) hX.op rfl
  have k7 : A.cell? ⟨w.heap.size + 1, 7, none⟩ = some (.int .i64 o.h.proof) := cell_of_cells (j := 7) hX.op rfl
  have k8 : A.cell? ⟨w.heap.size + 1, 8, none⟩ = some (.int .i64 o.h.count) := cell_of_cells (j := 8) hX.op rfl
  have k9 : A.cell? ⟨w.heap.size + 1, 9, none⟩ = some (.int .i64 o.h.frm) := cell_of_cells (j := 9) hX.op rfl
  have k10 : A.cell? ⟨w.heap.size + 1, 10, none⟩ = some (.int .i64 o.h.dst) := cell_of_cells (j := 10) hX.op rfl
  have k11 : A.cell? ⟨w.heap.size + 1, 11, none⟩ = some (.int .i64 o.h.amount) := cell_of_cells (j := 11) hX.op rfl
  by_cases e1 : o.kind = 1
  · have b1 : (o.kind == 1) = true := by simp [e1]
    have HST := Go.Proofs.YtpaakikgfojplaaGreat.hid (show opSt s o = offer s o.A o.h by unfold opSt; rw [if_pos e1])
    clear e1
    go_wp2_with fail
    refine (P.offer A x F s o.A o.h HSA.out.p hv HO.out.a HO.out.h).mono ?_
    rintro e w1 ⟨rfl, F1, r1, f1, n1⟩
    have hX1 := hX.fr f1 hFl
    have hR1 := HSA.out.mid f1
    have HI := Go.Proofs.YtpaakikgfojplaaGreat.hid (inv_offer hv o.A o.h)
    clear p0 k0 k2 k3 k4 k5 k6 k7 k8 k9 k10 k11 hX
    have hX := hX1
    have p1 := cell_of_cells (j := 1) hX.side rfl
    have k2 : w1.cell? ⟨w.heap.size + 1, 2, none⟩ = some (.int .i64 o.A) := cell_of_cells (j := 2) hX.op rfl
    have k5 : w1.cell? ⟨w.heap.size + 1, 5, none⟩ = some (.int .i64 o.h.slot) := cell_of_cells (j := 5) hX.op rfl
    have k6 : w1.cell? ⟨w.heap.size + 1, 6, none⟩ = some (.int .i64 o.h.pool) := cell_of_cells (j := 6) hX.op rfl
    have k7 : w1.cell? ⟨w.heap.size + 1, 7, none⟩ = some (.int .i64 o.h.proof) := cell_of_cells (j := 7) hX.op rfl
    have k8 : w1.cell? ⟨w.heap.size + 1, 8, none⟩ = some (.int .i64 o.h.count) := cell_of_cells (j := 8) hX.op rfl
    have k9 : w1.cell? ⟨w.heap.size + 1, 9, none⟩ = some (.int .i64 o.h.frm) := cell_of_cells (j := 9) hX.op rfl
    have k10 : w1.cell? ⟨w.heap.size + 1, 10, none⟩ = some (.int .i64 o.h.dst) := cell_of_cells (j := 10) hX.op rfl
    have k11 : w1.cell? ⟨w.heap.size + 1, 11, none⟩ = some (.int .i64 o.h.amount) := cell_of_cells (j := 11) hX.op rfl
    go_wp2_with fail
    refine (roffer w1 c G s o.A o.h hR1 hv).mono ?_
    rintro e w2 ⟨rfl, G2, r2, f2, n2⟩
    have HF := Go.Proofs.YtpaakikgfojplaaGreat.hid ((HSA.out.both P HI.out r1 f1 n1 r2 f2 n2).from HBA.out)
    generalize offerId s o.A o.h = oi at *
    generalize offerErr s o.A o.h = oe at *
    clear r1 f1 n1 r2 f2 n2 hR1 HSA
    go_wp2
    go_ret
    exact ⟨by simp, by rw [HST.out]; exact HF.out⟩
  · have b1 : (o.kind == 1) = false := by simp [e1]
    have HST := Go.Proofs.YtpaakikgfojplaaGreat.hid (show opSt s o = s by unfold opSt; rw [if_neg e1])
    clear e1
    by_cases e2 : o.kind = 2
    · have b2 : (o.kind == 2) = true := by simp [e2]
      clear e2 b1
      have b1 : (o.kind == 1) = false := by
        have : o.kind = 2 := by simpa using b2
        simp [this]
      obtain ⟨ta, tb, tc, td, htv⟩ := turn_agg2 s o.A o.B o.C
      go_wp2_with fail
      refine (P.turn A x F s o.A o.B o.C HSA.out.p hv HO.out.a HO.out.b HO.out.c).mono ?_
      rintro e w1 ⟨rfl, F1, r1, f1, n1⟩
      rw [htv]
      have hX1 := hX.fr f1 hFl
      have hR1 := HSA.out.mid f1
      have hl1 := P.lt r1
      clear p0 k0 k2 k3 k4 k5 k6 k7 k8 k9 k10 k11 hX
      have HX1 := Go.Proofs.YtpaakikgfojplaaGreat.hid hX1
      go_upto_region 8 with fail
      generalize hT : w1.alloc (.cells #[.int .i64 ta, .int .i64 tb, .int .i64 tc, .bool td] 77) = T at *
      obtain ⟨hsT, hbT, hTo⟩ := below_zero hT
      clear hT
      have hX := hX1.keep hbT
      have hRT := hR1.keep hbT
      have p1 := cell_of_cells (j := 1) hX.side rfl
      have k2 : T.cell? ⟨w.heap.size + 1, 2, none⟩ = some (.int .i64 o.A) := cell_of_cells (j := 2) hX.op rfl
      have k3 : T.cell? ⟨w.heap.size + 1, 3, none⟩ = some (.int .i64 o.B) := cell_of_cells (j := 3) hX.op rfl
      have k4 : T.cell? ⟨w.heap.size + 1, 4, none⟩ = some (.int .i64 o.C) := cell_of_cells (j := 4) hX.op rfl
      go_wp2_with fail
      refine (rturn T c G s o.A o.B o.C hRT hv).mono ?_
      rintro e w2 ⟨rfl, G2, r2, f2, n2⟩
      rw [htv]
      have hgT : ¬ G w1.heap.size := fun h => by have := hGl _ h; have := f1.size; have := HBA.out.size; omega
      have hT2 := (f2.block w1.heap.size (by omega) hgT).trans hTo
      have hlt2 : w1.heap.size < w2.heap.size := lt_of_block hT2
      have n2' : ∀ k, G2 k → G k ∨ w1.heap.size ≤ k := fun k hk => (n2 k hk).imp id (fun h => by omega)
      have f2' : Fr G w1 w2 := (Fr.of_below hbT _ (fun k h1 h2 => by omega)).trans' f2 (fun i _ h => h)
      have HF := Go.Proofs.YtpaakikgfojplaaGreat.hid ((HSA.out.both P hv r1 f1 n1 r2 f2' n2').from HBA.out)
      have HB2 := Go.Proofs.YtpaakikgfojplaaGreat.hid (fun cs => HF.out.below P ((Below.refl w2.heap.size w2).alloc (Nat.le_refl _) cs))
      have v0 := cell_of_cells (j := 0) hT2 rfl
      have v1 := cell_of_cells (j := 1) hT2 rfl
      have v2 := cell_of_cells (j := 2) hT2 rfl
      have v3 := cell_of_cells (j := 3) hT2 rfl
      generalize turnErr s o.A o.B o.C = oe at *
      clear r1 f1 n1 r2 f2 n2 hR1 HSA hX p1 k2 k3 k4 hT2 hTo f2' n2' hRT HX1 hX1 htv
      go_wp2
      go_ret
      exact ⟨by simp, by rw [HST.out]; exact HB2.out _⟩
    · have b2 : (o.kind == 2) = false := by simp [e2]
      by_cases e3 : o.kind = 3
      · have b3 : (o.kind == 3) = true := by simp [e3]
        clear e2 e3
        go_wp2_with fail
        refine (P.stake A x F s o.A o.B HSA.out.p hv HO.out.a HO.out.b).mono ?_
        rintro e w1 ⟨rfl, F1, r1, f1, n1⟩
        have hX1 := hX.fr f1 hFl
        have hR1 := HSA.out.mid f1
        clear p0 k0 k2 k3 k4 k5 k6 k7 k8 k9 k10 k11 hX
        have hX := hX1
        have p1 := cell_of_cells (j := 1) hX.side rfl
        have k2 : w1.cell? ⟨w.heap.size + 1, 2, none⟩ = some (.int .i64 o.A) := cell_of_cells (j := 2) hX.op rfl
        have k3 : w1.cell? ⟨w.heap.size + 1, 3, none⟩ = some (.int .i64 o.B) := cell_of_cells (j := 3) hX.op rfl
        go_wp2_with fail
        refine (rstake w1 c G s o.A o.B hR1 hv).mono ?_
        rintro e w2 ⟨rfl, G2, r2, f2, n2⟩
        have HF := Go.Proofs.YtpaakikgfojplaaGreat.hid ((HSA.out.both P hv r1 f1 n1 r2 f2 n2).from HBA.out)
        generalize stakeV s o.A o.B = oi at *
        generalize askErr s o.A o.B = oe at *
        clear r1 f1 n1 r2 f2 n2 hR1 HSA
        go_wp2
        go_ret
        exact ⟨by simp, by rw [HST.out]; exact HF.out⟩
      · have b3 : (o.kind == 3) = false := by simp [e3]
        clear e2 e3
        go_wp2_with fail
        refine (P.count A x F s o.A o.B HSA.out.p hv HO.out.a HO.out.b).mono ?_
        rintro e w1 ⟨rfl, F1, r1, f1, n1⟩
        have hX1 := hX.fr f1 hFl
        have hR1 := HSA.out.mid f1
        clear p0 k0 k2 k3 k4 k5 k6 k7 k8 k9 k10 k11 hX
        have hX := hX1
        have p1 := cell_of_cells (j := 1) hX.side rfl
        have k2 : w1.cell? ⟨w.heap.size + 1, 2, none⟩ = some (.int .i64 o.A) := cell_of_cells (j := 2) hX.op rfl
        have k3 : w1.cell? ⟨w.heap.size + 1, 3, none⟩ = some (.int .i64 o.B) := cell_of_cells (j := 3) hX.op rfl
        go_wp2_with fail
        refine (rcount w1 c G s o.A o.B hR1 hv).mono ?_
        rintro e w2 ⟨rfl, G2, r2, f2, n2⟩
        have HF := Go.Proofs.YtpaakikgfojplaaGreat.hid ((HSA.out.both P hv r1 f1 n1 r2 f2 n2).from HBA.out)
        generalize countV s o.A o.B = oi at *
        generalize askErr s o.A o.B = oe at *
        clear r1 f1 n1 r2 f2 n2 hR1 HSA
        go_wp2
        go_ret
        exact ⟨by simp, by rw [HST.out]; exact HF.out⟩

end Go.Proofs.YtpaakikgfojplaaGreat

