import Derived.Test.YtpaakikgfojplabCM10
/-
  THE WALKS of the statements' book: came.
-/
namespace Go.Proofs.Ytpaakikgfojplab
open Go.RowKit Num Bk
set_option linter.unusedVariables false
attribute [local go_sem ↓] Go.wp_at_zero Go.wp_at_succ

theorem Try.info58 : (Try.prog.info? 58).map (fun i => (i.zero, i.size, i.bytes)) = some (some (.agg #[.int .i64 0, .int .i64 0, .int .i64 0, .int .i64 0, .int .i64 0, .int .i64 0, .int .i64 0, .int .i64 0]), 8, 64) := by kernel_rfl

def Came (W w6 : World) (b xc gs cs ga : Nat) (s' : St) : Prop :=
  ∃ ga' ca', BookAt w6 b xc gs cs ga' ca' s' ∧ Fr (fun k => k = b ∨ k = ga) W w6 ∧ (ga' = ga ∨ W.heap.size ≤ ga')

theorem BookAt.three {w : World} {b xc gs cs ga ca : Nat} {s : St} (h : BookAt w b xc gs cs ga ca s) : b ≠ gs ∧ b ≠ ga ∧ gs ≠ ga := by
  obtain ⟨c1, h1, _⟩ := row_block h.stk
  obtain ⟨c2, h2, _⟩ := row_block h.all
  exact ⟨block_ne h.blk h1 (by decide), block_ne h.blk h2 (by decide), block_ne h1 h2 (by decide)⟩

theorem came_all {W w5 : World} {b xc gs cs ga ca g5 cap5 : Nat} {s : St} {it : Itm} (hr : BookAt W b xc gs cs ga ca s) (o : Obj) (hgrow : (W.alloc o).grownBy w5 (some ga))
    (hown : w5.ownsRow 0 58 8 (.slice (some ⟨g5, 0, none⟩) (s.all.length + 1) cap5) (s.all.length + 1) (acells s.all ++ itcells it)) (hat : some ga = some g5 ∨ g5 = W.heap.size + 1) :
    Came W (w5.setCell ⟨b, 8, none⟩ (.slice (some ⟨g5, 0, none⟩) (s.all.length + 1) cap5)) b xc gs cs ga { s with all := s.all ++ [it] } := by
  have h4 := hr.three
  have hl := hr.lts
  have hF5 : Fr (fun k => k = ga) W w5 := ((Fr.refl _ W).alloc o).grown hgrow (by intro k e; simp at e; exact Or.inl e.symm)
  have hb5 : w5.heap[b]? = W.heap[b]? := hF5.block b hl.1 (by simpa using h4.2.1)
  have hg5 : g5 = ga ∨ W.heap.size ≤ g5 := by
    rcases hat with h | h
    · simp at h; exact Or.inl h.symm
    · exact Or.inr (by omega)
  have hxg : b ≠ g5 := by rcases hg5 with h | h; rw [h]; exact h4.2.1; omega
  refine ⟨g5, cap5, ⟨?_, ?_, ?_⟩, (hF5.mono (by intro k _ h; exact Or.inr h)).setCell (Or.inl (Or.inl rfl)) _, hg5⟩
  · rw [heap_setCell_same w5 b 8 _ 31 _ (hb5.trans hr.blk)]
    simp
  · exact ownsRow_setCell_other (row_fr hr.stk hF5 (by intro g e; simp [Value.ownBlock] at e; subst e; exact h4.2.2)) (by simpa [Value.ownBlock] using Ne.symm h4.1) _
  · have := ownsRow_setCell_other hown (a := ⟨b, 8, none⟩) (by simpa [Value.ownBlock] using Ne.symm hxg) (.slice (some ⟨g5, 0, none⟩) (s.all.length + 1) cap5)
    rw [acells_append, List.length_append]
    simpa [acells] using this

theorem Came.drew {W w6 : World} {b xc gs cs ga : Nat} {s' : St} (h : Came W w6 b xc gs cs ga s') : Came W w6.drew b xc gs cs ga s' := by
  obtain ⟨a, c, h1, h2, h3⟩ := h
  exact ⟨a, c, ⟨h1.blk, h1.stk, h1.all⟩, h2.drew, h3⟩

theorem Came.from {w W w6 : World} {b xc gs cs ga : Nat} {s' : St} (h : Came W w6 b xc gs cs ga s') (hb : Below w.heap.size w W) : Came w w6 b xc gs cs ga s' := by
  obtain ⟨a, c, h1, h2, h3⟩ := h
  have hs := hb.size
  exact ⟨a, c, h1, (Fr.of_below hb _ (fun k h1 h2 => by omega)).trans' h2 (fun i _ h => h), h3.imp id (fun h => by omega)⟩

set_option maxHeartbeats 3200000 in
set_option maxRecDepth 1000000 in
theorem came_any (b xc gs cs ga ca : Nat) (s : St) (pN : Nat) (h : Hdr) (w : World) (hr : BookAt w b xc gs cs ga ca s) (hsm : s.all.length ≤ 500000) :
    Calls Try.prog 35 #[.pointer (some ⟨b, 0, none⟩), .int .i64 (pN : Int), hdrV h] w fun e w' => e = .returned (.tuple #[]) ∧ Came w w' b xc gs cs ga { s with all := s.all ++ [⟨h, pN⟩] } := by
  obtain ⟨a0, a1, a2, a3, a4, a5, a6⟩ := h
  obtain ⟨i1, hj, hy0, hy1, hy2⟩ := info_parts Try.info58
  unfold hdrV
  go_enter Try.func35, Try.ntmps35
  go_wp2
  generalize hA : w.alloc (.cells #[.int .i64 a0, .int .i64 a1, .int .i64 a2, .int .i64 a3, .int .i64 a4, .int .i64 a5, .int .i64 a6] 42) = W at *
  obtain ⟨hsA, hbA, hAR⟩ := below_zero hA
  clear hA
  have hrW := hr.keep hbA
  have hlts := hrW.lts
  have h3 := hrW.three
  have c8 := cell_of_cells (j := 8) hrW.blk rfl
  have f8 := free_of_cells (j := 8) hrW.blk
  have p0 := cell_of_cells (j := 0) hAR rfl
  have p1 := cell_of_cells (j := 1) hAR rfl
  have p2 := cell_of_cells (j := 2) hAR rfl
  have p3 := cell_of_cells (j := 3) hAR rfl
  have p4 := cell_of_cells (j := 4) hAR rfl
  have p5 := cell_of_cells (j := 5) hAR rfl
  have p6 := cell_of_cells (j := 6) hAR rfl
  have hxW : b < W.heap.size := hlts.1
  have hwW : w.heap.size < W.heap.size := by omega
  clear hsA
  have hown1 := hrW.all
  have hx1 := h3.2.1
  have HRW := Go.Proofs.Ytpaakikgfojplab.hid hrW
  clear hrW hr
  have HA7 : Hid (∀ o, (W.alloc o).cell? ⟨b, 8, none⟩ = some (.slice (some ⟨ga, 0, none⟩) s.all.length ca)) := fun o => by rw [World.cell?_alloc_past _ _ _ hxW]; exact c8
  have HF7 : Hid (∀ o, (W.alloc o).frozen? ⟨b, 8, none⟩ = false) := fun o => by rw [World.frozen?_alloc_past _ _ _ hxW]; exact f8
  go_region_law ((refine step_append_lies _ (by rfl) (.tmp 10) (.tmp 14) 29 (by rfl) 0 58 i1 _ 8 64 Try.underlying29 hj hy0 hy1 hy2 (by rfl) (by omega) (.slice (some ⟨ga, 0, none⟩) s.all.length ca) s.all.length (acells s.all) (by rfl) (by exact hown1.alloc _) ⟨W.heap.size, 0, none⟩ 1 1 [.int .i64 a0, .int .i64 a1, .int .i64 a2, .int .i64 a3, .int .i64 a4, .int .i64 a5, .int .i64 a6, .int .i64 (pN : Int)] (by rfl) (by rfl) (by exact World.news_of_block (heap_alloc_new W _)) (by intro u hu; simp at hu; rcases hu with rfl | rfl | rfl | rfl | rfl | rfl | rfl | rfl <;> rfl) (by omega) (by unfold maxLen; omega) (by omega) (by omega) (W.heap.size + 1) (by simp) ?_; intro g5 cap5 w5 hown5 hgrow5 hat5 hlt5; have k7 := (hgrow5.cell_far ⟨b, 8, none⟩ (by simp; omega) (by simp [Value.ownBlock]; omega)).trans (by exact HA7.out _); have kf := (hgrow5.frozen_far ⟨b, 8, none⟩ (by simp; omega) (by simp [Value.ownBlock]; omega)).trans (by exact HF7.out _)))
  all_goals
    go_wp2
    go_end0
    refine ⟨rfl, Came.from ?_ hbA⟩
    exact came_all HRW.out _ ⟨hgrow5.os, hgrow5.tape, hgrow5.output, hgrow5.size, hgrow5.block⟩ hown5 hat5

end Go.Proofs.Ytpaakikgfojplab

/-
  THE WALKS of beaconref: may, New.
-/
namespace Go.Proofs.Ytpaakikgfojplab
open Go.RowKit Num Bk
set_option linter.unusedVariables false

/-- Parameters as a value; the stakes lie at 'so'. -/
def parV (p : Par) (so : Option Addr) (c : Nat) : Value := .agg #[.int .i64 p.depth, .int .i64 p.epoch, .int .i64 p.room, .int .i64 p.a, .int .i64 p.b, .int .i64 p.nonce, .slice so p.stakes.length c]

/-- May a chain begin so? -/
def parB (p : Par) : Bool := decide (1 ≤ p.depth ∧ p.depth ≤ 8 ∧ 1 ≤ p.epoch ∧ p.epoch ≤ 50 ∧ 2 ≤ p.room ∧ p.room ≤ 40 ∧ p.b ≤ 20 ∧ 1 ≤ p.a ∧ p.a < p.b ∧ 0 ≤ p.nonce ∧ p.nonce < 65521 ∧ 1 ≤ p.stakes.length ∧ p.stakes.length ≤ 6 ∧ (∀ x ∈ p.stakes, 0 ≤ x ∧ x ≤ 40) ∧ 0 < p.stakes.sum)

theorem parB_iff (p : Par) : parB p = true ↔ ParOk p := by
  unfold parB
  rw [decide_eq_true_iff]
  constructor
  · rintro ⟨h1, h2, h3, h4, h5, h6, h7, h8, h9, h10, h11, h12, h13, h14, h15⟩
    exact ⟨h1, h2, h3, h4, h5, h6, h7, h8, h9, h10, h11, h12, h13, h14, h15⟩
  · rintro ⟨h1, h2, h3, h4, h5, h6, h7, h8, h9, h10, h11, h12, h13, h14, h15⟩
    exact ⟨h1, h2, h3, h4, h5, h6, h7, h8, h9, h10, h11, h12, h13, h14, h15⟩
theorem parB_false (p : Par) : parB p = false ↔ ¬ ParOk p := by
  rw [← parB_iff]; cases parB p <;> simp

/-- The stakes can be read. -/
def StkAt (w : World) (so : Option Addr) (l : List Int) : Prop := ∀ j, j < l.length → ∃ g off, so = some ⟨g, off, none⟩ ∧ w.cell? ⟨g, off + j, none⟩ = some (.int .i64 (l.getD j 0))

end Go.Proofs.Ytpaakikgfojplab

/-
  THE WALKS of beaconref: New, Kept, Look.
-/
namespace Go.Proofs.Ytpaakikgfojplab
open Go.RowKit Num Bk
set_option linter.unusedVariables false

theorem StkAt.src {w : World} {so : Option Addr} {l : List Int} (h : StkAt w so l) : ∀ ad, so = some ad → ∀ j v, (icells l)[j]? = some v → w.cell? (ad.add j) = some v := by
  intro ad e j v hv
  have hj : j < l.length := by
    have := (List.getElem?_eq_some_iff.1 hv).1
    rwa [icells_length] at this
  obtain ⟨g, off, e', hc⟩ := h j hj
  rw [e] at e'
  simp at e'
  subst e'
  rw [Addr.add_lit, hc]
  rw [icells_at l j hj] at hv
  exact hv

theorem StkAt.keep {w w' : World} {so : Option Addr} {l : List Int} (h : StkAt w so l) (hb : Below w.heap.size w w') : StkAt w' so l := by
  intro j hj
  obtain ⟨g, off, e', hc⟩ := h j hj
  refine ⟨g, off, e', ?_⟩
  rw [hb.cell (p := ⟨g, off + j, none⟩) (World.block_lt_of_cell? w _ hc)]
  exact hc

theorem dcells_icells (l : List Nat) : dcells l = icells (l.map fun (n : Nat) => (n : Int)) := by simp [dcells, icells]

def lookV (s : St) (id : Int) : Value :=
  if missing s id = 0 then .agg #[.int .i64 (hd s.all id.toNat).slot, .int .i64 (hd s.all id.toNat).pool, .int .i64 (hd s.all id.toNat).proof, .int .i64 (hd s.all id.toNat).count, .int .i64 (hd s.all id.toNat).frm, .int .i64 (hd s.all id.toNat).dst, .int .i64 (hd s.all id.toNat).amount, .int .i64 (pa s.all id.toNat : Nat), .int .i64 (height s.all id.toNat : Nat)]
  else .agg #[.int .i64 0, .int .i64 0, .int .i64 0, .int .i64 0, .int .i64 0, .int .i64 0, .int .i64 0, .int .i64 0, .int .i64 0]

end Go.Proofs.Ytpaakikgfojplab

