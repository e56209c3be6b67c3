import Derived.Test.YtpaakikgfojplaaGreatCM18
import Derived.Deep.MidRow
import Derived.BigRegion
import Derived.Deep.DeepCutAuto
/-
  THE WALKS of the program's ledger: after.
-/
namespace Go.Proofs.YtpaakikgfojplaaGreat
open Go.RowKit Num Bk
set_option linter.unusedVariables false

theorem Below.setRow {B : Nat} {a w : World} (h : Below B a w) {g : Nat} (hg : B ≤ g) (cs : Array Value) : Below B a (w.setRow g cs) :=
  ⟨h.os, h.tape, h.output, by have := h.size; simpa [World.setRow] using this, fun k hk => by rw [setRow_other _ _ _ _ (by omega)]; exact h.block k hk⟩

theorem results_ct {fn : Func} {p u : Tmp} {ty : TypeId} (h : fn.results = #[.cell p ty, .tmp u]) (tmps : Array Value) (P : Program) (w : World) (g : Nat) (t : TypeId) (cs : Array Value) (fr : Nat × Nat) (d : TypeDesc)
    (hp : tmps.getD p undef = .pointer (some ⟨g, 0, none⟩)) (hg : w.heap[g]? = some (.cells cs t fr))
    (hd : (match d with | .struct _ | .array _ _ => true | _ => false) = true) (hu : P.underlying ty = some d) (hi : (P.info? ty).map (·.size) = some cs.size) :
    (results fn tmps).run P w = .ok (.tuple #[.agg cs, tmps.getD u undef]) w := by
  rw [results_cell_tmp h, hp]
  simp [asAddr, Result.andThen, run_loadVar_row w g t ty cs fr d hg hu (by revert hd; cases d <;> simp) hi]

theorem pg_one (g : Pg) : (pgA g).all (·.oneCell') = true := by simp [pgA, Value.oneCell']

theorem blocks4 {w w1 : World} {o1 o2 o3 o4 : Obj} (hb : Below ((((w.alloc o1).alloc o2).alloc o3).alloc o4).heap.size ((((w.alloc o1).alloc o2).alloc o3).alloc o4) w1) :
    w.heap.size + 4 ≤ w1.heap.size ∧ Below w.heap.size w w1 ∧ w1.heap[w.heap.size]? = some o1 ∧ w1.heap[w.heap.size + 1]? = some o2 ∧ w1.heap[w.heap.size + 2]? = some o3 ∧ w1.heap[w.heap.size + 3]? = some o4 := by
  have h3 := blocks3 (w := w) (o1 := o1) (o2 := o2) (o3 := o3) (w1 := (((w.alloc o1).alloc o2).alloc o3).alloc o4) ((Below.refl _ _).alloc (Nat.le_refl _) _)
  have hs := hb.size
  simp only [World.size_alloc] at hs
  have b4 : ((((w.alloc o1).alloc o2).alloc o3).alloc o4).heap[w.heap.size + 3]? = some o4 := by have := heap_alloc_new (((w.alloc o1).alloc o2).alloc o3) o4; simpa using this
  refine ⟨hs, h3.2.1.trans (hb.mono (by simp; omega)), ?_, ?_, ?_, ?_⟩
  · rw [hb.block _ (by simp; omega)]; exact h3.2.2.1
  · rw [hb.block _ (by simp <;> omega)]; exact h3.2.2.2.1
  · rw [hb.block _ (by simp <;> omega)]; exact h3.2.2.2.2
  · rw [hb.block _ (by simp)]; exact b4

theorem row_new {w A : World} {z x : Array Value} {t : TypeId} (h : (w.alloc (.cells z t)).setRow w.heap.size x = A) : w.heap.size + 1 ≤ A.heap.size ∧ Below w.heap.size w A ∧ A.heap[w.heap.size]? = some (.cells x t (0, 0)) := by
  subst h
  have hb : Below w.heap.size w ((w.alloc (.cells z t)).setRow w.heap.size x) := Below.setRow ((Below.refl _ _).alloc (Nat.le_refl _) _) (Nat.le_refl _) _
  have hh := setRow_heap (w.alloc (.cells z t)) w.heap.size z x t (0, 0) (heap_alloc_new w _)
  exact ⟨lt_of_block hh, hb, hh⟩

theorem three_set {A : World} {N j1 j2 j3 k : Nat} {v1 v2 v3 : Value} (hk : k ≠ N) : (((A.setCell ⟨N, j1, none⟩ v1).setCell ⟨N, j2, none⟩ v2).setCell ⟨N, j3, none⟩ v3).heap[k]? = A.heap[k]? := by
  rw [Below.heap_setCell _ _ _ _ hk, Below.heap_setCell _ _ _ _ hk, Below.heap_setCell _ _ _ _ hk]

theorem info_arr : (Tryz.prog.info? 54).map (·.size) = some 6 := by kernel_rfl
theorem info_rul : (Tryz.prog.info? 53).map (·.size) = some 5 := by kernel_rfl
theorem there_of_block {w : World} {b : Nat} {cs : Array Value} {t : TypeId} (h : w.heap[b]? = some (.cells cs t (0, 0))) (o n : Nat) (hn : o + n ≤ cs.size) : w.there b o n := fun j hj =>
  ⟨by rw [cell_of_cells h (Array.getElem?_eq_getElem (show o + j < cs.size by omega))]; rfl, free_of_cells h⟩

theorem pg_setS (g : Pg) (v : Int) : ∀ k, k < 6 → (pgA g).setIfInBounds (1 + k) (.int .i64 v) = pgA { g with stakes := upd g.stakes k v } := six rfl rfl rfl rfl rfl rfl
theorem pg_setC (g : Pg) (v : Int) : ∀ k, k < 6 → (pgA g).setIfInBounds (7 + k) (.int .i64 v) = pgA { g with counts := upd g.counts k v } := six rfl rfl rfl rfl rfl rfl

theorem page_store {w : World} {N j : Nat} {cs cs' : Array Value} {t : TypeId} {v : Value} (h : w.heap[N]? = some (.cells cs t (0, 0))) (e : cs.setIfInBounds j v = cs') : (w.setCell ⟨N, j, none⟩ v).heap[N]? = some (.cells cs' t (0, 0)) := by
  rw [heap_setCell_same w N j cs t v h, e]

theorem set6 {w : World} {N j0 j1 j2 j3 j4 j5 : Nat} {cs cs' : Array Value} {t : TypeId} {a0 a1 a2 a3 a4 a5 : Value} (h : w.heap[N]? = some (.cells cs t (0, 0)))
    (e : (((((cs.setIfInBounds j0 a0).setIfInBounds j1 a1).setIfInBounds j2 a2).setIfInBounds j3 a3).setIfInBounds j4 a4).setIfInBounds j5 a5 = cs') :
    ((((((w.setCell ⟨N, j0, none⟩ a0).setCell ⟨N, j1, none⟩ a1).setCell ⟨N, j2, none⟩ a2).setCell ⟨N, j3, none⟩ a3).setCell ⟨N, j4, none⟩ a4).setCell ⟨N, j5, none⟩ a5).heap[N]? = some (.cells cs' t (0, 0)) := by
  have h1 := heap_setCell_same _ N j0 _ t a0 h
  have h2 := heap_setCell_same _ N j1 _ t a1 h1
  have h3 := heap_setCell_same _ N j2 _ t a2 h2
  have h4 := heap_setCell_same _ N j3 _ t a3 h3
  have h5 := heap_setCell_same _ N j4 _ t a4 h4
  have h6 := heap_setCell_same _ N j5 _ t a5 h5
  rw [h6, e]
theorem below_set6 {w v : World} {B b j0 j1 j2 j3 j4 j5 : Nat} (hb : Below B w v) (hw : B ≤ b) (a0 a1 a2 a3 a4 a5 : Value) : Below B w ((((((v.setCell ⟨b, j0, none⟩ a0).setCell ⟨b, j1, none⟩ a1).setCell ⟨b, j2, none⟩ a2).setCell ⟨b, j3, none⟩ a3).setCell ⟨b, j4, none⟩ a4).setCell ⟨b, j5, none⟩ a5) :=
  (((((hb.setCell (by exact hw) _).setCell (by exact hw) _).setCell (by exact hw) _).setCell (by exact hw) _).setCell (by exact hw) _).setCell (by exact hw) _
theorem block_set6 {v : World} {b j0 j1 j2 j3 j4 j5 k : Nat} (hk : k ≠ b) (a0 a1 a2 a3 a4 a5 : Value) : ((((((v.setCell ⟨b, j0, none⟩ a0).setCell ⟨b, j1, none⟩ a1).setCell ⟨b, j2, none⟩ a2).setCell ⟨b, j3, none⟩ a3).setCell ⟨b, j4, none⟩ a4).setCell ⟨b, j5, none⟩ a5).heap[k]? = v.heap[k]? := by
  rw [Below.heap_setCell _ _ _ _ hk, Below.heap_setCell _ _ _ _ hk, Below.heap_setCell _ _ _ _ hk, Below.heap_setCell _ _ _ _ hk, Below.heap_setCell _ _ _ _ hk, Below.heap_setCell _ _ _ _ hk]

/-- What stands behind each statement of 'after'. -/
structure AfIn (w wx : World) (p : Par) (g : Pg) (N : Nat) (G : Pg) : Prop where
  r1 : wx.heap[w.heap.size]? = some (.cells #[.int .i64 p.epoch, .int .i64 p.a, .int .i64 p.b, .int .i64 (p.stakes.length : Int), .int .i64 (total p)] 53 (0, 0))
  r2 : wx.heap[w.heap.size + 1]? = some (.cells (pgA g) 56 (0, 0))
  r4 : wx.heap[w.heap.size + 3]? = some (.cells (pgA zeroP) 56 (0, 0))
  rN : wx.heap[N]? = some (.cells (pgA G) 56 (0, 0))
  rB : Below w.heap.size w wx
  rn : w.heap.size + 4 ≤ N

theorem AfIn.below {w wx wy : World} {p : Par} {g G : Pg} {N B : Nat} (h : AfIn w wx p g N G) (hb : Below B wx wy) (hB : wx.heap.size ≤ B := by exact Nat.le_refl _) : AfIn w wy p g N G :=
  ⟨(hb.block _ (Nat.lt_of_lt_of_le (lt_of_block h.r1) hB)).trans h.r1, (hb.block _ (Nat.lt_of_lt_of_le (lt_of_block h.r2) hB)).trans h.r2, (hb.block _ (Nat.lt_of_lt_of_le (lt_of_block h.r4) hB)).trans h.r4, (hb.block _ (Nat.lt_of_lt_of_le (lt_of_block h.rN) hB)).trans h.rN,
    h.rB.trans (hb.mono (Nat.le_trans (Nat.le_of_lt (lt_of_block h.r1)) hB)), h.rn⟩
theorem AfIn.set {w wx : World} {p : Par} {g G G' : Pg} {N : Nat} (h : AfIn w wx p g N G) (j : Nat) (v : Value) (e : (pgA G).setIfInBounds j v = pgA G') : AfIn w (wx.setCell ⟨N, j, none⟩ v) p g N G' := by
  have hn := h.rn
  exact ⟨(Below.heap_setCell _ _ _ _ (show w.heap.size ≠ N by omega)).trans h.r1, (Below.heap_setCell _ _ _ _ (show w.heap.size + 1 ≠ N by omega)).trans h.r2, (Below.heap_setCell _ _ _ _ (show w.heap.size + 3 ≠ N by omega)).trans h.r4, page_store h.rN e,
    h.rB.setCell (show w.heap.size ≤ N by omega) _, hn⟩
theorem AfIn.six {w wx : World} {p : Par} {g G G' : Pg} {N j0 j1 j2 j3 j4 j5 : Nat} {a0 a1 a2 a3 a4 a5 : Value} (h : AfIn w wx p g N G)
    (e : ((((((pgA G).setIfInBounds j0 a0).setIfInBounds j1 a1).setIfInBounds j2 a2).setIfInBounds j3 a3).setIfInBounds j4 a4).setIfInBounds j5 a5 = pgA G') :
    AfIn w ((((((wx.setCell ⟨N, j0, none⟩ a0).setCell ⟨N, j1, none⟩ a1).setCell ⟨N, j2, none⟩ a2).setCell ⟨N, j3, none⟩ a3).setCell ⟨N, j4, none⟩ a4).setCell ⟨N, j5, none⟩ a5) p g N G' := by
  have hn := h.rn
  exact ⟨(block_set6 (by omega) _ _ _ _ _ _).trans h.r1, (block_set6 (by omega) _ _ _ _ _ _).trans h.r2, (block_set6 (by omega) _ _ _ _ _ _).trans h.r4, set6 h.rN e, below_set6 h.rB (by omega) _ _ _ _ _ _, hn⟩

/-- What is asked of a header that has been checked. -/
structure AftOk (p : Par) (g : Pg) (a0 a2 a6 : Int) (k f d : Nat) : Prop where
  s0 : 0 ≤ a0
  s1 : a0 ≤ 10000
  s2 : g.slot < a0
  k6 : k < 6
  f6 : f < 6
  d6 : d < 6
  p0 : 0 ≤ a2
  p1 : a2 < 1024
  m0 : 0 ≤ a6
  m1 : a6 ≤ g.stakes f

set_option maxHeartbeats 6400000 in
set_option maxRecDepth 1000000 in
theorem after_is (p : Par) (g : Pg) (a0 a2 a3 a6 : Int) (k f d : Nat) (w : World) (hp : ParOk p) (hg : PgOk p g) (ho : AftOk p g a0 a2 a6 k f d) :
    Calls Tryz.prog 90 #[rulV p, pageV g, hdrV ⟨a0, k, a2, a3, f, d, a6⟩] w fun r w' => r = .returned (pageV (afterPg p g ⟨a0, k, a2, a3, f, d, a6⟩)) ∧ Below w.heap.size w w' := by
  obtain ⟨s0, s1, s2, k6, f6, d6, p0, p1, m0, m1⟩ := ho
  have hsf := hg.stk f
  have hsd := hg.stk d
  have hrun := hg.run
  have htot := total_small hp
  have hg1 := hg.slot
  have e1 := hp.e1
  have hq0 : 0 ≤ a0 / p.epoch := Int.ediv_nonneg s0 (by omega)
  have hq1 : a0 / p.epoch ≤ 10000 := Int.le_trans (Int.ediv_le_self _ s0) s1
  have hE : epochOf p a0 = a0 / p.epoch := epochOf_nat p s0
  unfold hdrV
  show Calls Tryz.prog _ #[.agg #[.int .i64 p.epoch, .int .i64 p.a, .int .i64 p.b, .int .i64 (p.stakes.length : Int), .int .i64 (total p)], .agg (pgA g), .agg #[.int .i64 a0, .int .i64 (k : Int), .int .i64 a2, .int .i64 a3, .int .i64 (f : Int), .int .i64 (d : Int), .int .i64 a6]] w fun r w' => r = .returned (.agg (pgA (afterPg p g ⟨a0, k, a2, a3, f, d, a6⟩))) ∧ Below w.heap.size w w'
  have HR := Go.Proofs.YtpaakikgfojplaaGreat.hid (show afterPg p g ⟨a0, k, a2, a3, f, d, a6⟩ = ⟨a0, upd (upd g.stakes f (g.stakes f - a6)) d ((upd g.stakes f (g.stakes f - a6)) d + a6), upd g.counts k a3, runS p.epoch g.running ⟨a0, k, a2, a3, f, d, a6⟩, nonceIn p g (a0 / p.epoch), stakesIn p g (a0 / p.epoch + 1), stakesIn p g (a0 / p.epoch)⟩ by
    unfold afterPg movedF
    simp only [Int.toNat_natCast, hE])
  have HRS := Go.Proofs.YtpaakikgfojplaaGreat.hid (show runS p.epoch g.running ⟨a0, k, a2, a3, f, d, a6⟩ = (if 3 * (a0 % p.epoch) < 2 * p.epoch then (g.running * 257 + a2 + 1) % 65521 else g.running) from rfl)
  generalize runS p.epoch g.running ⟨a0, k, a2, a3, f, d, a6⟩ = RS at *
  generalize afterPg p g ⟨a0, k, a2, a3, f, d, a6⟩ = PG at *
  go_enter Tryz.func90, Tryz.ntmps90
  go_wp2_with fail
  refine (epochOf_is p a0 _ hp (Or.inr ⟨s0, s1⟩)).mono ?_
  rintro r w1 ⟨rfl, hb⟩
  rw [hE]
  obtain ⟨hs1, hb1, k1, k2, k3, k4⟩ := blocks4 hb
  have hiP := info_page g
  have HB1 := Go.Proofs.YtpaakikgfojplaaGreat.hid hb1
  have HK4 := Go.Proofs.YtpaakikgfojplaaGreat.hid k4
  have HK1 := Go.Proofs.YtpaakikgfojplaaGreat.hid k1
  have HK2 := Go.Proofs.YtpaakikgfojplaaGreat.hid k2
  have HK3 := Go.Proofs.YtpaakikgfojplaaGreat.hid k3
  have c1 : w1.cell? ⟨w.heap.size + 1, 1, none⟩ = some (.int .i64 (g.stakes 0)) := cell_of_cells (j := 1) k2 rfl
  have c2 : w1.cell? ⟨w.heap.size + 1, 2, none⟩ = some (.int .i64 (g.stakes 1)) := cell_of_cells (j := 2) k2 rfl
  have c3 : w1.cell? ⟨w.heap.size + 1, 3, none⟩ = some (.int .i64 (g.stakes 2)) := cell_of_cells (j := 3) k2 rfl
  have c4 : w1.cell? ⟨w.heap.size + 1, 4, none⟩ = some (.int .i64 (g.stakes 3)) := cell_of_cells (j := 4) k2 rfl
  have c5 : w1.cell? ⟨w.heap.size + 1, 5, none⟩ = some (.int .i64 (g.stakes 4)) := cell_of_cells (j := 5) k2 rfl
  have c6 : w1.cell? ⟨w.heap.size + 1, 6, none⟩ = some (.int .i64 (g.stakes 5)) := cell_of_cells (j := 6) k2 rfl
  have c7 : w1.cell? ⟨w.heap.size + 1, 7, none⟩ = some (.int .i64 (g.counts 0)) := cell_of_cells (j := 7) k2 rfl
  have c8 : w1.cell? ⟨w.heap.size + 1, 8, none⟩ = some (.int .i64 (g.counts 1)) := cell_of_cells (j := 8) k2 rfl
  have c9 : w1.cell? ⟨w.heap.size + 1, 9, none⟩ = some (.int .i64 (g.counts 2)) := cell_of_cells (j := 9) k2 rfl
  have c10 : w1.cell? ⟨w.heap.size + 1, 10, none⟩ = some (.int .i64 (g.counts 3)) := cell_of_cells (j := 10) k2 rfl
  have c11 : w1.cell? ⟨w.heap.size + 1, 11, none⟩ = some (.int .i64 (g.counts 4)) := cell_of_cells (j := 11) k2 rfl
  have c12 : w1.cell? ⟨w.heap.size + 1, 12, none⟩ = some (.int .i64 (g.counts 5)) := cell_of_cells (j := 12) k2 rfl
  have c13 : w1.cell? ⟨w.heap.size + 1, 13, none⟩ = some (.int .i64 g.running) := cell_of_cells (j := 13) k2 rfl
  have d0 := cell_of_cells (j := 0) k3 rfl
  clear hb hb1 k1 k2 k3 k4
  generalize hEP : a0 / p.epoch = EP at *
  go_wp2_with (refine wpList_store_row rfl 56 _ _ rfl w1.heap.size (pgA ⟨a0, g.stakes, g.counts, g.running, 0, fun _ => 0, fun _ => 0⟩) rfl rfl 56 (pgA zeroP) (heap_alloc_new w1 _) (info_page _) rfl (pg_one _) ?_)
  generalize hA : (w1.alloc (.cells #[.int .i64 0, .int .i64 0, .int .i64 0, .int .i64 0, .int .i64 0, .int .i64 0, .int .i64 0, .int .i64 0, .int .i64 0, .int .i64 0, .int .i64 0, .int .i64 0, .int .i64 0, .int .i64 0, .int .i64 0, .int .i64 0, .int .i64 0, .int .i64 0, .int .i64 0, .int .i64 0, .int .i64 0, .int .i64 0, .int .i64 0, .int .i64 0, .int .i64 0, .int .i64 0, .int .i64 0] 56)).setRow w1.heap.size (pgA ⟨a0, g.stakes, g.counts, g.running, 0, fun _ => 0, fun _ => 0⟩) = A at *
  obtain ⟨hsA, hbA, hNA⟩ := row_new hA
  clear hA
  have K1 : A.heap[w.heap.size]? = _ := (hbA.block _ (by omega)).trans HK1.out
  have K2 : A.heap[w.heap.size + 1]? = _ := (hbA.block _ (by omega)).trans HK2.out
  have K3 : A.heap[w.heap.size + 2]? = _ := (hbA.block _ (by omega)).trans HK3.out
  have K4 : A.heap[w.heap.size + 3]? = some (.cells (pgA zeroP) 56 (0, 0)) := (hbA.block _ (by omega)).trans HK4.out
  have HBA := Go.Proofs.YtpaakikgfojplaaGreat.hid (HB1.out.trans (hbA.mono (by omega)))
  clear HK1 HK2 HK3 HK4 HB1 hbA d0 c1 c2 c3 c4 c5 c6 c7 c8 c9 c10 c11 c12 c13
  generalize hNN : w1.heap.size = N at *
  clear hNN
  generalize hvf : g.stakes f = sf at *
  generalize hST1 : upd g.stakes f (sf - a6) = ST1 at *
  have hN1 : (A.setCell ⟨N, 1 + f, none⟩ (.int .i64 (sf - a6))).heap[N]? = some (.cells (pgA ⟨a0, ST1, g.counts, g.running, 0, fun _ => 0, fun _ => 0⟩) 56 (0, 0)) := page_store hNA ((pg_setS _ _ f f6).trans (by rw [hST1]))
  have hsd2 : 0 ≤ ST1 d ∧ ST1 d ≤ 240 := by
    rw [← hST1]; unfold upd; split <;> omega
  generalize hvd : ST1 d = sd at *
  generalize hST : upd ST1 d (sd + a6) = ST at *
  have hN2 : ((A.setCell ⟨N, 1 + f, none⟩ (.int .i64 (sf - a6))).setCell ⟨N, 1 + d, none⟩ (.int .i64 (sd + a6))).heap[N]? = some (.cells (pgA ⟨a0, ST, g.counts, g.running, 0, fun _ => 0, fun _ => 0⟩) 56 (0, 0)) := page_store hN1 ((pg_setS _ _ d d6).trans (by rw [hST]))
  generalize hCT : upd g.counts k a3 = CT at *
  have HN3 : Hid ((((A.setCell ⟨N, 1 + f, none⟩ (.int .i64 (sf - a6))).setCell ⟨N, 1 + d, none⟩ (.int .i64 (sd + a6))).setCell ⟨N, 7 + k, none⟩ (.int .i64 a3)).heap[N]? = some (.cells (pgA ⟨a0, ST, CT, g.running, 0, fun _ => 0, fun _ => 0⟩) 56 (0, 0))) := page_store hN2 ((pg_setC _ _ k k6).trans (by rw [hCT]))
  have HK := Go.Proofs.YtpaakikgfojplaaGreat.hid (fun (b : Nat) (hb : b ≠ N) => three_set (A := A) (N := N) (j1 := 1 + f) (j2 := 1 + d) (j3 := 7 + k) (v1 := .int .i64 (sf - a6)) (v2 := .int .i64 (sd + a6)) (v3 := .int .i64 a3) hb)
  have HBC : Hid (Below w.heap.size w (((A.setCell ⟨N, 1 + f, none⟩ (.int .i64 (sf - a6))).setCell ⟨N, 1 + d, none⟩ (.int .i64 (sd + a6))).setCell ⟨N, 7 + k, none⟩ (.int .i64 a3))) := ((HBA.out.setCell (by show w.heap.size ≤ N; omega) _).setCell (by show w.heap.size ≤ N; omega) _).setCell (by show w.heap.size ≤ N; omega) _
  have nf : A.cell? ⟨N, 1 + f, none⟩ = some (.int .i64 sf) := by rw [← hvf]; exact cell_of_cells (j := 1 + f) hNA (pg_stakes _ f f6)
  have nd : (A.setCell ⟨N, 1 + f, none⟩ (.int .i64 (sf - a6))).cell? ⟨N, 1 + d, none⟩ = some (.int .i64 sd) := by rw [← hvd]; exact cell_of_cells (j := 1 + d) hN1 (pg_stakes _ d d6)
  have nk : ((A.setCell ⟨N, 1 + f, none⟩ (.int .i64 (sf - a6))).setCell ⟨N, 1 + d, none⟩ (.int .i64 (sd + a6))).cell? ⟨N, 7 + k, none⟩ = some (.int .i64 (g.counts k)) := cell_of_cells (j := 7 + k) hN2 (pg_counts _ k k6)
  have zf : A.frozen? ⟨N, 1 + f, none⟩ = false := free_of_cells hNA
  have zd : (A.setCell ⟨N, 1 + f, none⟩ (.int .i64 (sf - a6))).frozen? ⟨N, 1 + d, none⟩ = false := free_of_cells hN1
  have zk : ((A.setCell ⟨N, 1 + f, none⟩ (.int .i64 (sf - a6))).setCell ⟨N, 1 + d, none⟩ (.int .i64 (sd + a6))).frozen? ⟨N, 7 + k, none⟩ = false := free_of_cells hN2
  have d0 : A.cell? ⟨w.heap.size + 2, 0, none⟩ = some (.int .i64 a0) := cell_of_cells (j := 0) K3 rfl
  have d1 : A.cell? ⟨w.heap.size + 2, 1, none⟩ = some (.int .i64 (k : Int)) := cell_of_cells (j := 1) K3 rfl
  have d3 : A.cell? ⟨w.heap.size + 2, 3, none⟩ = some (.int .i64 a3) := cell_of_cells (j := 3) K3 rfl
  have d4 : A.cell? ⟨w.heap.size + 2, 4, none⟩ = some (.int .i64 (f : Int)) := cell_of_cells (j := 4) K3 rfl
  have d5 : A.cell? ⟨w.heap.size + 2, 5, none⟩ = some (.int .i64 (d : Int)) := cell_of_cells (j := 5) K3 rfl
  have d6' : A.cell? ⟨w.heap.size + 2, 6, none⟩ = some (.int .i64 a6) := cell_of_cells (j := 6) K3 rfl
  have c0 : A.cell? ⟨w.heap.size, 0, none⟩ = some (.int .i64 p.epoch) := cell_of_cells (j := 0) K1 rfl
  have c1 : A.cell? ⟨w.heap.size, 1, none⟩ = some (.int .i64 p.a) := cell_of_cells (j := 1) K1 rfl
  have c2 : A.cell? ⟨w.heap.size, 2, none⟩ = some (.int .i64 p.b) := cell_of_cells (j := 2) K1 rfl
  have c3 : A.cell? ⟨w.heap.size, 3, none⟩ = some (.int .i64 (p.stakes.length : Int)) := cell_of_cells (j := 3) K1 rfl
  have c4 : A.cell? ⟨w.heap.size, 4, none⟩ = some (.int .i64 (total p)) := cell_of_cells (j := 4) K1 rfl
  have u1 : (0 : Int) ≤ (f : Int) := by omega
  have u2 : (f : Int) < 6 := by omega
  have u3 : (0 : Int) ≤ (d : Int) := by omega
  have u4 : (d : Int) < 6 := by omega
  have u5 : (0 : Int) ≤ (k : Int) := by omega
  have u6 : (k : Int) < 6 := by omega
  have hne0 : N ≠ w.heap.size := by omega
  have hne2 : N ≠ w.heap.size + 2 := by omega
  have HAF : Hid (AfIn w (((A.setCell ⟨N, 1 + f, none⟩ (.int .i64 (sf - a6))).setCell ⟨N, 1 + d, none⟩ (.int .i64 (sd + a6))).setCell ⟨N, 7 + k, none⟩ (.int .i64 a3)) p g N ⟨a0, ST, CT, g.running, 0, fun _ => 0, fun _ => 0⟩) :=
    ⟨(HK.out _ (by omega)).trans K1, (HK.out _ (by omega)).trans K2, (HK.out _ (by omega)).trans K4, HN3.out, HBC.out, by omega⟩
  have HK3 := Go.Proofs.YtpaakikgfojplaaGreat.hid ((HK.out _ (by omega)).trans K3)
  clear K1 K2 K3 K4 hN1 hN2 hNA HBA hST1 hST hCT hvf hvd HK HN3 HBC
  go_wp2
  go_region
  go_wp2
  go_region
  go_wp2_with fail
  refine (isEarly_is p a0 _ hp s0 s1).mono ?_
  rintro r w4 ⟨rfl, hb4⟩
  have hb4' : Below _ (((A.setCell ⟨N, 1 + f, none⟩ (.int .i64 (sf - a6))).setCell ⟨N, 1 + d, none⟩ (.int .i64 (sd + a6))).setCell ⟨N, 7 + k, none⟩ (.int .i64 a3)) w4 := ⟨hb4.os, hb4.tape, hb4.output, hb4.size, hb4.block⟩
  have L := HAF.out.below hb4'
  have L3 : w4.heap[w.heap.size + 2]? = _ := (hb4'.block _ (lt_of_block HK3.out)).trans HK3.out
  clear hb4 hb4' nf nd nk zf zd zk d0 d1 d3 d4 d5 d6' c0 c1 c2 c3 c4
  by_cases hea : 3 * (a0 % p.epoch) < 2 * p.epoch
  · have hrs : RS = (g.running * 257 + a2 + 1) % 65521 := HRS.out.trans (if_pos hea)
    have hde : decide (3 * (a0 % p.epoch) < 2 * p.epoch) = true := decide_eq_true hea
    rw [hde]
    have n13 := cell_of_cells (j := 13) L.rN rfl
    have q13 := free_of_cells (j := 13) L.rN
    have c13 : w4.cell? ⟨w.heap.size + 1, 13, none⟩ = some (.int .i64 g.running) := cell_of_cells (j := 13) L.r2 rfl
    have d2 : w4.cell? ⟨w.heap.size + 2, 2, none⟩ = some (.int .i64 a2) := cell_of_cells (j := 2) L3 rfl
    have hmn := Int.emod_nonneg (g.running * 257 + a2 + 1) (show (65521 : Int) ≠ 0 by omega)
    have hml := Int.emod_lt_of_pos (g.running * 257 + a2 + 1) (show (0 : Int) < 65521 by omega)
    have HL := Go.Proofs.YtpaakikgfojplaaGreat.hid (L.set 13 (.int .i64 ((g.running * 257 + a2 + 1) % 65521)) (G' := ⟨a0, ST, CT, RS, 0, fun _ => 0, fun _ => 0⟩) (by rw [hrs]; rfl))
    clear L L3 hrs HRS HAF HK3
    go_upto_region 8 with fail
    clear n13 q13 c13 d2
    generalize w4.setCell ⟨N, 13, none⟩ (.int .i64 ((g.running * 257 + a2 + 1) % 65521)) = w4 at *
    have L := HL.out
    clear HL
    have HC := Go.Proofs.YtpaakikgfojplaaGreat.hid L
    have Q2 := L.r2
    have c0 : w4.cell? ⟨w.heap.size, 0, none⟩ = some (.int .i64 p.epoch) := cell_of_cells (j := 0) L.r1 rfl
    have c1 : w4.cell? ⟨w.heap.size, 1, none⟩ = some (.int .i64 p.a) := cell_of_cells (j := 1) L.r1 rfl
    have c2 : w4.cell? ⟨w.heap.size, 2, none⟩ = some (.int .i64 p.b) := cell_of_cells (j := 2) L.r1 rfl
    have c3 : w4.cell? ⟨w.heap.size, 3, none⟩ = some (.int .i64 (p.stakes.length : Int)) := cell_of_cells (j := 3) L.r1 rfl
    have c4 : w4.cell? ⟨w.heap.size, 4, none⟩ = some (.int .i64 (total p)) := cell_of_cells (j := 4) L.r1 rfl
    clear L
    go_cut [] (fun wx => AfIn w wx p g N ⟨a0, ST, CT, RS, nonceIn p g EP, fun _ => 0, fun _ => 0⟩)
    case first =>
      go_wp2_with (refine wpList_load_row rfl 56 _ rfl (w.heap.size + 1) rfl 56 (pgA g) (0, 0) _ Q2 Tryz.underlying56 rfl hiP ?_)
      refine (nonceIn_is p g EP _ hp hg1).mono ?_
      rintro r w5 ⟨rfl, hb5⟩
      have L := HC.out.below hb5
      have n14 := cell_of_cells (j := 14) L.rN rfl
      have q14 := free_of_cells (j := 14) L.rN
      have HL := Go.Proofs.YtpaakikgfojplaaGreat.hid (L.set 14 (.int .i64 (nonceIn p g EP)) (G' := ⟨a0, ST, CT, RS, nonceIn p g EP, fun _ => 0, fun _ => 0⟩) rfl)
      clear hb5 L c0 c1 c2 c3 c4 Q2
      generalize nonceIn p g EP = NC at *
      go_wp2
      go_meet
      case rel => exact HL.out
    case rest =>
      clear c0 c1 c2 c3 c4 Q2 HC
      generalize hNC : nonceIn p g EP = NC at *
      have HC := Go.Proofs.YtpaakikgfojplaaGreat.hid hcut
      have Q2 := hcut.r2
      have c0 : wc.cell? ⟨w.heap.size, 0, none⟩ = some (.int .i64 p.epoch) := cell_of_cells (j := 0) hcut.r1 rfl
      have c1 : wc.cell? ⟨w.heap.size, 1, none⟩ = some (.int .i64 p.a) := cell_of_cells (j := 1) hcut.r1 rfl
      have c2 : wc.cell? ⟨w.heap.size, 2, none⟩ = some (.int .i64 p.b) := cell_of_cells (j := 2) hcut.r1 rfl
      have c3 : wc.cell? ⟨w.heap.size, 3, none⟩ = some (.int .i64 (p.stakes.length : Int)) := cell_of_cells (j := 3) hcut.r1 rfl
      have c4 : wc.cell? ⟨w.heap.size, 4, none⟩ = some (.int .i64 (total p)) := cell_of_cells (j := 4) hcut.r1 rfl
      clear hcut
      generalize wc = w5 at *
      go_upto_region 9 with fail
      go_cut [] (fun wx => AfIn w wx p g N ⟨a0, ST, CT, RS, NC, stakesIn p g (EP + 1), fun _ => 0⟩)
      case first =>
        go_wp2_with (refine wpList_load_row rfl 56 _ rfl (w.heap.size + 1) rfl 56 (pgA g) (0, 0) _ Q2 Tryz.underlying56 rfl hiP ?_)
        refine (stakesIn_is p g (EP + 1) _ hp hg1 ⟨by omega, by omega⟩).mono ?_
        rintro r w6 ⟨rfl, hb6⟩
        have L := HC.out.below hb6
        have n15 := cell_of_cells (j := 15) L.rN rfl
        have q15 := free_of_cells (j := 15) L.rN
        have n16 := cell_of_cells (j := 16) L.rN rfl
        have q16 := free_of_cells (j := 16) L.rN
        have n17 := cell_of_cells (j := 17) L.rN rfl
        have q17 := free_of_cells (j := 17) L.rN
        have n18 := cell_of_cells (j := 18) L.rN rfl
        have q18 := free_of_cells (j := 18) L.rN
        have n19 := cell_of_cells (j := 19) L.rN rfl
        have q19 := free_of_cells (j := 19) L.rN
        have n20 := cell_of_cells (j := 20) L.rN rfl
        have q20 := free_of_cells (j := 20) L.rN
        unfold arrV
        generalize stakesIn p g (EP + 1) = F1 at *
        have HL := Go.Proofs.YtpaakikgfojplaaGreat.hid (L.six (j0 := 15) (j1 := 16) (j2 := 17) (j3 := 18) (j4 := 19) (j5 := 20) (a0 := .int .i64 (F1 0)) (a1 := .int .i64 (F1 1)) (a2 := .int .i64 (F1 2)) (a3 := .int .i64 (F1 3)) (a4 := .int .i64 (F1 4)) (a5 := .int .i64 (F1 5)) (G' := ⟨a0, ST, CT, RS, NC, F1, fun _ => 0⟩) rfl)
        clear hb6 L c0 c1 c2 c3 c4 Q2
        go_wp2
        go_meet
        case rel => exact HL.out
      case rest =>
        clear c0 c1 c2 c3 c4 Q2 HC
        generalize hF1 : stakesIn p g (EP + 1) = F1 at *
        have HC := Go.Proofs.YtpaakikgfojplaaGreat.hid hcut
        have Q2 := hcut.r2
        have c0 : wc.cell? ⟨w.heap.size, 0, none⟩ = some (.int .i64 p.epoch) := cell_of_cells (j := 0) hcut.r1 rfl
        have c1 : wc.cell? ⟨w.heap.size, 1, none⟩ = some (.int .i64 p.a) := cell_of_cells (j := 1) hcut.r1 rfl
        have c2 : wc.cell? ⟨w.heap.size, 2, none⟩ = some (.int .i64 p.b) := cell_of_cells (j := 2) hcut.r1 rfl
        have c3 : wc.cell? ⟨w.heap.size, 3, none⟩ = some (.int .i64 (p.stakes.length : Int)) := cell_of_cells (j := 3) hcut.r1 rfl
        have c4 : wc.cell? ⟨w.heap.size, 4, none⟩ = some (.int .i64 (total p)) := cell_of_cells (j := 4) hcut.r1 rfl
        clear hcut
        generalize wc = w6 at *
        go_upto_region 10 with fail
        go_cut [] (fun wx => AfIn w wx p g N ⟨a0, ST, CT, RS, NC, F1, stakesIn p g EP⟩)
        case first =>
          go_wp2_with (refine wpList_load_row rfl 56 _ rfl (w.heap.size + 1) rfl 56 (pgA g) (0, 0) _ Q2 Tryz.underlying56 rfl hiP ?_)
          refine (stakesIn_is p g EP _ hp hg1 ⟨by omega, by omega⟩).mono ?_
          rintro r w7 ⟨rfl, hb7⟩
          have L := HC.out.below hb7
          have n21 := cell_of_cells (j := 21) L.rN rfl
          have q21 := free_of_cells (j := 21) L.rN
          have n22 := cell_of_cells (j := 22) L.rN rfl
          have q22 := free_of_cells (j := 22) L.rN
          have n23 := cell_of_cells (j := 23) L.rN rfl
          have q23 := free_of_cells (j := 23) L.rN
          have n24 := cell_of_cells (j := 24) L.rN rfl
          have q24 := free_of_cells (j := 24) L.rN
          have n25 := cell_of_cells (j := 25) L.rN rfl
          have q25 := free_of_cells (j := 25) L.rN
          have n26 := cell_of_cells (j := 26) L.rN rfl
          have q26 := free_of_cells (j := 26) L.rN
          unfold arrV
          generalize stakesIn p g EP = F2 at *
          have HL := Go.Proofs.YtpaakikgfojplaaGreat.hid (L.six (j0 := 21) (j1 := 22) (j2 := 23) (j3 := 24) (j4 := 25) (j5 := 26) (a0 := .int .i64 (F2 0)) (a1 := .int .i64 (F2 1)) (a2 := .int .i64 (F2 2)) (a3 := .int .i64 (F2 3)) (a4 := .int .i64 (F2 4)) (a5 := .int .i64 (F2 5)) (G' := ⟨a0, ST, CT, RS, NC, F1, F2⟩) rfl)
          clear hb7 L c0 c1 c2 c3 c4 Q2
          go_wp2
          go_meet
          case rel => exact HL.out
        case rest =>
          clear c0 c1 c2 c3 c4 Q2 HC
          generalize hF2 : stakesIn p g EP = F2 at *
          have QN := hcut.rN
          have Q4 := hcut.r4
          have HC := Go.Proofs.YtpaakikgfojplaaGreat.hid hcut
          clear hcut
          generalize wc = w7 at *
          go_wp2_with (first | refine wpList_load_row rfl 56 _ rfl N rfl 56 (pgA ⟨a0, ST, CT, RS, NC, F1, F2⟩) (0, 0) _ QN Tryz.underlying56 rfl (info_page _) ?_ | refine wpList_store_row rfl 56 _ _ rfl (w.heap.size + 3) (pgA ⟨a0, ST, CT, RS, NC, F1, F2⟩) rfl rfl 56 (pgA zeroP) Q4 (info_page _) rfl (pg_one _) ?_)
          refine bodyPost_ret (results_cell_row rfl _ _ (w.heap.size + 3) 56 (pgA ⟨a0, ST, CT, RS, NC, F1, F2⟩) (0, 0) _ rfl (setRow_heap _ _ _ _ _ _ Q4) Tryz.underlying56 rfl (info_page _)) rfl ⟨by rw [HR.out], Below.setRow HC.out.rB (by omega) _⟩

  · have hrs : RS = g.running := HRS.out.trans (if_neg hea)
    have hde : decide (3 * (a0 % p.epoch) < 2 * p.epoch) = false := decide_eq_false hea
    rw [hde]
    have HL : Hid (AfIn w w4 p g N ⟨a0, ST, CT, RS, 0, fun _ => 0, fun _ => 0⟩) := by rw [hrs]; exact L
    clear L L3 hrs HRS HAF HK3
    go_upto_region 8 with fail
    have L := HL.out
    clear HL
    have HC := Go.Proofs.YtpaakikgfojplaaGreat.hid L
    have Q2 := L.r2
    have c0 : w4.cell? ⟨w.heap.size, 0, none⟩ = some (.int .i64 p.epoch) := cell_of_cells (j := 0) L.r1 rfl
    have c1 : w4.cell? ⟨w.heap.size, 1, none⟩ = some (.int .i64 p.a) := cell_of_cells (j := 1) L.r1 rfl
    have c2 : w4.cell? ⟨w.heap.size, 2, none⟩ = some (.int .i64 p.b) := cell_of_cells (j := 2) L.r1 rfl
    have c3 : w4.cell? ⟨w.heap.size, 3, none⟩ = some (.int .i64 (p.stakes.length : Int)) := cell_of_cells (j := 3) L.r1 rfl
    have c4 : w4.cell? ⟨w.heap.size, 4, none⟩ = some (.int .i64 (total p)) := cell_of_cells (j := 4) L.r1 rfl
    clear L
    go_cut [] (fun wx => AfIn w wx p g N ⟨a0, ST, CT, RS, nonceIn p g EP, fun _ => 0, fun _ => 0⟩)
    case first =>
      go_wp2_with (refine wpList_load_row rfl 56 _ rfl (w.heap.size + 1) rfl 56 (pgA g) (0, 0) _ Q2 Tryz.underlying56 rfl hiP ?_)
      refine (nonceIn_is p g EP _ hp hg1).mono ?_
      rintro r w5 ⟨rfl, hb5⟩
      have L := HC.out.below hb5
      have n14 := cell_of_cells (j := 14) L.rN rfl
      have q14 := free_of_cells (j := 14) L.rN
      have HL := Go.Proofs.YtpaakikgfojplaaGreat.hid (L.set 14 (.int .i64 (nonceIn p g EP)) (G' := ⟨a0, ST, CT, RS, nonceIn p g EP, fun _ => 0, fun _ => 0⟩) rfl)
      clear hb5 L c0 c1 c2 c3 c4 Q2
      generalize nonceIn p g EP = NC at *
      go_wp2
      go_meet
      case rel => exact HL.out
    case rest =>
      clear c0 c1 c2 c3 c4 Q2 HC
      generalize hNC : nonceIn p g EP = NC at *
      have HC := Go.Proofs.YtpaakikgfojplaaGreat.hid hcut
      have Q2 := hcut.r2
      have c0 : wc.cell? ⟨w.heap.size, 0, none⟩ = some (.int .i64 p.epoch) := cell_of_cells (j := 0) hcut.r1 rfl
      have c1 : wc.cell? ⟨w.heap.size, 1, none⟩ = some (.int .i64 p.a) := cell_of_cells (j := 1) hcut.r1 rfl
      have c2 : wc.cell? ⟨w.heap.size, 2, none⟩ = some (.int .i64 p.b) := cell_of_cells (j := 2) hcut.r1 rfl
      have c3 : wc.cell? ⟨w.heap.size, 3, none⟩ = some (.int .i64 (p.stakes.length : Int)) := cell_of_cells (j := 3) hcut.r1 rfl
      have c4 : wc.cell? ⟨w.heap.size, 4, none⟩ = some (.int .i64 (total p)) := cell_of_cells (j := 4) hcut.r1 rfl
      clear hcut
      generalize wc = w5 at *
      go_upto_region 9 with fail
      go_cut [] (fun wx => AfIn w wx p g N ⟨a0, ST, CT, RS, NC, stakesIn p g (EP + 1), fun _ => 0⟩)
      case first =>
        go_wp2_with (refine wpList_load_row rfl 56 _ rfl (w.heap.size + 1) rfl 56 (pgA g) (0, 0) _ Q2 Tryz.underlying56 rfl hiP ?_)
        refine (stakesIn_is p g (EP + 1) _ hp hg1 ⟨by omega, by omega⟩).mono ?_
        rintro r w6 ⟨rfl, hb6⟩
        have L := HC.out.below hb6
        have n15 := cell_of_cells (j := 15) L.rN rfl
        have q15 := free_of_cells (j := 15) L.rN
        have n16 := cell_of_cells (j := 16) L.rN rfl
        have q16 := free_of_cells (j := 16) L.rN
        have n17 := cell_of_cells (j := 17) L.rN rfl
        have q17 := free_of_cells (j := 17) L.rN
        have n18 := cell_of_cells (j := 18) L.rN rfl
        have q18 := free_of_cells (j := 18) L.rN
        have n19 := cell_of_cells (j := 19) L.rN rfl
        have q19 := free_of_cells (j := 19) L.rN
        have n20 := cell_of_cells (j := 20) L.rN rfl
        have q20 := free_of_cells (j := 20) L.rN
        unfold arrV
        generalize stakesIn p g (EP + 1) = F1 at *
        have HL := Go.Proofs.YtpaakikgfojplaaGreat.hid (L.six (j0 := 15) (j1 := 16) (j2 := 17) (j3 := 18) (j4 := 19) (j5 := 20) (a0 := .int .i64 (F1 0)) (a1 := .int .i64 (F1 1)) (a2 := .int .i64 (F1 2)) (a3 := .int .i64 (F1 3)) (a4 := .int .i64 (F1 4)) (a5 := .int .i64 (F1 5)) (G' := ⟨a0, ST, CT, RS, NC, F1, fun _ => 0⟩) rfl)
        clear hb6 L c0 c1 c2 c3 c4 Q2
        go_wp2
        go_meet
        case rel => exact HL.out
      case rest =>
        clear c0 c1 c2 c3 c4 Q2 HC
        generalize hF1 : stakesIn p g (EP + 1) = F1 at *
        have HC := Go.Proofs.YtpaakikgfojplaaGreat.hid hcut
        have Q2 := hcut.r2
        have c0 : wc.cell? ⟨w.heap.size, 0, none⟩ = some (.int .i64 p.epoch) := cell_of_cells (j := 0) hcut.r1 rfl
        have c1 : wc.cell? ⟨w.heap.size, 1, none⟩ = some (.int .i64 p.a) := cell_of_cells (j := 1) hcut.r1 rfl
        have c2 : wc.cell? ⟨w.heap.size, 2, none⟩ = some (.int .i64 p.b) := cell_of_cells (j := 2) hcut.r1 rfl
        have c3 : wc.cell? ⟨w.heap.size, 3, none⟩ = some (.int .i64 (p.stakes.length : Int)) := cell_of_cells (j := 3) hcut.r1 rfl
        have c4 : wc.cell? ⟨w.heap.size, 4, none⟩ = some (.int .i64 (total p)) := cell_of_cells (j := 4) hcut.r1 rfl
        clear hcut
        generalize wc = w6 at *
        go_upto_region 10 with fail
        go_cut [] (fun wx => AfIn w wx p g N ⟨a0, ST, CT, RS, NC, F1, stakesIn p g EP⟩)
        case first =>
          go_wp2_with (refine wpList_load_row rfl 56 _ rfl (w.heap.size + 1) rfl 56 (pgA g) (0, 0) _ Q2 Tryz.underlying56 rfl hiP ?_)
          refine (stakesIn_is p g EP _ hp hg1 ⟨by omega, by omega⟩).mono ?_
          rintro r w7 ⟨rfl, hb7⟩
          have L := HC.out.below hb7
          have n21 := cell_of_cells (j := 21) L.rN rfl
          have q21 := free_of_cells (j := 21) L.rN
          have n22 := cell_of_cells (j := 22) L.rN rfl
          have q22 := free_of_cells (j := 22) L.rN
          have n23 := cell_of_cells (j := 23) L.rN rfl
          have q23 := free_of_cells (j := 23) L.rN
          have n24 := cell_of_cells (j := 24) L.rN rfl
          have q24 := free_of_cells (j := 24) L.rN
          have n25 := cell_of_cells (j := 25) L.rN rfl
          have q25 := free_of_cells (j := 25) L.rN
          have n26 := cell_of_cells (j := 26) L.rN rfl
          have q26 := free_of_cells (j := 26) L.rN
          unfold arrV
          generalize stakesIn p g EP = F2 at *
          have HL := Go.Proofs.YtpaakikgfojplaaGreat.hid (L.six (j0 := 21) (j1 := 22) (j2 := 23) (j3 := 24) (j4 := 25) (j5 := 26) (a0 := .int .i64 (F2 0)) (a1 := .int .i64 (F2 1)) (a2 := .int .i64 (F2 2)) (a3 := .int .i64 (F2 3)) (a4 := .int .i64 (F2 4)) (a5 := .int .i64 (F2 5)) (G' := ⟨a0, ST, CT, RS, NC, F1, F2⟩) rfl)
          clear hb7 L c0 c1 c2 c3 c4 Q2
          go_wp2
          go_meet
          case rel => exact HL.out
        case rest =>
          clear c0 c1 c2 c3 c4 Q2 HC
          generalize hF2 : stakesIn p g EP = F2 at *
          have QN := hcut.rN
          have Q4 := hcut.r4
          have HC := Go.Proofs.YtpaakikgfojplaaGreat.hid hcut
          clear hcut
          generalize wc = w7 at *
          go_wp2_with (first | refine wpList_load_row rfl 56 _ rfl N rfl 56 (pgA ⟨a0, ST, CT, RS, NC, F1, F2⟩) (0, 0) _ QN Tryz.underlying56 rfl (info_page _) ?_ | refine wpList_store_row rfl 56 _ _ rfl (w.heap.size + 3) (pgA ⟨a0, ST, CT, RS, NC, F1, F2⟩) rfl rfl 56 (pgA zeroP) Q4 (info_page _) rfl (pg_one _) ?_)
          refine bodyPost_ret (results_cell_row rfl _ _ (w.heap.size + 3) 56 (pgA ⟨a0, ST, CT, RS, NC, F1, F2⟩) (0, 0) _ rfl (setRow_heap _ _ _ _ _ _ Q4) Tryz.underlying56 rfl (info_page _)) rfl ⟨by rw [HR.out], Below.setRow HC.out.rB (by omega) _⟩

end Go.Proofs.YtpaakikgfojplaaGreat

