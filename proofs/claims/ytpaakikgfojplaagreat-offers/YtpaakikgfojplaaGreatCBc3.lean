import Derived.Test.YtpaakikgfojplaaGreatCM28
import Derived.Test.YtpaakikgfojplaaGreatCM12
import Derived.Test.YtpaakikgfojplaaGreatCM30
import Derived.Test.YtpaakikgfojplaaGreatCTr7
import Derived.Deep.WholeRow
/-
  THE PROGRAM's CHAIN: Offer.
-/
namespace Go.Proofs.YtpaakikgfojplaaGreat
open Go.RowKit Num Bk
set_option linter.unusedVariables false

def storePg (p v : Value) : Sem Unit := Instr.storeAt 56 p v
theorem storePg_eq (p v : Value) : Instr.storeAt 56 p v = storePg p v := rfl
def isPg (w : World) (b : Nat) : Bool := match w.heap[b]? with
  | some (.cells cs _ fr) => decide (cs.size = 27) && decide (fr = (0, 0))
  | _ => false
theorem isPg_of {w : World} {b : Nat} {cs : Array Value} {t : TypeId} (h : w.heap[b]? = some (.cells cs t (0, 0))) (hs : cs.size = 27) : isPg w b = true := by
  unfold isPg; rw [h]; simp [hs]
theorem run_storePg (w : World) (b : Nat) (g : Pg) (h : isPg w b = true) : (storePg (.pointer (some ⟨b, 0, none⟩)) (.agg (pgA g))).run Tryz.prog w = .ok () (w.setRow b (pgA g)) := by
  unfold isPg at h
  split at h
  · rename_i cs t fr hc
    simp only [Bool.and_eq_true, decide_eq_true_eq] at h
    obtain ⟨h1, h2⟩ := h
    subst h2
    unfold storePg
    simp only [Instr.storeAt, Instr.sureAddr, Sem.run_bind, Sem.run_pure, Result.andThen_ok]
    exact run_storeVar_row w b t 56 cs (pgA g) hc (info_page g) h1 (pg_one g)
  · simp at h

theorem row_cell {w : World} {b b' j : Nat} {cs : Array Value} (h : b ≠ b') : (w.setRow b' cs).cell? ⟨b, j, none⟩ = w.cell? ⟨b, j, none⟩ := cell_setRow_other w b' cs ⟨b, j, none⟩ h
theorem row_part {w : World} {b b' o n : Nat} {cs : Array Value} (h : b ≠ b') : okP (w.setRow b' cs) b o n = okP w b o n ∧ rdP (w.setRow b' cs) b o n = rdP w b o n := by
  have hc : ∀ j, (w.setRow b' cs).cell? ⟨b, o + j, none⟩ = w.cell? ⟨b, o + j, none⟩ := fun j => row_cell h
  unfold okP rdP
  simp only [hc]
  exact ⟨trivial, trivial⟩

theorem part_alloc {w : World} {B o n : Nat} (hB : B < w.heap.size) (ob : Obj) : okP (w.alloc ob) B o n = okP w B o n ∧ rdP (w.alloc ob) B o n = rdP w B o n :=
  part_keep (C := w.heap.size) ((Below.refl _ _).alloc (Nat.le_refl _) _) hB

theorem next_v (p : Par) (g : Pg) (h : Hdr) (w : World) (hp : ParOk p) (hg : PgOk p g) :
    Calls Tryz.prog 75 #[rulV p, pageV g, hdrV h] w fun r w' => r = .returned (.tuple #[.agg (pgA (nextV p g h)), .int .i64 (nextErr p g h)]) ∧ Below w.heap.size w w' := next_is p g h w hp hg

theorem chd_block {w w' : World} {x gk b : Nat} {pv : Value} {ps : List Nat} {p : Par} {acc : Int} {ns : List Nd} {past : List Nat} (h : Chd w w' x gk pv ps p acc ns past) (hb : b < w.heap.size) (h1 : b ≠ x) (h2 : b ≠ gk) (h3 : ∀ k, pv.ownBlock = some k → b ≠ k) : w'.heap[b]? = w.heap[b]? := by
  obtain ⟨_, _, _, _, hF, _, _⟩ := h
  exact hF.block b hb (by rintro (e | e | e); exact h1 e; exact h2 e; exact h3 b e rfl)

theorem left_offer {w w' W : World} {x gk ck : Nat} {pv : Value} {F : Nat → Prop} {s : St} {k : Nat} {h : Hdr} (hi : Inv s) (ha : Accept s k h) (hF : ∀ j, F j ↔ (j = x ∨ j = gk ∨ pv.ownBlock = some j)) (hb : Below w.heap.size w W)
    (hc : Chd W w' x gk pv s.pts s.par ((s.all.length : Int) - 1 + 1) (setN (s.keep.map (ndOf s.par s.all) ++ [newN s k h]) (line s.all (fin s)).dropLast s.par.depth.toNat (fin s)) (setP (s.keep.map (ndOf s.par s.all) ++ [newN s k h]) (line s.all (fin s)).dropLast s.par.depth.toNat (fin s))) : Left RepP w w' x F (taken s k h) := by
  obtain ⟨gk', ck', pv', hC, hFr, hg, hp⟩ := hc
  obtain ⟨e1, e2⟩ := rep_offer hi ha
  rw [e1, e2] at hC
  have hs := hb.size
  refine ⟨fun j => j = x ∨ j = gk' ∨ pv'.ownBlock = some j, ⟨gk', ck', pv', ⟨?_⟩, fun j => Iff.rfl⟩, ?_, ?_⟩
  · have : ((taken s k h).all.length : Int) - 1 = (s.all.length : Int) - 1 + 1 := by simp [taken]
    rw [this]
    exact hC
  · exact (Fr.of_below hb F (fun k h1 h2 => by omega)).trans' hFr (fun i _ h => (hF i).2 h)
  · rintro j (e | e | e)
    · exact Or.inl ((hF j).2 (Or.inl e))
    · rcases hg with h' | h'
      · exact Or.inl ((hF j).2 (Or.inr (Or.inl (e.trans h'))))
      · exact Or.inr (by omega)
    · rcases hp j e with h' | h'
      · exact Or.inl ((hF j).2 (Or.inr (Or.inr h')))
      · exact Or.inr (by omega)

theorem nextErr_ne (p : Par) (g : Pg) (h : Hdr) : nextErr p g h ≠ 10 := by
  rw [nextErr_eq]
  repeat' split
  all_goals first | decide | omega | (unfold proofErr; split <;> decide)

theorem rel_a {W w7 : World} {z : Array Value} {g : Pg} {B b0 : Nat} (hb : Below W.heap.size W w7) (hB : B < W.heap.size) (h0 : b0 < W.heap.size) (hne : b0 ≠ B) :
    ((w7.alloc (.cells z 56)).setRow w7.heap.size (pgA g)).heap[w7.heap.size]? = some (.cells (pgA g) 56 (0, 0)) ∧ ((w7.alloc (.cells z 56)).setRow w7.heap.size (pgA g)).heap[B]? = W.heap[B]? ∧ ((w7.alloc (.cells z 56)).setRow w7.heap.size (pgA g)).heap[b0]? = W.heap[b0]? ∧ b0 < w7.heap.size ∧ w7.heap.size ≠ B ∧ Below W.heap.size W ((w7.alloc (.cells z 56)).setRow w7.heap.size (pgA g)) := by
  obtain ⟨h1, h2, h3⟩ := row_new (w := w7) (z := z) (x := pgA g) (t := 56) rfl
  have hs := hb.size
  have hB2 := hb.trans (h2.mono hs)
  exact ⟨h3, hB2.block B hB, hB2.block b0 h0, by omega, by omega, hB2⟩
theorem rel_b {W w7 : World} {z : Array Value} {g : Pg} {B b0 : Nat} (hb : Below (W.alloc (.cells z 56)).heap.size (W.alloc (.cells z 56)) w7) (hB : B < W.heap.size) (h0 : b0 < W.heap.size) (hne : b0 ≠ B) :
    (w7.setRow W.heap.size (pgA g)).heap[W.heap.size]? = some (.cells (pgA g) 56 (0, 0)) ∧ (w7.setRow W.heap.size (pgA g)).heap[B]? = W.heap[B]? ∧ (w7.setRow W.heap.size (pgA g)).heap[b0]? = W.heap[b0]? ∧ b0 < W.heap.size ∧ W.heap.size ≠ B ∧ Below W.heap.size W (w7.setRow W.heap.size (pgA g)) := by
  obtain ⟨h1, h2, h3⟩ := below_of (w := W) (cs := z) (t := 56) rfl
  have h7 : w7.heap[W.heap.size]? = _ := (hb.block _ (lt_of_block h3)).trans h3
  have hB2 : Below W.heap.size W (w7.setRow W.heap.size (pgA g)) := Below.setRow (h2.trans (hb.mono (by omega))) (Nat.le_refl _) _
  exact ⟨setRow_heap _ _ _ _ _ _ h7, hB2.block B hB, hB2.block b0 h0, h0, by omega, hB2⟩

attribute [local go_sem ↓] loadPg_eq loadNd_eq storePg_eq
attribute [local go_sem] run_loadPg run_loadNd run_storePg

set_option maxHeartbeats 6400000 in
set_option maxRecDepth 1000000 in
theorem ptake_is (w : World) (x : Nat) (F : Nat → Prop) (s : St) (parent : Int) (h : Hdr) (hR : RepP w x F s) (hi : Inv s) :
    Calls Tryz.prog 47 #[.pointer (some ⟨x, 0, none⟩), .int .i64 parent, hdrV h] w fun e w' => e = .returned (.tuple #[.int .i64 (takeId s parent h), .int .i64 (offerErr s parent h)]) ∧ Left RepP w w' x F (offer s parent h) := by
  have HR := Go.Proofs.YtpaakikgfojplaaGreat.hid hR
  obtain ⟨gk, ck, pv, ⟨hr⟩, hF⟩ := hR
  have HF := Go.Proofs.YtpaakikgfojplaaGreat.hid hF
  have hks := keep_small hi
  have hls := line_small hi
  clear hF
  obtain ⟨a0, a1, a2, a3, a4, a5, a6⟩ := h
  generalize hOI : takeId s parent ⟨a0, a1, a2, a3, a4, a5, a6⟩ = OI at *
  generalize hOE : offerErr s parent ⟨a0, a1, a2, a3, a4, a5, a6⟩ = OE at *
  generalize hOS : offer s parent ⟨a0, a1, a2, a3, a4, a5, a6⟩ = OS at *
  have HOI := Go.Proofs.YtpaakikgfojplaaGreat.hid hOI
  have HOE := Go.Proofs.YtpaakikgfojplaaGreat.hid hOE
  have HOS := Go.Proofs.YtpaakikgfojplaaGreat.hid hOS
  clear hOI hOE hOS
  unfold hdrV
  simp only
  go_enter Tryz.func47, Tryz.ntmps47
  go_upto_region 1 with fail
  generalize hA : w.alloc (.cells #[.int .i64 a0, .int .i64 a1, .int .i64 a2, .int .i64 a3, .int .i64 a4, .int .i64 a5, .int .i64 a6] 40) = A at *
  obtain ⟨hsA, hbA, hAR⟩ := below_of hA
  clear hA
  have hrA := hr.keep hbA
  have hxw : w.heap.size < A.heap.size := by omega
  have hxl := hr.lts
  go_wp2_with fail
  refine (find_is x gk ck pv s.par _ _ _ parent A hrA (by omega) (by omega)).mono ?_
  rintro r w1 ⟨rfl, hb1⟩
  rw [findErr_map hi]
  have hr1 := hrA.keep hb1
  have hz1 : w1.heap[w.heap.size]? = _ := (hb1.block _ hxw).trans hAR
  have hs1 := hb1.size
  have hbw := hbA.trans (hb1.mono (by omega))
  clear hrA hAR hbA hb1 hsA
  unfold ndV
  rcases found hi parent with ⟨hm, k, rfl, hk, hf⟩ | ⟨hm, hf⟩
  · rw [hf, hm]
    simp only [Option.getD_some]
    have hkl := inv_lt hi hk
    have hgo := page_ok hi hkl
    have HND := Go.Proofs.YtpaakikgfojplaaGreat.hid (show (ndOf s.par s.all k).pg = pageOf s.par s.all k ∧ (ndOf s.par s.all k).id = (k : Int) ∧ (ndOf s.par s.all k).height = (height s.all k : Int) from ⟨rfl, rfl, rfl⟩)
    rw [← HND.out.1] at hgo
    clear hr hm hf
    generalize hn : ndOf s.par s.all k = n at *
    go_upto_region 2 with (refine wpList_store_row rfl 95 _ _ rfl w1.heap.size (ndA n) rfl rfl 95 (ndA zeroN) (heap_alloc_new w1 _) (info_nodeA _) rfl (nd_one _) ?_)
    generalize hW : (w1.alloc (.cells #[.int .i64 0, .int .i64 0, .int .i64 0, .int .i64 0, .int .i64 0, .int .i64 0, .int .i64 0, .int .i64 0, .int .i64 0, .int .i64 0, .int .i64 0, .int .i64 0, .int .i64 0, .int .i64 0, .int .i64 0, .int .i64 0, .int .i64 0, .int .i64 0, .int .i64 0, .int .i64 0, .int .i64 0, .int .i64 0, .int .i64 0, .int .i64 0, .int .i64 0, .int .i64 0, .int .i64 0, .int .i64 0, .int .i64 0, .int .i64 0, .int .i64 0, .int .i64 0, .int .i64 0, .int .i64 0, .int .i64 0, .int .i64 0, .int .i64 0] 95)).setRow w1.heap.size (ndA n) = W at *
    obtain ⟨hsW, hbW, hWR⟩ := row_new hW
    clear hW
    have hrW := hr1.keep hbW
    have hZW : W.heap[w.heap.size]? = _ := (hbW.block _ (by omega)).trans hz1
    have HBW := Go.Proofs.YtpaakikgfojplaaGreat.hid (hbw.trans (hbW.mono (by omega)))
    have hxW := hrW.lts.1
    have hBW := lt_of_block hWR
    have hB0 : w.heap.size < w1.heap.size := by omega
    generalize w1.heap.size = B at *
    have c0 : W.cell? ⟨x, 0, none⟩ = some (.int .i64 s.par.epoch) := cell_of_cells (j := 0) hrW.blk rfl
    have c1 : W.cell? ⟨x, 1, none⟩ = some (.int .i64 s.par.a) := cell_of_cells (j := 1) hrW.blk rfl
    have c2 : W.cell? ⟨x, 2, none⟩ = some (.int .i64 s.par.b) := cell_of_cells (j := 2) hrW.blk rfl
    have c3 : W.cell? ⟨x, 3, none⟩ = some (.int .i64 (s.par.stakes.length : Int)) := cell_of_cells (j := 3) hrW.blk rfl
    have c4 : W.cell? ⟨x, 4, none⟩ = some (.int .i64 (total s.par)) := cell_of_cells (j := 4) hrW.blk rfl
    have po := page_in hWR
    have pok := po.1
    have prd := po.2
    have h0W : w.heap.size < W.heap.size := by omega
    generalize hb0 : w.heap.size = b0 at *
    have f0 : W.cell? ⟨b0, 0, none⟩ = some (.int .i64 a0) := cell_of_cells (j := 0) hZW rfl
    have f1 : W.cell? ⟨b0, 1, none⟩ = some (.int .i64 a1) := cell_of_cells (j := 1) hZW rfl
    have f2 : W.cell? ⟨b0, 2, none⟩ = some (.int .i64 a2) := cell_of_cells (j := 2) hZW rfl
    have f3 : W.cell? ⟨b0, 3, none⟩ = some (.int .i64 a3) := cell_of_cells (j := 3) hZW rfl
    have f4 : W.cell? ⟨b0, 4, none⟩ = some (.int .i64 a4) := cell_of_cells (j := 4) hZW rfl
    have f5 : W.cell? ⟨b0, 5, none⟩ = some (.int .i64 a5) := cell_of_cells (j := 5) hZW rfl
    have f6 : W.cell? ⟨b0, 6, none⟩ = some (.int .i64 a6) := cell_of_cells (j := 6) hZW rfl
    have HWR := Go.Proofs.YtpaakikgfojplaaGreat.hid hWR
    have HZW := Go.Proofs.YtpaakikgfojplaaGreat.hid hZW
    have HRW := Go.Proofs.YtpaakikgfojplaaGreat.hid hrW
    clear hr1 hbW hWR hrW po hz1 hbw hZW
    have hpar := hi.par
    generalize hG : n.pg = G at *
    have pok2 : okP W.drew B 10 27 = true := pok
    have prd2 : rdP W.drew B 10 27 = pgA G := prd
    have pok4 : ∀ ob, okP (W.alloc ob).drew B 10 27 = true := fun ob => (part_alloc hBW ob).1.trans pok
    have prd4 : ∀ ob, rdP (W.alloc ob).drew B 10 27 = pgA G := fun ob => (part_alloc hBW ob).2.trans prd
    have d0 : ∀ ob, (W.alloc ob).cell? ⟨x, 0, none⟩ = some (.int .i64 s.par.epoch) := fun ob => (World.cell?_alloc_past _ _ _ hxW).trans c0
    have d1 : ∀ ob, (W.alloc ob).cell? ⟨x, 1, none⟩ = some (.int .i64 s.par.a) := fun ob => (World.cell?_alloc_past _ _ _ hxW).trans c1
    have d2 : ∀ ob, (W.alloc ob).cell? ⟨x, 2, none⟩ = some (.int .i64 s.par.b) := fun ob => (World.cell?_alloc_past _ _ _ hxW).trans c2
    have d3 : ∀ ob, (W.alloc ob).cell? ⟨x, 3, none⟩ = some (.int .i64 (s.par.stakes.length : Int)) := fun ob => (World.cell?_alloc_past _ _ _ hxW).trans c3
    have d4 : ∀ ob, (W.alloc ob).cell? ⟨x, 4, none⟩ = some (.int .i64 (total s.par)) := fun ob => (World.cell?_alloc_past _ _ _ hxW).trans c4
    have g0 : ∀ ob, (W.alloc ob).cell? ⟨b0, 0, none⟩ = some (.int .i64 a0) := fun ob => (World.cell?_alloc_past _ _ _ h0W).trans f0
    have g1 : ∀ ob, (W.alloc ob).cell? ⟨b0, 1, none⟩ = some (.int .i64 a1) := fun ob => (World.cell?_alloc_past _ _ _ h0W).trans f1
    have g2 : ∀ ob, (W.alloc ob).cell? ⟨b0, 2, none⟩ = some (.int .i64 a2) := fun ob => (World.cell?_alloc_past _ _ _ h0W).trans f2
    have g3 : ∀ ob, (W.alloc ob).cell? ⟨b0, 3, none⟩ = some (.int .i64 a3) := fun ob => (World.cell?_alloc_past _ _ _ h0W).trans f3
    have g4 : ∀ ob, (W.alloc ob).cell? ⟨b0, 4, none⟩ = some (.int .i64 a4) := fun ob => (World.cell?_alloc_past _ _ _ h0W).trans f4
    have g5 : ∀ ob, (W.alloc ob).cell? ⟨b0, 5, none⟩ = some (.int .i64 a5) := fun ob => (World.cell?_alloc_past _ _ _ h0W).trans f5
    have g6 : ∀ ob, (W.alloc ob).cell? ⟨b0, 6, none⟩ = some (.int .i64 a6) := fun ob => (World.cell?_alloc_past _ _ _ h0W).trans f6
    generalize hNV : nextV s.par G ⟨a0, a1, a2, a3, a4, a5, a6⟩ = NV at *
    generalize hNE : nextErr s.par G ⟨a0, a1, a2, a3, a4, a5, a6⟩ = NE at *
    have HNX : Hid (∀ w, Calls Tryz.prog 75 #[rulV s.par, pageV G, hdrV ⟨a0, a1, a2, a3, a4, a5, a6⟩] w fun r w' => r = .returned (.tuple #[.agg (pgA NV), .int .i64 NE]) ∧ Below w.heap.size w w') := fun w => by
      have := next_v s.par G ⟨a0, a1, a2, a3, a4, a5, a6⟩ w hpar hgo
      rw [hNV, hNE] at this
      exact this
    have rxW : ∀ (w : World) cs j, (w.setRow W.heap.size cs).cell? ⟨x, j, none⟩ = w.cell? ⟨x, j, none⟩ := fun w cs j => row_cell (Nat.ne_of_lt hxW)
    have r0W : ∀ (w : World) cs j, (w.setRow W.heap.size cs).cell? ⟨b0, j, none⟩ = w.cell? ⟨b0, j, none⟩ := fun w cs j => row_cell (Nat.ne_of_lt h0W)
    have roW : ∀ (w : World) cs, okP (w.setRow W.heap.size cs) B 10 27 = okP w B 10 27 := fun w cs => (row_part (Nat.ne_of_lt hBW)).1
    have rrW : ∀ (w : World) cs, rdP (w.setRow W.heap.size cs) B 10 27 = rdP w B 10 27 := fun w cs => (row_part (Nat.ne_of_lt hBW)).2
    go_upto_region 4 with fail
    go_cut [9, 10] (fun v9 v10 wx => ∃ B2, v9 = .int .i64 NE ∧ v10 = .pointer (some ⟨B2, 0, none⟩) ∧ wx.heap[B2]? = some (.cells (pgA NV) 56 (0, 0)) ∧ wx.heap[B]? = some (.cells (ndA n) 95 (0, 0)) ∧ wx.heap[b0]? = W.heap[b0]? ∧ b0 < B2 ∧ B2 ≠ B ∧ Below W.heap.size W wx)
    case first =>
      go_region_held3 (fun w' => w'.cell? ⟨x, 0, none⟩ = some (.int .i64 s.par.epoch) ∧ w'.cell? ⟨x, 1, none⟩ = some (.int .i64 s.par.a) ∧ w'.cell? ⟨x, 2, none⟩ = some (.int .i64 s.par.b) ∧ w'.cell? ⟨x, 3, none⟩ = some (.int .i64 (s.par.stakes.length : Int)) ∧ w'.cell? ⟨x, 4, none⟩ = some (.int .i64 (total s.par)) ∧ w'.cell? ⟨b0, 0, none⟩ = some (.int .i64 a0) ∧ w'.cell? ⟨b0, 1, none⟩ = some (.int .i64 a1) ∧ w'.cell? ⟨b0, 2, none⟩ = some (.int .i64 a2) ∧ w'.cell? ⟨b0, 3, none⟩ = some (.int .i64 a3) ∧ w'.cell? ⟨b0, 4, none⟩ = some (.int .i64 a4) ∧ w'.cell? ⟨b0, 5, none⟩ = some (.int .i64 a5) ∧ w'.cell? ⟨b0, 6, none⟩ = some (.int .i64 a6) ∧ okP w' B 10 27 = true ∧ rdP w' B 10 27 = pgA G) (go_keep) ((go_at_call 75; refine (HNX.out _).mono ?_; rintro e w7 ⟨rfl, hb7⟩; have m0 := (hb7.cell (p := ⟨x, 0, none⟩) (by first | exact hxW | exact Nat.lt_succ_of_lt hxW | (simp; omega))).trans (by first | exact c0 | exact d0 _); have m1 := (hb7.cell (p := ⟨x, 1, none⟩) (by first | exact hxW | exact Nat.lt_succ_of_lt hxW | (simp; omega))).trans (by first | exact c1 | exact d1 _); have m2 := (hb7.cell (p := ⟨x, 2, none⟩) (by first | exact hxW | exact Nat.lt_succ_of_lt hxW | (simp; omega))).trans (by first | exact c2 | exact d2 _); have m3 := (hb7.cell (p := ⟨x, 3, none⟩) (by first | exact hxW | exact Nat.lt_succ_of_lt hxW | (simp; omega))).trans (by first | exact c3 | exact d3 _); have m4 := (hb7.cell (p := ⟨x, 4, none⟩) (by first | exact hxW | exact Nat.lt_succ_of_lt hxW | (simp; omega))).trans (by first | exact c4 | exact d4 _); have mf0 := (hb7.cell (p := ⟨b0, 0, none⟩) (by first | exact h0W | exact Nat.lt_succ_of_lt h0W | (simp; omega))).trans (by first | exact f0 | exact g0 _); have mf1 := (hb7.cell (p := ⟨b0, 1, none⟩) (by first | exact h0W | exact Nat.lt_succ_of_lt h0W | (simp; omega))).trans (by first | exact f1 | exact g1 _); have mf2 := (hb7.cell (p := ⟨b0, 2, none⟩) (by first | exact h0W | exact Nat.lt_succ_of_lt h0W | (simp; omega))).trans (by first | exact f2 | exact g2 _); have mf3 := (hb7.cell (p := ⟨b0, 3, none⟩) (by first | exact h0W | exact Nat.lt_succ_of_lt h0W | (simp; omega))).trans (by first | exact f3 | exact g3 _); have mf4 := (hb7.cell (p := ⟨b0, 4, none⟩) (by first | exact h0W | exact Nat.lt_succ_of_lt h0W | (simp; omega))).trans (by first | exact f4 | exact g4 _); have mf5 := (hb7.cell (p := ⟨b0, 5, none⟩) (by first | exact h0W | exact Nat.lt_succ_of_lt h0W | (simp; omega))).trans (by first | exact f5 | exact g5 _); have mf6 := (hb7.cell (p := ⟨b0, 6, none⟩) (by first | exact h0W | exact Nat.lt_succ_of_lt h0W | (simp; omega))).trans (by first | exact f6 | exact g6 _); have mo : okP w7 B 10 27 = true := (part_keep hb7 (by first | exact hBW | exact Nat.lt_succ_of_lt hBW | (simp; omega))).1.trans (by first | exact pok | exact pok4 _); have mr : rdP w7 B 10 27 = pgA G := (part_keep hb7 (by first | exact hBW | exact Nat.lt_succ_of_lt hBW | (simp; omega))).2.trans (by first | exact prd | exact prd4 _); have hs7 := hb7.size; have hB7 : B < w7.heap.size := Nat.lt_of_lt_of_le (by first | exact hBW | exact Nat.lt_succ_of_lt hBW | (simp; omega)) hs7; have mo7 : ∀ ob, okP (w7.alloc ob) B 10 27 = true := fun ob => (part_alloc hB7 ob).1.trans mo; have mr7 : ∀ ob, rdP (w7.alloc ob) B 10 27 = pgA G := fun ob => (part_alloc hB7 ob).2.trans mr; have hp7 : isPg (w7.alloc (.cells #[.int .i64 0, .int .i64 0, .int .i64 0, .int .i64 0, .int .i64 0, .int .i64 0, .int .i64 0, .int .i64 0, .int .i64 0, .int .i64 0, .int .i64 0, .int .i64 0, .int .i64 0, .int .i64 0, .int .i64 0, .int .i64 0, .int .i64 0, .int .i64 0, .int .i64 0, .int .i64 0, .int .i64 0, .int .i64 0, .int .i64 0, .int .i64 0, .int .i64 0, .int .i64 0, .int .i64 0] 56)) w7.heap.size = true := isPg_of (heap_alloc_new w7 _) rfl; have hx7 : x ≠ w7.heap.size := Nat.ne_of_lt (Nat.lt_of_lt_of_le (by first | exact hxW | exact Nat.lt_succ_of_lt hxW | (simp; omega)) hs7); have h07 : b0 ≠ w7.heap.size := Nat.ne_of_lt (Nat.lt_of_lt_of_le (by first | exact h0W | exact Nat.lt_succ_of_lt h0W | (simp; omega)) hs7); have rx7 : ∀ (w : World) cs j, (w.setRow w7.heap.size cs).cell? ⟨x, j, none⟩ = w.cell? ⟨x, j, none⟩ := fun w cs j => row_cell hx7; have r07 : ∀ (w : World) cs j, (w.setRow w7.heap.size cs).cell? ⟨b0, j, none⟩ = w.cell? ⟨b0, j, none⟩ := fun w cs j => row_cell h07; have ro7 : ∀ (w : World) cs, okP (w.setRow w7.heap.size cs) B 10 27 = okP w B 10 27 := fun w cs => (row_part (Nat.ne_of_lt hB7)).1; have rr7 : ∀ (w : World) cs, rdP (w.setRow w7.heap.size cs) B 10 27 = rdP w B 10 27 := fun w cs => (row_part (Nat.ne_of_lt hB7)).2; (try (have hq7 : isPg w7 W.heap.size = true := isPg_of ((hb7.block W.heap.size (by show W.heap.size < (W.alloc _).heap.size; simp)).trans (heap_alloc_new W _)) rfl))))
      all_goals
        go_wp2
        go_meet
        case rel =>
          first
            | (obtain ⟨r1, r2, r3, r4, r5, r6⟩ := rel_a (z := #[.int .i64 0, .int .i64 0, .int .i64 0, .int .i64 0, .int .i64 0, .int .i64 0, .int .i64 0, .int .i64 0, .int .i64 0, .int .i64 0, .int .i64 0, .int .i64 0, .int .i64 0, .int .i64 0, .int .i64 0, .int .i64 0, .int .i64 0, .int .i64 0, .int .i64 0, .int .i64 0, .int .i64 0, .int .i64 0, .int .i64 0, .int .i64 0, .int .i64 0, .int .i64 0, .int .i64 0]) (g := NV) (show Below W.heap.size W w7 from ⟨hb7.os, hb7.tape, hb7.output, hb7.size, hb7.block⟩) hBW h0W (Nat.ne_of_lt hB0); exact ⟨w7.heap.size, rfl, rfl, r1, r2.trans HWR.out, r3, r4, r5, r6⟩)
            | (obtain ⟨r1, r2, r3, r4, r5, r6⟩ := rel_b (z := #[.int .i64 0, .int .i64 0, .int .i64 0, .int .i64 0, .int .i64 0, .int .i64 0, .int .i64 0, .int .i64 0, .int .i64 0, .int .i64 0, .int .i64 0, .int .i64 0, .int .i64 0, .int .i64 0, .int .i64 0, .int .i64 0, .int .i64 0, .int .i64 0, .int .i64 0, .int .i64 0, .int .i64 0, .int .i64 0, .int .i64 0, .int .i64 0, .int .i64 0, .int .i64 0, .int .i64 0]) (g := NV) (show Below (W.alloc _).heap.size (W.alloc _) w7 from ⟨hb7.os, hb7.tape, hb7.output, hb7.size, hb7.block⟩) hBW h0W (Nat.ne_of_lt hB0); exact ⟨W.heap.size, rfl, rfl, r1, r2.trans HWR.out, r3, r4, r5, r6⟩)
    case rest =>
      obtain ⟨B2, rfl, rfl, hP2, hN2, hZ2, hB20, hB2B, hb2⟩ := hcut
      have hZ3 := hZ2.trans HZW.out
      have hr2 := HRW.out.keep hb2
      have HB2 := Go.Proofs.YtpaakikgfojplaaGreat.hid (show Below w.heap.size w wc by rw [hb0]; exact HBW.out.trans (hb2.mono (by omega)))
      clear c0 c1 c2 c3 c4 d0 d1 d2 d3 d4 f0 f1 f2 f3 f4 f5 f6 g0 g1 g2 g3 g4 g5 g6 pok prd pok2 prd2 pok4 prd4 rxW r0W roW rrW hZ2
      by_cases hz : NE = 0
      · have hnx : nextErr s.par (pageOf s.par s.all k) ⟨a0, a1, a2, a3, a4, a5, a6⟩ = 0 := by rw [← HND.out.1, hNE, hz]
        have hnv : NV = afterPg s.par (pageOf s.par s.all k) ⟨a0, a1, a2, a3, a4, a5, a6⟩ := by
          rw [← hNV]
          unfold nextV
          rw [hNE, if_pos hz, HND.out.1]
        have hea := offerErr_add hi hk ⟨a0, a1, a2, a3, a4, a5, a6⟩ hnx
        have hnid := HND.out.2.1
        have hnht := HND.out.2.2
        have hzb : (NE != 0) = false := by simp [hz]
        have hr2d : ChAt wc.drew x gk ck pv s.pts s.par ((s.all.length : Int) - 1) (s.keep.map (ndOf s.par s.all)) (line s.all (fin s)).dropLast := ⟨hr2.blk, hr2.kep, hr2.pst⟩
        have hlm : (s.keep.map (ndOf s.par s.all)).length = s.keep.length := List.length_map ..
        have f0 := cell_of_cells (j := 0) hZ3 rfl
        have f1 := cell_of_cells (j := 1) hZ3 rfl
        have f2 := cell_of_cells (j := 2) hZ3 rfl
        have f3 := cell_of_cells (j := 3) hZ3 rfl
        have f4 := cell_of_cells (j := 4) hZ3 rfl
        have f5 := cell_of_cells (j := 5) hZ3 rfl
        have f6 := cell_of_cells (j := 6) hZ3 rfl
        have no1 := (node_at hN2).1
        have no2 := (node_at hN2).2
        have po1 := (page_at hP2).1
        have po2 := (page_at hP2).2
        have no1d : okP wc.drew B 0 37 = true := no1
        have no2d : rdP wc.drew B 0 37 = ndA n := no2
        have po1d : okP wc.drew B2 0 27 = true := po1
        have po2d : rdP wc.drew B2 0 27 = pgA NV := po2
        have HZ3 := Go.Proofs.YtpaakikgfojplaaGreat.hid hZ3
        have HN2 := Go.Proofs.YtpaakikgfojplaaGreat.hid hN2
        have HP2 := Go.Proofs.YtpaakikgfojplaaGreat.hid hP2
        have hlZ := lt_of_block hZ3
        have hlN := lt_of_block hN2
        have hlP := lt_of_block hP2
        by_cases hno : hasN (s.keep.map (ndOf s.par s.all)) (k : Int) ⟨a0, a1, a2, a3, a4, a5, a6⟩ = true ∨ s.par.room ≤ s.keep.length
        · have hoe : OE = (if hasN (s.keep.map (ndOf s.par s.all)) n.id ⟨a0, a1, a2, a3, a4, a5, a6⟩ = true then 10 else 11) := by
            rw [← HOE.out, hea, hnid]
            rcases hno with h | h
            · rw [if_pos h, if_pos h]
            · rw [if_pos h]
          have hne : OE ≠ 0 := by rw [hoe]; split <;> decide
          obtain ⟨ho1, ho2⟩ := offer_no (show offerErr s (k : Int) ⟨a0, a1, a2, a3, a4, a5, a6⟩ ≠ 0 by rw [HOE.out]; exact hne)
          have hos : OS = s := HOS.out.symm.trans ho1
          have hoi : OI = (if hasN (s.keep.map (ndOf s.par s.all)) n.id ⟨a0, a1, a2, a3, a4, a5, a6⟩ = true then twinN (s.keep.map (ndOf s.par s.all)) n.id ⟨a0, a1, a2, a3, a4, a5, a6⟩ else 0) := by
            refine HOI.out.symm.trans ?_
            unfold takeId
            rw [HOE.out, ho2, hoe, hnid, twinN_map (k : Int) ⟨a0, a1, a2, a3, a4, a5, a6⟩ (by omega)]
            by_cases e : hasN (s.keep.map (ndOf s.par s.all)) (k : Int) ⟨a0, a1, a2, a3, a4, a5, a6⟩ = true
            · rw [if_pos e, if_pos e, if_pos rfl]
            · rw [if_neg e, if_neg e, if_neg (by decide)]
          have HAD : Hid (Calls Tryz.prog 76 #[.pointer (some ⟨x, 5, none⟩), ndV n, hdrV ⟨a0, a1, a2, a3, a4, a5, a6⟩, pageV NV] wc.drew fun e w' => e = .returned (.tuple #[.int .i64 OI, .int .i64 OE]) ∧ Below wc.heap.size wc.drew w') := by
            have := add_no x gk ck pv s.par _ _ _ n ⟨a0, a1, a2, a3, a4, a5, a6⟩ NV wc.drew hr2d (by omega) (by rw [hnid, hlm]; exact hno)
            rw [← hoe, ← hoi] at this
            exact this
          clear hoi
          subst hos
          clear hea hno hoe hne ho1 ho2 hr2d hr2 hnx hnv HOE HOS HOI hZ3 hN2 hP2 hz
          go_wp2
          go_region_held3 (fun w' => w'.cell? ⟨b0, 0, none⟩ = some (.int .i64 a0) ∧ w'.cell? ⟨b0, 1, none⟩ = some (.int .i64 a1) ∧ w'.cell? ⟨b0, 2, none⟩ = some (.int .i64 a2) ∧ w'.cell? ⟨b0, 3, none⟩ = some (.int .i64 a3) ∧ w'.cell? ⟨b0, 4, none⟩ = some (.int .i64 a4) ∧ w'.cell? ⟨b0, 5, none⟩ = some (.int .i64 a5) ∧ w'.cell? ⟨b0, 6, none⟩ = some (.int .i64 a6) ∧ okP w' B 0 37 = true ∧ rdP w' B 0 37 = ndA n ∧ okP w' B2 0 27 = true ∧ rdP w' B2 0 27 = pgA NV) (go_keep) ((go_at_call 76; refine HAD.out.mono ?_; rintro e w8 ⟨rfl, hb8⟩; have kZ8 := (hb8.block b0 hlZ).trans HZ3.out; have kN8 := (hb8.block B hlN).trans HN2.out; have kP8 := (hb8.block B2 hlP).trans HP2.out; have mf0 := cell_of_cells (j := 0) kZ8 rfl; have mf1 := cell_of_cells (j := 1) kZ8 rfl; have mf2 := cell_of_cells (j := 2) kZ8 rfl; have mf3 := cell_of_cells (j := 3) kZ8 rfl; have mf4 := cell_of_cells (j := 4) kZ8 rfl; have mf5 := cell_of_cells (j := 5) kZ8 rfl; have mf6 := cell_of_cells (j := 6) kZ8 rfl; have mo1 := (node_at kN8).1; have mr1 := (node_at kN8).2; have mo2 := (page_at kP8).1; have mr2 := (page_at kP8).2))
          have HFIN := Go.Proofs.YtpaakikgfojplaaGreat.hid (HB2.out.drew.trans (hb8.mono HB2.out.size))
          go_wp2
          go_ret2
          exact ⟨rfl, left_same HR.out HFIN.out⟩
        · have hh : hasN (s.keep.map (ndOf s.par s.all)) n.id ⟨a0, a1, a2, a3, a4, a5, a6⟩ = false := by
            rw [hnid]
            cases e : hasN (s.keep.map (ndOf s.par s.all)) (k : Int) ⟨a0, a1, a2, a3, a4, a5, a6⟩
            · rfl
            · exact absurd (Or.inl e) hno
          have hroom : (s.keep.length : Int) < s.par.room := by
            have : ¬ s.par.room ≤ s.keep.length := fun e => hno (Or.inr e)
            omega
          have hoe0 : offerErr s (k : Int) ⟨a0, a1, a2, a3, a4, a5, a6⟩ = 0 := by
            rw [hea, if_neg (fun e => hno (Or.inl e)), if_neg (fun e => hno (Or.inr e))]
          obtain ⟨hacc, _, _⟩ := accept_of hoe0
          rw [Int.toNat_natCast] at hacc
          have hoe : OE = 0 := HOE.out.symm.trans hoe0
          have hoi : OI = (s.all.length : Int) - 1 + 1 := by
            rw [← HOI.out]; unfold takeId offerId; rw [if_neg (by rw [hoe0]; decide), if_pos hoe0]; omega
          have hos : OS = taken s k ⟨a0, a1, a2, a3, a4, a5, a6⟩ := by
            rw [← HOS.out]; unfold offer; rw [if_pos hoe0, Int.toNat_natCast]
          have hnew : addN ((s.all.length : Int) - 1) n ⟨a0, a1, a2, a3, a4, a5, a6⟩ NV = newN s k ⟨a0, a1, a2, a3, a4, a5, a6⟩ := by
            unfold addN newN
            rw [hnid, hnht, hnv]
            congr 1
            omega
          have hsm := all_small hi
          have hlen := hi.len
          have hhs := height_small hi hkl
          have hhead : ((s.keep.map (ndOf s.par s.all)).getD 0 zeroN).id = (fin s : Int) := by
            obtain ⟨l, hl⟩ := head_fin hi
            rw [hl]; rfl
          have HAD : Hid (Calls Tryz.prog 76 #[.pointer (some ⟨x, 5, none⟩), ndV n, hdrV ⟨a0, a1, a2, a3, a4, a5, a6⟩, pageV NV] wc.drew fun e w' => e = .returned (.tuple #[.int .i64 ((s.all.length : Int) - 1 + 1), .int .i64 0]) ∧ Chd wc.drew w' x gk pv s.pts s.par ((s.all.length : Int) - 1 + 1) (setN (s.keep.map (ndOf s.par s.all) ++ [newN s k ⟨a0, a1, a2, a3, a4, a5, a6⟩]) (line s.all (fin s)).dropLast s.par.depth.toNat (fin s)) (setP (s.keep.map (ndOf s.par s.all) ++ [newN s k ⟨a0, a1, a2, a3, a4, a5, a6⟩]) (line s.all (fin s)).dropLast s.par.depth.toNat (fin s))) := by
            have := add_yes x gk ck pv s.par _ _ _ n ⟨a0, a1, a2, a3, a4, a5, a6⟩ NV (fin s) wc.drew hr2d (by rw [hlm]; exact hroom) hi.par.r2 hks.2 (by omega) hi.par.d1 hi.par.d2 hhead (by omega) (by omega) (by rw [hnht]; omega) (by rw [hnht]; omega) hh
            rw [hnew] at this
            exact this
          have HAC := Go.Proofs.YtpaakikgfojplaaGreat.hid hacc
          obtain ⟨hx1, hx2, hx3⟩ := hxl
          have hz1 : b0 ≠ x := by omega
          have hz2 : b0 ≠ gk := by omega
          have hz3 : ∀ j, pv.ownBlock = some j → b0 ≠ j := fun j e => by have := hx3 j e; omega
          have hn1 : B ≠ x := by omega
          have hn2' : B ≠ gk := by omega
          have hn3 : ∀ j, pv.ownBlock = some j → B ≠ j := fun j e => by have := hx3 j e; omega
          have hp1 : B2 ≠ x := by omega
          have hp2 : B2 ≠ gk := by omega
          have hp3 : ∀ j, pv.ownBlock = some j → B2 ≠ j := fun j e => by have := hx3 j e; omega
          subst hos; subst hoi; subst hoe
          clear hea hno hr2d hr2 hnx hnv HOE HOS HOI hZ3 hN2 hP2 hz hh hroom hoe0 hacc hnew hhead
          generalize hAC : (s.all.length : Int) - 1 + 1 = AC at *
          go_wp2
          go_region_held3 (fun w' => w'.cell? ⟨b0, 0, none⟩ = some (.int .i64 a0) ∧ w'.cell? ⟨b0, 1, none⟩ = some (.int .i64 a1) ∧ w'.cell? ⟨b0, 2, none⟩ = some (.int .i64 a2) ∧ w'.cell? ⟨b0, 3, none⟩ = some (.int .i64 a3) ∧ w'.cell? ⟨b0, 4, none⟩ = some (.int .i64 a4) ∧ w'.cell? ⟨b0, 5, none⟩ = some (.int .i64 a5) ∧ w'.cell? ⟨b0, 6, none⟩ = some (.int .i64 a6) ∧ okP w' B 0 37 = true ∧ rdP w' B 0 37 = ndA n ∧ okP w' B2 0 27 = true ∧ rdP w' B2 0 27 = pgA NV) (go_keep) ((go_at_call 76; refine HAD.out.mono ?_; rintro e w8 ⟨rfl, hch⟩; have kZ8 := (chd_block hch hlZ hz1 hz2 hz3).trans HZ3.out; have kN8 := (chd_block hch hlN hn1 hn2' hn3).trans HN2.out; have kP8 := (chd_block hch hlP hp1 hp2 hp3).trans HP2.out; have mf0 := cell_of_cells (j := 0) kZ8 rfl; have mf1 := cell_of_cells (j := 1) kZ8 rfl; have mf2 := cell_of_cells (j := 2) kZ8 rfl; have mf3 := cell_of_cells (j := 3) kZ8 rfl; have mf4 := cell_of_cells (j := 4) kZ8 rfl; have mf5 := cell_of_cells (j := 5) kZ8 rfl; have mf6 := cell_of_cells (j := 6) kZ8 rfl; have mo1 := (node_at kN8).1; have mr1 := (node_at kN8).2; have mo2 := (page_at kP8).1; have mr2 := (page_at kP8).2))
          have HFIN := Go.Proofs.YtpaakikgfojplaaGreat.hid (left_offer (ck := ck) hi HAC.out HF.out HB2.out.drew (by rw [hAC]; exact hch))
          clear hch
          go_wp2
          go_ret2
          exact ⟨by rw [hAC]; rfl, HFIN.out⟩
      · have hnx : nextErr s.par (pageOf s.par s.all k) ⟨a0, a1, a2, a3, a4, a5, a6⟩ ≠ 0 := by rw [← HND.out.1, hNE]; exact hz
        have hoe : OE = NE := by rw [← HOE.out, offerErr_next hi hk ⟨a0, a1, a2, a3, a4, a5, a6⟩ hnx, ← HND.out.1, hNE]
        obtain ⟨ho1, ho2⟩ := offer_no (show offerErr s (k : Int) ⟨a0, a1, a2, a3, a4, a5, a6⟩ ≠ 0 by rw [HOE.out, hoe]; exact hz)
        have hos : OS = s := HOS.out.symm.trans ho1
        have hoi : OI = 0 := HOI.out.symm.trans (take_no ho2 (by rw [HOE.out, hoe, ← hNE]; exact nextErr_ne _ _ _))
        have hzb : (NE != 0) = true := by simp [hz]
        subst hos; subst hoi; subst hoe
        clear hnx ho1 ho2 HOE HOS HOI hr2 hZ3 hP2 hN2 hb2 HWR HZW HRW
        go_wp2
        go_ret2
        exact ⟨rfl, left_same HR.out HB2.out⟩
  · rw [hf]
    simp only [Option.getD_none]
    have hoe : OE = missing s parent := HOE.out.symm.trans (offerErr_miss ⟨a0, a1, a2, a3, a4, a5, a6⟩ hm)
    obtain ⟨ho1, ho2⟩ := offer_no (show offerErr s parent ⟨a0, a1, a2, a3, a4, a5, a6⟩ ≠ 0 by rw [HOE.out, hoe]; exact hm)
    have hos : OS = s := HOS.out.symm.trans ho1
    have hoi : OI = 0 := HOI.out.symm.trans (take_no ho2 (by rw [HOE.out, hoe]; unfold missing; split <;> (try split) <;> decide))
    have hmb : (missing s parent != 0) = true := by simp [hm]
    clear HOE HOS HOI hr hf ho1 ho2
    generalize hMM : missing s parent = MM at *
    subst hoe; subst hoi; subst hos
    go_upto_region 2 with (refine wpList_store_row rfl 95 _ _ rfl w1.heap.size (ndA zeroN) rfl rfl 95 (ndA zeroN) (heap_alloc_new w1 _) (info_nodeA _) rfl (nd_one _) ?_)
    generalize hW : (w1.alloc (.cells #[.int .i64 0, .int .i64 0, .int .i64 0, .int .i64 0, .int .i64 0, .int .i64 0, .int .i64 0, .int .i64 0, .int .i64 0, .int .i64 0, .int .i64 0, .int .i64 0, .int .i64 0, .int .i64 0, .int .i64 0, .int .i64 0, .int .i64 0, .int .i64 0, .int .i64 0, .int .i64 0, .int .i64 0, .int .i64 0, .int .i64 0, .int .i64 0, .int .i64 0, .int .i64 0, .int .i64 0, .int .i64 0, .int .i64 0, .int .i64 0, .int .i64 0, .int .i64 0, .int .i64 0, .int .i64 0, .int .i64 0, .int .i64 0, .int .i64 0] 95)).setRow w1.heap.size (ndA zeroN) = W at *
    obtain ⟨hsW, hbW, hWR⟩ := row_new hW
    have HBW := Go.Proofs.YtpaakikgfojplaaGreat.hid (hbw.trans (hbW.mono (by omega)))
    clear hW hr1 hbW hWR hz1 hbw
    go_wp2
    go_ret2
    exact ⟨rfl, left_same HR.out HBW.out⟩

set_option maxHeartbeats 3200000 in
set_option maxRecDepth 1000000 in
theorem poffer_is (w : World) (x : Nat) (F : Nat → Prop) (s : St) (parent : Int) (h : Hdr) (hR : RepP w x F s) (hi : Inv s) :
    Calls Tryz.prog 20 #[.pointer (some ⟨x, 0, none⟩), .int .i64 parent, hdrV h] w fun e w' => e = .returned (.tuple #[.int .i64 (offerId s parent h), .int .i64 (offerErr s parent h)]) ∧ Left RepP w w' x F (offer s parent h) := by
  have HTK := Go.Proofs.YtpaakikgfojplaaGreat.hid (fun (W : World) (hb : Below w.heap.size w W) => ptake_is W x F s parent h (hR.keep hb) hi)
  have HOI := Go.Proofs.YtpaakikgfojplaaGreat.hid (show offerId s parent h = (if offerErr s parent h = 0 then takeId s parent h else 0) by
    unfold takeId offerId
    split
    · rename_i e
      rw [if_neg (by rw [e]; decide)]
    · rfl)
  generalize offerId s parent h = OI at *
  generalize takeId s parent h = TI at *
  generalize offerErr s parent h = OE at *
  generalize offer s parent h = OS at *
  obtain ⟨a0, a1, a2, a3, a4, a5, a6⟩ := h
  unfold hdrV at HTK ⊢
  simp only at HTK ⊢
  go_enter Tryz.func20, Tryz.ntmps20
  go_wp2_with fail
  generalize hA : w.alloc (.cells #[.int .i64 a0, .int .i64 a1, .int .i64 a2, .int .i64 a3, .int .i64 a4, .int .i64 a5, .int .i64 a6] 40) = A at *
  obtain ⟨hsA, hbA, hAR⟩ := below_of hA
  clear hA
  refine (HTK.out A hbA).mono ?_
  rintro r w1 ⟨rfl, hL⟩
  have HL := Go.Proofs.YtpaakikgfojplaaGreat.hid (hL.from hbA)
  clear hL hbA hsA hAR HTK
  by_cases he : OE = 0
  · have hoi : OI = TI := HOI.out.trans (if_pos he)
    subst he; subst hoi
    clear HOI
    go_wp2
    go_ret2
    exact ⟨rfl, HL.out⟩
  · have hoi : OI = 0 := HOI.out.trans (if_neg he)
    have heb : (OE != 0) = true := by simp [he]
    subst hoi
    clear HOI
    go_wp2
    go_ret2
    exact ⟨rfl, HL.out⟩

end Go.Proofs.YtpaakikgfojplaaGreat

