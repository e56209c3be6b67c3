import Derived.Test.YtpaakikgfojplaaGreatCTr6
import Derived.Test.YtpaakikgfojplaaGreatCM17
/-
  Loads of whole pages and nodes in regions that draw: under one name each.
-/
namespace Go.Proofs.YtpaakikgfojplaaGreat
open Go.RowKit Num Bk
set_option linter.unusedVariables false

def rdP (w : World) (b o n : Nat) : Array Value := ((List.range n).map fun j => (w.cell? ⟨b, o + j, none⟩).getD undef).toArray
def okP (w : World) (b o n : Nat) : Bool := (List.range n).all fun j => (w.cell? ⟨b, o + j, none⟩).isSome

theorem range_rd {w : World} {b o n : Nat} (h : okP w b o n = true) : w.rangeAt b o (rdP w b o n).toList := by
  intro j v hv
  unfold okP at h
  rw [List.all_eq_true] at h
  unfold rdP at hv
  have hj : j < n := by have := (List.getElem?_eq_some_iff.1 hv).1; simpa using this
  have := h j (by simpa using hj)
  simp [hj] at hv
  rw [← hv]
  cases hc : w.cell? ⟨b, o + j, none⟩ with
  | none => rw [hc] at this; simp at this
  | some u => rfl
theorem rd_size (w : World) (b o n : Nat) : (rdP w b o n).size = n := by simp [rdP]

def loadPg (v : Value) : Sem Value := Instr.loadAt 56 v
def loadNd (v : Value) : Sem Value := Instr.loadAt 95 v
theorem loadPg_eq (v : Value) : Instr.loadAt 56 v = loadPg v := rfl
theorem loadNd_eq (v : Value) : Instr.loadAt 95 v = loadNd v := rfl

theorem run_loadPg (w : World) (b o : Nat) (h : okP w b o 27 = true) : (loadPg (.pointer (some ⟨b, o, none⟩))).run Tryz.prog w = .ok (.agg (rdP w b o 27)) w := by
  have := run_loadAt_mid (P := Tryz.prog) w b o 56 (rdP w b o 27).toList _ (range_rd h) Tryz.underlying56 rfl (by
    rw [Array.length_toList, rd_size]; kernel_rfl)
  simpa [loadPg] using this
theorem run_loadNd (w : World) (b o : Nat) (h : okP w b o 37 = true) : (loadNd (.pointer (some ⟨b, o, none⟩))).run Tryz.prog w = .ok (.agg (rdP w b o 37)) w := by
  have := run_loadAt_mid (P := Tryz.prog) w b o 95 (rdP w b o 37).toList _ (range_rd h) Tryz.underlying95 rfl (by
    rw [Array.length_toList, rd_size]; kernel_rfl)
  simpa [loadNd] using this

/-- A part of a block that is known whole. -/
theorem part_in {w : World} {B o n : Nat} {t : TypeId} {cs ps : Array Value} (h : w.heap[B]? = some (.cells cs t (0, 0))) (hp : ps.size = n) (hc : ∀ j, j < n → cs[o + j]? = ps[j]?) : okP w B o n = true ∧ rdP w B o n = ps := by
  have hcell : ∀ j (hj : j < n), w.cell? ⟨B, o + j, none⟩ = some (ps[j]'(by omega)) := fun j hj => cell_of_cells h (by rw [hc j hj, Array.getElem?_eq_getElem])
  constructor
  · unfold okP
    rw [List.all_eq_true]
    intro j hj
    rw [hcell j (by simpa using hj)]; rfl
  · unfold rdP
    apply Array.ext
    · simp [hp]
    · intro i h1 h2
      have hi : i < n := by simpa using h1
      simp [hcell i hi]
theorem page_in {w : World} {B : Nat} {n : Nd} (h : w.heap[B]? = some (.cells (ndA n) 95 (0, 0))) : okP w B 10 27 = true ∧ rdP w B 10 27 = pgA n.pg := by
  refine part_in h rfl ?_
  intro j _
  show (ndC n).toArray[10 + j]? = _
  rw [List.getElem?_toArray]
  unfold ndC
  rw [List.getElem?_append_right (by simp)]
  simp
theorem page_at {w : World} {B : Nat} {g : Pg} (h : w.heap[B]? = some (.cells (pgA g) 56 (0, 0))) : okP w B 0 27 = true ∧ rdP w B 0 27 = pgA g :=
  part_in h rfl (fun j _ => by rw [Nat.zero_add])
theorem node_at {w : World} {B : Nat} {n : Nd} (h : w.heap[B]? = some (.cells (ndA n) 95 (0, 0))) : okP w B 0 37 = true ∧ rdP w B 0 37 = ndA n :=
  part_in h rfl (fun j _ => by rw [Nat.zero_add])

theorem part_keep {w w' : World} {B o n C : Nat} (hb : Below C w w') (hB : B < C) : okP w' B o n = okP w B o n ∧ rdP w' B o n = rdP w B o n := by
  have hc : ∀ j, w'.cell? ⟨B, o + j, none⟩ = w.cell? ⟨B, o + j, none⟩ := fun j => hb.cell (p := ⟨B, o + j, none⟩) hB
  unfold okP rdP
  simp only [hc]
  exact ⟨trivial, trivial⟩

end Go.Proofs.YtpaakikgfojplaaGreat

/-
  THE WALKS of the program's tree: Look.
-/
namespace Go.Proofs.YtpaakikgfojplaaGreat
open Go.RowKit Num Bk
set_option linter.unusedVariables false

/-- What Look tells, by the node. -/
def bkA (h : Hdr) (q n : Int) : Array Value := #[.int .i64 h.slot, .int .i64 h.pool, .int .i64 h.proof, .int .i64 h.count, .int .i64 h.frm, .int .i64 h.dst, .int .i64 h.amount, .int .i64 q, .int .i64 n]
def lkA (o : Option Nd) : Array Value := match o with
  | none => bkA zeroH 0 0
  | some n => bkA n.hdr (if n.par = -1 then 0 else n.par) n.height
theorem info_blkA (h : Hdr) (q n : Int) : (Tryz.prog.info? 82).map (·.size) = some (bkA h q n).size := by
  show _ = some 9
  kernel_rfl
theorem bk_one (h : Hdr) (q n : Int) : (bkA h q n).all (·.oneCell') = true := all_oneCell_toArray (cs := (bkA h q n).toList) (by
  intro u hu
  simp only [bkA, List.mem_cons, List.not_mem_nil, or_false] at hu
  rcases hu with rfl | rfl | rfl | rfl | rfl | rfl | rfl | rfl | rfl <;> rfl)

set_option maxHeartbeats 3200000 in
set_option maxRecDepth 1000000 in
theorem tlook_is (x gk ck : Nat) (pv : Value) {ps : List Nat} (p : Par) (acc : Int) (ns : List Nd) (past : List Nat) (id : Int) (w : World) (hr : ChAt w x gk ck pv ps p acc ns past) (hl : ns.length ≤ 100) (hl2 : past.length ≤ 1000000) :
    Calls Tryz.prog 64 #[.pointer (some ⟨x, 5, none⟩), .int .i64 id] w fun e w' => e = .returned (.tuple #[.agg (lkA (findN ns id)), .int .i64 (findErr ns past id)]) ∧ Below w.heap.size w w' := by
  go_enter Tryz.func64, Tryz.ntmps64
  go_wp2_with fail
  generalize hA : w.alloc (.cells #[.int .i64 0, .int .i64 0, .int .i64 0, .int .i64 0, .int .i64 0, .int .i64 0, .int .i64 0, .int .i64 0, .int .i64 0] 82) = A at *
  obtain ⟨hsA, hbA, hAR⟩ := below_of hA
  clear hA
  refine (find_is x gk ck pv p acc ns past id A (hr.keep hbA) hl hl2).mono ?_
  rintro r w1 ⟨rfl, hb1⟩
  unfold ndV
  have hb1s := hb1.size
  have hR1 := (hb1.block w.heap.size (by omega)).trans hAR
  have hbw1 := hbA.trans (hb1.mono (by omega))
  clear hAR hb1 hbA hr
  generalize hFE : findErr ns past id = FE at *
  cases hf : findN ns id with
  | none =>
    have hne : FE ≠ 0 := by
      rw [← hFE, findN_none hf]; split <;> decide
    have hmb : (FE != 0) = true := by simp [hne]
    rw [show (none : Option Nd).getD zeroN = zeroN from rfl]
    go_upto_region 2 with (refine wpList_store_row rfl 95 _ _ rfl w1.heap.size (ndA zeroN) rfl rfl 95 (ndA zeroN) (heap_alloc_new w1 _) (info_nodeA _) rfl (nd_one _) ?_)
    generalize hW : (w1.alloc (.cells #[.int .i64 0, .int .i64 0, .int .i64 0, .int .i64 0, .int .i64 0, .int .i64 0, .int .i64 0, .int .i64 0, .int .i64 0, .int .i64 0, .int .i64 0, .int .i64 0, .int .i64 0, .int .i64 0, .int .i64 0, .int .i64 0, .int .i64 0, .int .i64 0, .int .i64 0, .int .i64 0, .int .i64 0, .int .i64 0, .int .i64 0, .int .i64 0, .int .i64 0, .int .i64 0, .int .i64 0, .int .i64 0, .int .i64 0, .int .i64 0, .int .i64 0, .int .i64 0, .int .i64 0, .int .i64 0, .int .i64 0, .int .i64 0, .int .i64 0] 95)).setRow w1.heap.size (ndA zeroN) = W at *
    obtain ⟨hsW, hbW, hWR⟩ := row_new hW
    clear hW
    have hRW : W.heap[w.heap.size]? = some (.cells (bkA zeroH 0 0) 82 (0, 0)) := (hbW.block _ (by omega)).trans hR1
    have HRW := Go.Proofs.YtpaakikgfojplaaGreat.hid hRW
    have HBW := Go.Proofs.YtpaakikgfojplaaGreat.hid (hbw1.trans (hbW.mono (by omega)))
    clear hWR hbW hR1 hbw1 hRW
    go_wp2_with (refine wpList_store_row rfl 82 _ _ rfl w.heap.size (bkA zeroH 0 0) rfl rfl 82 (bkA zeroH 0 0) HRW.out (info_blkA _ _ _) rfl (bk_one _ _ _) ?_)
    refine bodyPost_ret (results_ct rfl _ _ _ w.heap.size 82 (bkA zeroH 0 0) (0, 0) _ rfl (setRow_heap _ _ _ _ _ _ HRW.out) rfl Tryz.underlying82 (info_blkA _ _ _)) rfl ⟨by rw [hf, hFE]; rfl, Below.setRow HBW.out (Nat.le_refl _) _⟩
  | some n =>
    have hfe : FE = 0 := by rw [← hFE, findN_some hf]
    rw [hfe] at hFE
    subst hfe
    rw [show (some n : Option Nd).getD zeroN = n from rfl]
    go_upto_region 2 with (refine wpList_store_row rfl 95 _ _ rfl w1.heap.size (ndA n) rfl rfl 95 (ndA zeroN) (heap_alloc_new w1 _) (info_nodeA _) rfl (nd_one _) ?_)
    generalize hW : (w1.alloc (.cells #[.int .i64 0, .int .i64 0, .int .i64 0, .int .i64 0, .int .i64 0, .int .i64 0, .int .i64 0, .int .i64 0, .int .i64 0, .int .i64 0, .int .i64 0, .int .i64 0, .int .i64 0, .int .i64 0, .int .i64 0, .int .i64 0, .int .i64 0, .int .i64 0, .int .i64 0, .int .i64 0, .int .i64 0, .int .i64 0, .int .i64 0, .int .i64 0, .int .i64 0, .int .i64 0, .int .i64 0, .int .i64 0, .int .i64 0, .int .i64 0, .int .i64 0, .int .i64 0, .int .i64 0, .int .i64 0, .int .i64 0, .int .i64 0, .int .i64 0] 95)).setRow w1.heap.size (ndA n) = W at *
    obtain ⟨hsW, hbW, hWR⟩ := row_new hW
    clear hW
    have hRW : W.heap[w.heap.size]? = some (.cells (bkA zeroH 0 0) 82 (0, 0)) := (hbW.block _ (by omega)).trans hR1
    have HRW := Go.Proofs.YtpaakikgfojplaaGreat.hid hRW
    have HBW := Go.Proofs.YtpaakikgfojplaaGreat.hid (hbw1.trans (hbW.mono (by omega)))
    have hwW : w.heap.size < W.heap.size := lt_of_block hRW
    generalize w1.heap.size = B at *
    have n1 : W.cell? ⟨B, 1, none⟩ = some (.int .i64 n.par) := cell_of_cells (j := 1) hWR rfl
    have n2 : W.cell? ⟨B, 2, none⟩ = some (.int .i64 n.height) := cell_of_cells (j := 2) hWR rfl
    have n3 : W.cell? ⟨B, 3, none⟩ = some (.int .i64 n.hdr.slot) := cell_of_cells (j := 3) hWR rfl
    have n4 : W.cell? ⟨B, 4, none⟩ = some (.int .i64 n.hdr.pool) := cell_of_cells (j := 4) hWR rfl
    have n5 : W.cell? ⟨B, 5, none⟩ = some (.int .i64 n.hdr.proof) := cell_of_cells (j := 5) hWR rfl
    have n6 : W.cell? ⟨B, 6, none⟩ = some (.int .i64 n.hdr.count) := cell_of_cells (j := 6) hWR rfl
    have n7 : W.cell? ⟨B, 7, none⟩ = some (.int .i64 n.hdr.frm) := cell_of_cells (j := 7) hWR rfl
    have n8 : W.cell? ⟨B, 8, none⟩ = some (.int .i64 n.hdr.dst) := cell_of_cells (j := 8) hWR rfl
    have n9 : W.cell? ⟨B, 9, none⟩ = some (.int .i64 n.hdr.amount) := cell_of_cells (j := 9) hWR rfl
    have hBW := lt_of_block hWR
    have HF := Go.Proofs.YtpaakikgfojplaaGreat.hid (show lkA (findN ns id) = bkA n.hdr (if n.par = -1 then 0 else n.par) n.height by rw [hf]; rfl)
    clear hWR hbW hR1 hbw1 hRW hf
    obtain ⟨ni, np', nh, ⟨h0, h1, h2, h3, h4, h5, h6⟩, ng⟩ := n
    by_cases hp : np' = -1
    · have hpb : (np' == -1) = true := by simp [hp]
      go_upto_region 7 with fail
      generalize hV : W.alloc (.cells #[.int .i64 h0, .int .i64 h1, .int .i64 h2, .int .i64 h3, .int .i64 h4, .int .i64 h5, .int .i64 h6, .int .i64 0, .int .i64 nh] 82) = V at *
      obtain ⟨hsV, hbV, hVR⟩ := below_of hV
      clear hV
      have HVR : Hid (V.heap[W.heap.size]? = some (.cells (bkA ⟨h0, h1, h2, h3, h4, h5, h6⟩ 0 nh) 82 (0, 0))) := hVR
      have HRV : Hid (V.heap[w.heap.size]? = some (.cells (bkA zeroH 0 0) 82 (0, 0))) := (hbV.block _ hwW).trans HRW.out
      have HBV := Go.Proofs.YtpaakikgfojplaaGreat.hid (HBW.out.trans (hbV.mono (by omega)))
      have HF2 : Hid (lkA (findN ns id) = bkA ⟨h0, h1, h2, h3, h4, h5, h6⟩ 0 nh) := by
        have := HF.out
        simp only [hp, if_pos] at this
        exact this
      clear hVR hbV n1 n2 n3 n4 n5 n6 n7 n8 n9 HF HRW HBW
      go_wp2_with (first | refine wpList_load_row rfl 82 _ rfl W.heap.size rfl 82 (bkA ⟨h0, h1, h2, h3, h4, h5, h6⟩ 0 nh) (0, 0) _ HVR.out Tryz.underlying82 rfl (info_blkA _ _ _) ?_ | refine wpList_store_row rfl 82 _ _ rfl w.heap.size (bkA ⟨h0, h1, h2, h3, h4, h5, h6⟩ 0 nh) rfl rfl 82 (bkA zeroH 0 0) HRV.out (info_blkA _ _ _) rfl (bk_one _ _ _) ?_)
      refine bodyPost_ret (results_ct rfl _ _ _ w.heap.size 82 (bkA ⟨h0, h1, h2, h3, h4, h5, h6⟩ 0 nh) (0, 0) _ rfl (setRow_heap _ _ _ _ _ _ HRV.out) rfl Tryz.underlying82 (info_blkA _ _ _)) rfl ⟨by rw [HF2.out, hFE]; rfl, Below.setRow HBV.out (Nat.le_refl _) _⟩
    · have hpb : (np' == -1) = false := by simp [hp]
      go_upto_region 7 with fail
      generalize hV : W.alloc (.cells #[.int .i64 h0, .int .i64 h1, .int .i64 h2, .int .i64 h3, .int .i64 h4, .int .i64 h5, .int .i64 h6, .int .i64 np', .int .i64 nh] 82) = V at *
      obtain ⟨hsV, hbV, hVR⟩ := below_of hV
      clear hV
      have HVR : Hid (V.heap[W.heap.size]? = some (.cells (bkA ⟨h0, h1, h2, h3, h4, h5, h6⟩ np' nh) 82 (0, 0))) := hVR
      have HRV : Hid (V.heap[w.heap.size]? = some (.cells (bkA zeroH 0 0) 82 (0, 0))) := (hbV.block _ hwW).trans HRW.out
      have HBV := Go.Proofs.YtpaakikgfojplaaGreat.hid (HBW.out.trans (hbV.mono (by omega)))
      have HF2 : Hid (lkA (findN ns id) = bkA ⟨h0, h1, h2, h3, h4, h5, h6⟩ np' nh) := by
        have := HF.out
        simp only [if_neg hp] at this
        exact this
      clear hVR hbV n1 n2 n3 n4 n5 n6 n7 n8 n9 HF HRW HBW
      go_wp2_with (first | refine wpList_load_row rfl 82 _ rfl W.heap.size rfl 82 (bkA ⟨h0, h1, h2, h3, h4, h5, h6⟩ np' nh) (0, 0) _ HVR.out Tryz.underlying82 rfl (info_blkA _ _ _) ?_ | refine wpList_store_row rfl 82 _ _ rfl w.heap.size (bkA ⟨h0, h1, h2, h3, h4, h5, h6⟩ np' nh) rfl rfl 82 (bkA zeroH 0 0) HRV.out (info_blkA _ _ _) rfl (bk_one _ _ _) ?_)
      refine bodyPost_ret (results_ct rfl _ _ _ w.heap.size 82 (bkA ⟨h0, h1, h2, h3, h4, h5, h6⟩ np' nh) (0, 0) _ rfl (setRow_heap _ _ _ _ _ _ HRV.out) rfl Tryz.underlying82 (info_blkA _ _ _)) rfl ⟨by rw [HF2.out, hFE]; rfl, Below.setRow HBV.out (Nat.le_refl _) _⟩

end Go.Proofs.YtpaakikgfojplaaGreat

