import Derived.Test.YtgeihfmhbifleaaCTr6
import Derived.Test.YtgeihfmhbifleaaCM15
import Derived.Test.YtgeihfmhbifleaaCMade
/-
  Loads of whole pages and nodes in regions that draw: under one name each.
-/
namespace Go.Proofs.Ytgeihfmhbifleaa
open Go.RowKit Num Bk
set_option linter.unusedVariables false

def rdP (w : World) (b o n : Nat) : Array Value := ((List.range n).map fun j => (w.cell? ⟨b, o + j, none⟩).getD undef).toArray
def okP (w : World) (b o n : Nat) : Bool := (List.range n).all fun j => (w.cell? ⟨b, o + j, none⟩).isSome

theorem range_rd {w : World} {b o n : Nat} (h : okP w b o n = true) : w.rangeAt b o (rdP w b o n).toList := by
  intro j v hv
  unfold okP at h
  rw [List.all_eq_true] at h
  unfold rdP at hv
  have hj : j < n := by have := (List.getElem?_eq_some_iff.1 hv).1; simpa using this
  have := h j (by simpa using hj)
  simp [hj] at hv
  rw [← hv]
  cases hc : w.cell? ⟨b, o + j, none⟩ with
  | none => rw [hc] at this; simp at this
  | some u => rfl
theorem rd_size (w : World) (b o n : Nat) : (rdP w b o n).size = n := by simp [rdP]

def loadPg (v : Value) : Sem Value := Instr.loadAt 79 v
def loadNd (v : Value) : Sem Value := Instr.loadAt 81 v
theorem loadPg_eq (v : Value) : Instr.loadAt 79 v = loadPg v := rfl
theorem loadNd_eq (v : Value) : Instr.loadAt 81 v = loadNd v := rfl

theorem run_loadPg (w : World) (b o : Nat) (h : okP w b o 27 = true) : (loadPg (.pointer (some ⟨b, o, none⟩))).run Try.prog w = .ok (.agg (rdP w b o 27)) w := by
  have := run_loadAt_mid (P := Try.prog) w b o 79 (rdP w b o 27).toList _ (range_rd h) Try.underlying79 rfl (by
    rw [Array.length_toList, rd_size]; kernel_rfl)
  simpa [loadPg] using this
theorem run_loadNd (w : World) (b o : Nat) (h : okP w b o 37 = true) : (loadNd (.pointer (some ⟨b, o, none⟩))).run Try.prog w = .ok (.agg (rdP w b o 37)) w := by
  have := run_loadAt_mid (P := Try.prog) w b o 81 (rdP w b o 37).toList _ (range_rd h) Try.underlying81 rfl (by
    rw [Array.length_toList, rd_size]; kernel_rfl)
  simpa [loadNd] using this

/-- A part of a block that is known whole. -/
theorem part_in {w : World} {B o n : Nat} {t : TypeId} {cs ps : Array Value} (h : w.heap[B]? = some (.cells cs t (0, 0))) (hp : ps.size = n) (hc : ∀ j, j < n → cs[o + j]? = ps[j]?) : okP w B o n = true ∧ rdP w B o n = ps := by
  have hcell : ∀ j (hj : j < n), w.cell? ⟨B, o + j, none⟩ = some (ps[j]'(by omega)) := fun j hj => cell_of_cells h (by rw [hc j hj, Array.getElem?_eq_getElem])
  constructor
  · unfold okP
    rw [List.all_eq_true]
    intro j hj
    rw [hcell j (by simpa using hj)]; rfl
  · unfold rdP
    apply Array.ext
    · simp [hp]
    · intro i h1 h2
      have hi : i < n := by simpa using h1
      simp [hcell i hi]
theorem page_in {w : World} {B : Nat} {n : Nd} (h : w.heap[B]? = some (.cells (ndA n) 81 (0, 0))) : okP w B 10 27 = true ∧ rdP w B 10 27 = pgA n.pg := by
  refine part_in h rfl ?_
  intro j _
  show (ndC n).toArray[10 + j]? = _
  rw [List.getElem?_toArray]
  unfold ndC
  rw [List.getElem?_append_right (by simp)]
  simp
theorem page_at {w : World} {B : Nat} {g : Pg} (h : w.heap[B]? = some (.cells (pgA g) 79 (0, 0))) : okP w B 0 27 = true ∧ rdP w B 0 27 = pgA g :=
  part_in h rfl (fun j _ => by rw [Nat.zero_add])
theorem node_at {w : World} {B : Nat} {n : Nd} (h : w.heap[B]? = some (.cells (ndA n) 81 (0, 0))) : okP w B 0 37 = true ∧ rdP w B 0 37 = ndA n :=
  part_in h rfl (fun j _ => by rw [Nat.zero_add])

theorem part_keep {w w' : World} {B o n C : Nat} (hb : Below C w w') (hB : B < C) : okP w' B o n = okP w B o n ∧ rdP w' B o n = rdP w B o n := by
  have hc : ∀ j, w'.cell? ⟨B, o + j, none⟩ = w.cell? ⟨B, o + j, none⟩ := fun j => hb.cell (p := ⟨B, o + j, none⟩) hB
  unfold okP rdP
  simp only [hc]
  exact ⟨trivial, trivial⟩

end Go.Proofs.Ytgeihfmhbifleaa

/-
  THE WALKS of the program's tree: Look.
-/
namespace Go.Proofs.Ytgeihfmhbifleaa
open Go.RowKit Num Bk
set_option linter.unusedVariables false

/-- What Look tells, by the node. -/
def bkA (h : Hdr) (q n : Int) : Array Value := #[.int .i64 h.slot, .int .i64 h.pool, .int .i64 h.proof, .int .i64 h.count, .int .i64 h.frm, .int .i64 h.dst, .int .i64 h.amount, .int .i64 q, .int .i64 n]
def lkA (o : Option Nd) : Array Value := match o with
  | none => bkA zeroH 0 0
  | some n => bkA n.hdr (if n.par = -1 then 0 else n.par) n.height
theorem info_blkA (h : Hdr) (q n : Int) : (Try.prog.info? 105).map (·.size) = some (bkA h q n).size := by
  show _ = some 9
  kernel_rfl
theorem bk_one (h : Hdr) (q n : Int) : (bkA h q n).all (·.oneCell') = true := all_oneCell_toArray (cs := (bkA h q n).toList) (by
  intro u hu
  simp only [bkA, List.mem_cons, List.not_mem_nil, or_false] at hu
  rcases hu with rfl | rfl | rfl | rfl | rfl | rfl | rfl | rfl | rfl <;> rfl)

set_option maxHeartbeats 3200000 in
set_option maxRecDepth 1000000 in
theorem tlook_is (x gk ck : Nat) (pv : Value) (p : Par) (acc : Int) (ns : List Nd) (past : List Nat) (id : Int) (w : World) (hr : ChAt w x gk ck pv p acc ns past) (hl : ns.length ≤ 100) (hl2 : past.length ≤ 1000000) :
    Calls Try.prog 83 #[.pointer (some ⟨x, 5, none⟩), .int .i64 id] w fun e w' => e = .returned (.tuple #[.agg (lkA (findN ns id)), .int .i64 (findErr ns past id)]) ∧ Below w.heap.size w w' := by
  go_enter Try.func83, Try.ntmps83
  go_wp2_with fail
  generalize hA : w.alloc (.cells #[.int .i64 0, .int .i64 0, .int .i64 0, .int .i64 0, .int .i64 0, .int .i64 0, .int .i64 0, .int .i64 0, .int .i64 0] 105) = A at *
  obtain ⟨hsA, hbA, hAR⟩ := below_of hA
  clear hA
  refine (find_is x gk ck pv p acc ns past id A (hr.keep hbA) hl hl2).mono ?_
  rintro r w1 ⟨rfl, hb1⟩
  unfold ndV
  have hb1s := hb1.size
  have hR1 := (hb1.block w.heap.size (by omega)).trans hAR
  have hbw1 := hbA.trans (hb1.mono (by omega))
  clear hAR hb1 hbA hr
  generalize hFE : findErr ns past id = FE at *
  cases hf : findN ns id with
  | none =>
    have hne : FE ≠ 0 := by
      rw [← hFE, findN_none hf]; split <;> decide
    have hmb : (FE != 0) = true := by simp [hne]
    rw [show (none : Option Nd).getD zeroN = zeroN from rfl]
    go_upto_region 2 with (refine wpList_store_row rfl 81 _ _ rfl w1.heap.size (ndA zeroN) rfl rfl 81 (ndA zeroN) (heap_alloc_new w1 _) (info_nodeA _) rfl (nd_one _) ?_)
    generalize hW : (w1.alloc (.cells #[.int .i64 0, .int .i64 0, .int .i64 0, .int .i64 0, .int .i64 0, .int .i64 0, .int .i64 0, .int .i64 0, .int .i64 0, .int .i64 0, .int .i64 0, .int .i64 0, .int .i64 0, .int .i64 0, .int .i64 0, .int .i64 0, .int .i64 0, .int .i64 0, .int .i64 0, .int .i64 0, .int .i64 0, .int .i64 0, .int .i64 0, .int .i64 0, .int .i64 0, .int .i64 0, .int .i64 0, .int .i64 0, .int .i64 0, .int .i64 0, .int .i64 0, .int .i64 0, .int .i64 0, .int .i64 0, .int .i64 0, .int .i64 0, .int .i64 0] 81)).setRow w1.heap.size (ndA zeroN) = W at *
    obtain ⟨hsW, hbW, hWR⟩ := row_new hW
    clear hW
    have hRW : W.heap[w.heap.size]? = some (.cells (bkA zeroH 0 0) 105 (0, 0)) := (hbW.block _ (by omega)).trans hR1
    have HRW := Go.Proofs.Ytgeihfmhbifleaa.hid hRW
    have HBW := Go.Proofs.Ytgeihfmhbifleaa.hid (hbw1.trans (hbW.mono (by omega)))
    clear hWR hbW hR1 hbw1 hRW
    go_wp2_with (refine wpList_store_row rfl 105 _ _ rfl w.heap.size (bkA zeroH 0 0) rfl rfl 105 (bkA zeroH 0 0) HRW.out (info_blkA _ _ _) rfl (bk_one _ _ _) ?_)
    refine bodyPost_ret (results_ct rfl _ _ _ w.heap.size 105 (bkA zeroH 0 0) (0, 0) _ rfl (setRow_heap _ _ _ _ _ _ HRW.out) rfl Try.underlying105 (info_blkA _ _ _)) rfl ⟨by rw [hf, hFE]; rfl, Below.setRow HBW.out (Nat.le_refl _) _⟩
  | some n =>
    have hfe : FE = 0 := by rw [← hFE, findN_some hf]
    rw [hfe] at hFE
    subst hfe
    rw [show (some n : Option Nd).getD zeroN = n from rfl]
    go_upto_region 2 with (refine wpList_store_row rfl 81 _ _ rfl w1.heap.size (ndA n) rfl rfl 81 (ndA zeroN) (heap_alloc_new w1 _) (info_nodeA _) rfl (nd_one _) ?_)
    generalize hW : (w1.alloc (.cells #[.int .i64 0, .int .i64 0, .int .i64 0, .int .i64 0, .int .i64 0, .int .i64 0, .int .i64 0, .int .i64 0, .int .i64 0, .int .i64 0, .int .i64 0, .int .i64 0, .int .i64 0, .int .i64 0, .int .i64 0, .int .i64 0, .int .i64 0, .int .i64 0, .int .i64 0, .int .i64 0, .int .i64 0, .int .i64 0, .int .i64 0, .int .i64 0, .int .i64 0, .int .i64 0, .int .i64 0, .int .i64 0, .int .i64 0, .int .i64 0, .int .i64 0, .int .i64 0, .int .i64 0, .int .i64 0, .int .i64 0, .int .i64 0, .int .i64 0] 81)).setRow w1.heap.size (ndA n) = W at *
    obtain ⟨hsW, hbW, hWR⟩ := row_new hW
    clear hW
    have hRW : W.heap[w.heap.size]? = some (.cells (bkA zeroH 0 0) 105 (0, 0)) := (hbW.block _ (by omega)).trans hR1
    have HRW := Go.Proofs.Ytgeihfmhbifleaa.hid hRW
    have HBW := Go.Proofs.Ytgeihfmhbifleaa.hid (hbw1.trans (hbW.mono (by omega)))
    have hwW : w.heap.size < W.heap.size := lt_of_block hRW
    generalize w1.heap.size = B at *
    have n1 : W.cell? ⟨B, 1, none⟩ = some (.int .i64 n.par) := cell_of_cells (j := 1) hWR rfl
    have n2 : W.cell? ⟨B, 2, none⟩ = some (.int .i64 n.height) := cell_of_cells (j := 2) hWR rfl
    have n3 : W.cell? ⟨B, 3, none⟩ = some (.int .i64 n.hdr.slot) := cell_of_cells (j := 3) hWR rfl
    have n4 : W.cell? ⟨B, 4, none⟩ = some (.int .i64 n.hdr.pool) := cell_of_cells (j := 4) hWR rfl
    have n5 : W.cell? ⟨B, 5, none⟩ = some (.int .i64 n.hdr.proof) := cell_of_cells (j := 5) hWR rfl
    have n6 : W.cell? ⟨B, 6, none⟩ = some (.int .i64 n.hdr.count) := cell_of_cells (j := 6) hWR rfl
    have n7 : W.cell? ⟨B, 7, none⟩ = some (.int .i64 n.hdr.frm) := cell_of_cells (j := 7) hWR rfl
    have n8 : W.cell? ⟨B, 8, none⟩ = some (.int .i64 n.hdr.dst) := cell_of_cells (j := 8) hWR rfl
    have n9 : W.cell? ⟨B, 9, none⟩ = some (.int .i64 n.hdr.amount) := cell_of_cells (j := 9) hWR rfl
    have hBW := lt_of_block hWR
    have HF := Go.Proofs.Ytgeihfmhbifleaa.hid (show lkA (findN ns id) = bkA n.hdr (if n.par = -1 then 0 else n.par) n.height by rw [hf]; rfl)
    clear hWR hbW hR1 hbw1 hRW hf
    obtain ⟨ni, np', nh, ⟨h0, h1, h2, h3, h4, h5, h6⟩, ng⟩ := n
    by_cases hp : np' = -1
    · have hpb : (np' == -1) = true := by simp [hp]
      go_upto_region 7 with fail
      generalize hV : W.alloc (.cells #[.int .i64 h0, .int .i64 h1, .int .i64 h2, .int .i64 h3, .int .i64 h4, .int .i64 h5, .int .i64 h6, .int .i64 0, .int .i64 nh] 105) = V at *
      obtain ⟨hsV, hbV, hVR⟩ := below_of hV
      clear hV
      have HVR : Hid (V.heap[W.heap.size]? = some (.cells (bkA ⟨h0, h1, h2, h3, h4, h5, h6⟩ 0 nh) 105 (0, 0))) := hVR
      have HRV : Hid (V.heap[w.heap.size]? = some (.cells (bkA zeroH 0 0) 105 (0, 0))) := (hbV.block _ hwW).trans HRW.out
      have HBV := Go.Proofs.Ytgeihfmhbifleaa.hid (HBW.out.trans (hbV.mono (by omega)))
      have HF2 : Hid (lkA (findN ns id) = bkA ⟨h0, h1, h2, h3, h4, h5, h6⟩ 0 nh) := by
        have := HF.out
        simp only [hp, if_pos] at this
        exact this
      clear hVR hbV n1 n2 n3 n4 n5 n6 n7 n8 n9 HF HRW HBW
      go_wp2_with (first | refine wpList_load_row rfl 105 _ rfl W.heap.size rfl 105 (bkA ⟨h0, h1, h2, h3, h4, h5, h6⟩ 0 nh) (0, 0) _ HVR.out Try.underlying105 rfl (info_blkA _ _ _) ?_ | refine wpList_store_row rfl 105 _ _ rfl w.heap.size (bkA ⟨h0, h1, h2, h3, h4, h5, h6⟩ 0 nh) rfl rfl 105 (bkA zeroH 0 0) HRV.out (info_blkA _ _ _) rfl (bk_one _ _ _) ?_)
      refine bodyPost_ret (results_ct rfl _ _ _ w.heap.size 105 (bkA ⟨h0, h1, h2, h3, h4, h5, h6⟩ 0 nh) (0, 0) _ rfl (setRow_heap _ _ _ _ _ _ HRV.out) rfl Try.underlying105 (info_blkA _ _ _)) rfl ⟨by rw [HF2.out, hFE]; rfl, Below.setRow HBV.out (Nat.le_refl _) _⟩
    · have hpb : (np' == -1) = false := by simp [hp]
      go_upto_region 7 with fail
      generalize hV : W.alloc (.cells #[.int .i64 h0, .int .i64 h1, .int .i64 h2, .int .i64 h3, .int .i64 h4, .int .i64 h5, .int .i64 h6, .int .i64 np', .int .i64 nh] 105) = V at *
      obtain ⟨hsV, hbV, hVR⟩ := below_of hV
      clear hV
      have HVR : Hid (V.heap[W.heap.size]? = some (.cells (bkA ⟨h0, h1, h2, h3, h4, h5, h6⟩ np' nh) 105 (0, 0))) := hVR
      have HRV : Hid (V.heap[w.heap.size]? = some (.cells (bkA zeroH 0 0) 105 (0, 0))) := (hbV.block _ hwW).trans HRW.out
      have HBV := Go.Proofs.Ytgeihfmhbifleaa.hid (HBW.out.trans (hbV.mono (by omega)))
      have HF2 : Hid (lkA (findN ns id) = bkA ⟨h0, h1, h2, h3, h4, h5, h6⟩ np' nh) := by
        have := HF.out
        simp only [if_neg hp] at this
        exact this
      clear hVR hbV n1 n2 n3 n4 n5 n6 n7 n8 n9 HF HRW HBW
      go_wp2_with (first | refine wpList_load_row rfl 105 _ rfl W.heap.size rfl 105 (bkA ⟨h0, h1, h2, h3, h4, h5, h6⟩ np' nh) (0, 0) _ HVR.out Try.underlying105 rfl (info_blkA _ _ _) ?_ | refine wpList_store_row rfl 105 _ _ rfl w.heap.size (bkA ⟨h0, h1, h2, h3, h4, h5, h6⟩ np' nh) rfl rfl 105 (bkA zeroH 0 0) HRV.out (info_blkA _ _ _) rfl (bk_one _ _ _) ?_)
      refine bodyPost_ret (results_ct rfl _ _ _ w.heap.size 105 (bkA ⟨h0, h1, h2, h3, h4, h5, h6⟩ np' nh) (0, 0) _ rfl (setRow_heap _ _ _ _ _ _ HRV.out) rfl Try.underlying105 (info_blkA _ _ _)) rfl ⟨by rw [HF2.out, hFE]; rfl, Below.setRow HBV.out (Nat.le_refl _) _⟩

end Go.Proofs.Ytgeihfmhbifleaa

/-
  The statements' book: a header that was made is refused as 'wanted' says and no other way; step.
-/
namespace Go.Proofs.Ytgeihfmhbifleaa
open Go.RowKit Num Bk
set_option linter.unusedVariables false

theorem made_from {s : St} {id : Nat} {o : Stp} {h : Hdr} (hm : madeH s id o = some h) : ∃ k, k < 25 * s.par.stakes.length ∧ ¬ 10000 < slotK s id o k ∧ leadsAt s id (slotK s id o k) (poolK s o k) = true ∧ h = hdrK s id o k := by
  unfold madeH at hm
  cases hf : foundK s id o with
  | none => rw [hf] at hm; exact absurd hm (by simp)
  | some k =>
    rw [hf] at hm
    simp only at hm
    unfold foundK at hf
    have h1 := List.mem_of_find?_eq_some hf
    have h2 := List.find?_some hf
    rw [List.mem_range] at h1
    by_cases hb : 10000 < slotK s id o k
    · rw [if_pos hb] at hm; exact absurd hm (by simp)
    · rw [if_neg hb] at hm
      unfold endK at h2
      simp only [Bool.or_eq_true, decide_eq_true_eq] at h2
      rcases h2 with h2 | h2
      · exact absurd h2 hb
      · exact ⟨k, h1, hb, h2, by simpa using hm.symm⟩

structure MadeOk (s : St) (id : Nat) (h : Hdr) : Prop where
  turn : turnErr s (id : Int) h.slot h.pool = 0
  count : h.count = countAt s.all h.pool id ∨ h.count = countAt s.all h.pool id + 1
  frm : poolOk s h.frm = true
  dst : poolOk s h.dst = true
  am0 : 0 ≤ h.amount
  am1 : h.amount ≤ (stakesAt s.par s.all id).getD h.frm.toNat 0
  proof : h.proof = proofAt s id h.slot h.pool
  leads : leadsAt s id h.slot h.pool = true
  is : HdrI h

theorem made_ok {s : St} (hv : Inv s) {id : Nat} (hk : id ∈ s.keep) {o : Stp} {h : Hdr} (hm : madeH s id o = some h) : MadeOk s id h := by
  have hl := inv_lt hv hk
  obtain ⟨k, h1, h2, h3, rfl⟩ := made_from hm
  have hnp := np_bounds hv
  have hn : np s = (s.par.stakes.length : Int) := rfl
  have hsb := slotK_bounds hv hl o k (by omega)
  have hpb := poolK_bounds hv o k
  have hpd := pickI_bounds o.D 1048576 (by omega)
  have hf1 : 0 ≤ pickI o.D 1048576 / 2 % np s := Int.emod_nonneg _ (by omega)
  have hf2 : pickI o.D 1048576 / 2 % np s < np s := Int.emod_lt_of_pos _ (by omega)
  have ht1 : 0 ≤ pickI o.D 1048576 / 2 / np s % np s := Int.emod_nonneg _ (by omega)
  have ht2 : pickI o.D 1048576 / 2 / np s % np s < np s := Int.emod_lt_of_pos _ (by omega)
  have hsk := stake_bounds hv hl (pickI o.D 1048576 / 2 % np s).toNat
  have hst := (total_small hv.par).2
  have hst' : stakeOf s id (pickI o.D 1048576 / 2 % np s).toNat = (stakesAt s.par s.all id).getD (pickI o.D 1048576 / 2 % np s).toNat 0 := rfl
  have ha1 : 0 ≤ pickI o.D 1048576 / 2 / np s / np s % (stakeOf s id (pickI o.D 1048576 / 2 % np s).toNat + 1) := Int.emod_nonneg _ (by omega)
  have ha2 : pickI o.D 1048576 / 2 / np s / np s % (stakeOf s id (pickI o.D 1048576 / 2 % np s).toNat + 1) < stakeOf s id (pickI o.D 1048576 / 2 % np s).toNat + 1 := Int.emod_lt_of_pos _ (by omega)
  have hcb := count_bounds hv (poolK s o k) id hl
  have hhb := height_small hv hl
  have hdb := drawN_bounds (nonceAt s id (slotK s id o k)) (slotK s id o k) (poolK s o k)
  have hm2 : 0 ≤ pickI o.D 1048576 % 2 ∧ pickI o.D 1048576 % 2 ≤ 1 := by omega
  refine ⟨turn_zero hv hk hsb.1 (by show slotK s id o k ≤ 10000; omega) hpb.1 hpb.2, ?_, ?_, ?_, ha1, ?_, rfl, h3, ?_⟩
  · show countAt s.all (poolK s o k) id + pickI o.D 1048576 % 2 = countAt s.all (poolK s o k) id ∨ countAt s.all (poolK s o k) id + pickI o.D 1048576 % 2 = countAt s.all (poolK s o k) id + 1
    omega
  · show poolOk s (pickI o.D 1048576 / 2 % np s) = true
    simp only [poolOk, Bool.and_eq_true, decide_eq_true_eq]; omega
  · show poolOk s (pickI o.D 1048576 / 2 / np s % np s) = true
    simp only [poolOk, Bool.and_eq_true, decide_eq_true_eq]; omega
  · show pickI o.D 1048576 / 2 / np s / np s % (stakeOf s id (pickI o.D 1048576 / 2 % np s).toNat + 1) ≤ (stakesAt s.par s.all id).getD (pickI o.D 1048576 / 2 % np s).toNat 0
    omega
  · refine ⟨?_, ?_, ?_, ?_, ?_, ?_, ?_⟩
    · exact i64_of (by show _ ≤ slotK s id o k; omega) (by show slotK s id o k ≤ _; omega)
    · exact i64_of (by show _ ≤ poolK s o k; omega) (by show poolK s o k ≤ _; omega)
    · exact i64_of (by show _ ≤ drawN _ _ _; omega) (by show drawN _ _ _ ≤ _; omega)
    · exact i64_of (by show _ ≤ countAt s.all (poolK s o k) id + pickI o.D 1048576 % 2; omega) (by show countAt s.all (poolK s o k) id + pickI o.D 1048576 % 2 ≤ _; omega)
    · exact i64_of (by show _ ≤ pickI o.D 1048576 / 2 % np s; omega) (by show pickI o.D 1048576 / 2 % np s ≤ _; omega)
    · exact i64_of (by show _ ≤ pickI o.D 1048576 / 2 / np s % np s; omega) (by show pickI o.D 1048576 / 2 / np s % np s ≤ _; omega)
    · exact i64_of (by show _ ≤ pickI o.D 1048576 / 2 / np s / np s % (stakeOf s id (pickI o.D 1048576 / 2 % np s).toNat + 1); omega) (by show pickI o.D 1048576 / 2 / np s / np s % (stakeOf s id (pickI o.D 1048576 / 2 % np s).toNat + 1) ≤ _; omega)

theorem MadeOk.refused {s : St} {id : Nat} {h : Hdr} (m : MadeOk s id h) : refused s (id : Int) h = if 0 < there s (id : Int) h then 10 else 0 := by
  unfold Bk.refused
  rw [if_neg (by simp [m.turn]), Int.toNat_natCast, if_neg (by rintro ⟨a, b⟩; rcases m.count with e | e; exact a e; exact b e), if_neg (by simp [m.frm, m.dst]),
    if_neg (by have := m.am0; have := m.am1; omega), if_neg (by simp [m.proof]), if_neg (by simp [m.leads])]

theorem MadeOk.err {s : St} {id : Nat} {h : Hdr} (m : MadeOk s id h) : offerErr s (id : Int) h = wantErr s (id : Int) h := by
  unfold offerErr wantErr
  rw [m.refused]
  split <;> simp

theorem MadeOk.num {s : St} {id : Nat} {h : Hdr} (m : MadeOk s id h) : offerId s (id : Int) h = wantId s (id : Int) h := by
  unfold offerId wantId
  rw [m.err]

/-- The header of a step, its parent, and what is there behind it. -/
def stepP (s : St) (o : Stp) : Nat := s.keep.getD (pickI o.A s.keep.length).toNat 0
def stepS (s : St) (o : Stp) : St :=
  match madeH s (stepP s o) o with
  | none => s
  | some h => offer s (stepP s o) h

theorem stepP_mem {s : St} (hv : Inv s) (o : Stp) : stepP s o ∈ s.keep ∧ (pickI o.A s.keep.length).toNat < s.keep.length := by
  have h0 : 0 < s.keep.length := List.length_pos_of_mem hv.tipin
  have h1 := pickI_bounds o.A s.keep.length (by omega)
  have h2 : (pickI o.A s.keep.length).toNat < s.keep.length := by omega
  refine ⟨?_, h2⟩
  unfold stepP
  rw [List.getD_eq_getElem?_getD, List.getElem?_eq_getElem h2]
  exact List.getElem_mem _

theorem inv_step {s : St} (hv : Inv s) (o : Stp) : Inv (stepS s o) := by
  unfold stepS
  split
  · exact hv
  · exact inv_offer hv _ _

end Go.Proofs.Ytgeihfmhbifleaa

