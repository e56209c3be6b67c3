import Derived.Test.YtpaakikgfojplabCStM
import Derived.Test.YtpaakikgfojplabCM16
import Derived.Test.YtpaakikgfojplabCM23
import Derived.Test.YtpaakikgfojplabCM32
/-
  THE WALK of the statements' spoilt.
-/
namespace Go.Proofs.Ytpaakikgfojplab
open Go.RowKit Num Bk
set_option linter.unusedVariables false

def hdA (h : Hdr) : Array Value := #[.int .i64 h.slot, .int .i64 h.pool, .int .i64 h.proof, .int .i64 h.count, .int .i64 h.frm, .int .i64 h.dst, .int .i64 h.amount]
theorem info_hdA (h : Hdr) : (Try.prog.info? 42).map (·.size) = some (hdA h).size := by
  show _ = some 7
  kernel_rfl
theorem hd_one (h : Hdr) : (hdA h).all (·.oneCell') = true := all_oneCell_toArray (cs := (hdA h).toList) (by
  intro u hu
  simp only [hdA, List.mem_cons, List.not_mem_nil, or_false] at hu
  rcases hu with rfl | rfl | rfl | rfl | rfl | rfl | rfl <;> rfl)

/-- A box and a result's cells, in the world behind them. -/
structure Boxed (w W : World) (h : Hdr) : Prop where
  box : W.heap[w.heap.size]? = some (.cells (hdA h) 42 (0, 0))
  res : W.heap[w.heap.size + 1]? = some (.cells (hdA zeroH) 42 (0, 0))
  bel : Below w.heap.size w W

theorem Boxed.later {w W W' : World} {h : Hdr} (hB : Boxed w W h) (hb : Below W.heap.size W W') : Boxed w W' h := by
  have h1 := lt_of_block hB.box
  have h2 := lt_of_block hB.res
  exact ⟨(hb.block _ h1).trans hB.box, (hb.block _ h2).trans hB.res, hB.bel.trans (hb.mono hB.bel.size)⟩

theorem Boxed.set {w W : World} {h : Hdr} (hB : Boxed w W h) (j : Nat) (v : Value) (hn : Hdr) : (W.setCell ⟨w.heap.size, j, none⟩ v).heap[w.heap.size + 1]? = some (.cells (hdA zeroH) 42 (0, 0)) ∧ Below w.heap.size w ((W.setCell ⟨w.heap.size, j, none⟩ v).setRow (w.heap.size + 1) (hdA hn)) :=
  ⟨(Below.heap_setCell _ _ _ _ (by simp)).trans hB.res, Below.setRow (hB.bel.setCell (Nat.le_refl _) v) (by omega) _⟩

set_option maxHeartbeats 12800000 in
set_option maxRecDepth 1000000 in
theorem spoilt_any {Rep : World → Nat → (Nat → Prop) → St → Prop} (P : PSpec Rep) (b xc gs cs ga ca : Nat) (s : St) (F : Nat → Prop) (id : Nat) (h : Hdr) (k : Int) (w : World) (hb : Both Rep w b xc gs cs ga ca F s) (hk : id ∈ s.keep) (m : MadeOk s id h) (k0 : 0 ≤ k) (k1 : k < 12) :
    Calls Try.prog 20 #[.pointer (some ⟨b, 0, none⟩), .int .i64 (id : Int), hdrV h, .int .i64 k] w fun e w' => e = .returned (.tuple #[hdrV (spoiltH s id h k), .int .i64 (spoiltE k)]) ∧ Below w.heap.size w w' := by
  have hv := hb.inv
  have hil := inv_lt hv hk
  have hbb := begins_bounds hv hil
  have hn := np_bounds hv
  have hnp : (s.par.stakes.length : Int) = np s := rfl
  have hcb := count_bounds hv h.pool id hil
  have hhb := height_small hv hil
  have hsb := stake_bounds hv hil h.frm.toNat
  have htt := (total_small hv.par).2
  have hdb := drawN_bounds (nonceAt s id h.slot) h.slot h.pool
  have hpr : h.proof = drawN (nonceAt s id h.slot) h.slot h.pool := m.proof
  have hso : stakeOf s id h.frm.toNat = (stakesAt s.par s.all id).getD h.frm.toNat 0 := rfl
  have hfo := m.frm
  simp only [poolOk, Bool.and_eq_true, decide_eq_true_eq] at hfo
  have hp0 : 0 ≤ h.proof := by omega
  have hp1 : h.proof < 1024 := by omega
  have hs0 : 0 ≤ stakeOf s id h.frm.toNat := by omega
  have hs1 : stakeOf s id h.frm.toNat ≤ 240 := by omega
  have hc1 : countAt s.all h.pool id ≤ 10001 := by omega
  obtain ⟨fN, hfN⟩ : ∃ fN : Nat, h.frm = (fN : Int) := ⟨h.frm.toNat, by omega⟩
  have hfl : fN < s.par.stakes.length := by omega
  have hft : h.frm.toNat = fN := by omega
  have HSP : Hid (∀ q, spoiltH s id h q = spoiltH s id h q) := fun _ => rfl
  have HBE := Go.Proofs.Ytpaakikgfojplab.hid (show (if id = 0 then 0 else (hd s.all id).slot + 1) = beginsAt s id from rfl)
  have HTM : Hid ((h.proof + 1).tmod 1024 = (h.proof + 1) % 1024) := Int.tmod_eq_emod_of_nonneg (by omega)
  have htm1 : 0 ≤ (h.proof + 1) % 1024 := by omega
  have htm2 : (h.proof + 1) % 1024 < 1024 := by omega
  have hE : ∀ q hq, spoiltH s id h q = hq → Hid (spoiltH s id h q = hq) := fun _ _ h => h
  have HFN := Go.Proofs.Ytpaakikgfojplab.hid hfN
  have HFT := Go.Proofs.Ytpaakikgfojplab.hid hft
  clear hsb htt hdb hpr hso hfo HSP m hfN hft hnp
  unfold hdrV
  go_enter Try.func20, Try.ntmps20
  have c7 := cell_of_cells (j := 7) hb.book.blk rfl
  go_upto_region 1 with fail
  generalize hA : (w.alloc (.cells #[.int .i64 h.slot, .int .i64 h.pool, .int .i64 h.proof, .int .i64 h.count, .int .i64 h.frm, .int .i64 h.dst, .int .i64 h.amount] 42)).alloc (.cells #[.int .i64 0, .int .i64 0, .int .i64 0, .int .i64 0, .int .i64 0, .int .i64 0, .int .i64 0] 42) = A at *
  obtain ⟨hsA, hbA, hAo, hAz⟩ := below_two hA
  clear hA c7
  have hBA : Boxed w A h := ⟨hAo, hAz, hbA⟩
  have hBo := hb.keep P hbA
  clear hAo hAz hsA
  have c7 := cell_of_cells (j := 7) hBo.book.blk rfl
  have q0 : A.cell? ⟨w.heap.size, 0, none⟩ = some (.int .i64 h.slot) := cell_of_cells (j := 0) hBA.box rfl
  have q1 : A.cell? ⟨w.heap.size, 1, none⟩ = some (.int .i64 h.pool) := cell_of_cells (j := 1) hBA.box rfl
  have q2 : A.cell? ⟨w.heap.size, 2, none⟩ = some (.int .i64 h.proof) := cell_of_cells (j := 2) hBA.box rfl
  have q3 : A.cell? ⟨w.heap.size, 3, none⟩ = some (.int .i64 h.count) := cell_of_cells (j := 3) hBA.box rfl
  have q4 : A.cell? ⟨w.heap.size, 4, none⟩ = some (.int .i64 h.frm) := cell_of_cells (j := 4) hBA.box rfl
  have q5 : A.cell? ⟨w.heap.size, 5, none⟩ = some (.int .i64 h.dst) := cell_of_cells (j := 5) hBA.box rfl
  have q6 : A.cell? ⟨w.heap.size, 6, none⟩ = some (.int .i64 h.amount) := cell_of_cells (j := 6) hBA.box rfl
  have hcase : k = 0 ∨ k = 1 ∨ k = 2 ∨ k = 3 ∨ k = 4 ∨ k = 5 ∨ k = 6 ∨ k = 7 ∨ k = 8 ∨ k = 9 ∨ k = 10 ∨ k = 11 := by omega
  clear hb hbA
  rcases hcase with rfl | rfl | rfl | rfl | rfl | rfl | rfl | rfl | rfl | rfl | rfl | rfl
  · have HE := hE 0 { h with slot := beginsAt s id - 1 } rfl
    go_wp2_with fail
    refine (begins_any b xc gs cs ga ca s id _ hBo.book hv hil).mono ?_
    rintro e w2 ⟨rfl, rfl⟩
    rw [HBE.out]
    have f0 := free_of_cells (j := 0) hBA.box
    have hBW := hBA
    have hset := hBW.set 0 (.int .i64 (beginsAt s id - 1)) { h with slot := beginsAt s id - 1 }
    have HSET := Go.Proofs.Ytpaakikgfojplab.hid hset
    clear hset hBW hBA
    go_wp2_with (refine wpList_store_row rfl 42 _ _ rfl (w.heap.size + 1) (hdA { h with slot := beginsAt s id - 1 }) rfl rfl 42 (hdA zeroH) HSET.out.1 (info_hdA _) rfl (hd_one _) ?_)
    refine bodyPost_ret (results_ct rfl _ _ _ (w.heap.size + 1) 42 (hdA { h with slot := beginsAt s id - 1 }) (0, 0) _ rfl (setRow_heap _ _ _ _ _ _ HSET.out.1) rfl Try.underlying42 (info_hdA _)) rfl ⟨by rw [HE.out]; rfl, HSET.out.2⟩
  · have HE := hE 1 { h with slot := 10001 } rfl
    have f0 := free_of_cells (j := 0) hBA.box
    have hBW := hBA
    have hset := hBW.set 0 (.int .i64 (10001)) { h with slot := 10001 }
    have HSET := Go.Proofs.Ytpaakikgfojplab.hid hset
    clear hset hBW hBA
    go_wp2_with (refine wpList_store_row rfl 42 _ _ rfl (w.heap.size + 1) (hdA { h with slot := 10001 }) rfl rfl 42 (hdA zeroH) HSET.out.1 (info_hdA _) rfl (hd_one _) ?_)
    refine bodyPost_ret (results_ct rfl _ _ _ (w.heap.size + 1) 42 (hdA { h with slot := 10001 }) (0, 0) _ rfl (setRow_heap _ _ _ _ _ _ HSET.out.1) rfl Try.underlying42 (info_hdA _)) rfl ⟨by rw [HE.out]; rfl, HSET.out.2⟩
  · have HE := hE 2 { h with pool := np s } rfl
    have f1 := free_of_cells (j := 1) hBA.box
    have hBW := hBA
    have hset := hBW.set 1 (.int .i64 (np s)) { h with pool := np s }
    have HSET := Go.Proofs.Ytpaakikgfojplab.hid hset
    clear hset hBW hBA
    go_wp2_with (refine wpList_store_row rfl 42 _ _ rfl (w.heap.size + 1) (hdA { h with pool := np s }) rfl rfl 42 (hdA zeroH) HSET.out.1 (info_hdA _) rfl (hd_one _) ?_)
    refine bodyPost_ret (results_ct rfl _ _ _ (w.heap.size + 1) 42 (hdA { h with pool := np s }) (0, 0) _ rfl (setRow_heap _ _ _ _ _ _ HSET.out.1) rfl Try.underlying42 (info_hdA _)) rfl ⟨by rw [HE.out]; rfl, HSET.out.2⟩
  · have HE := hE 3 { h with pool := -1 } rfl
    have f1 := free_of_cells (j := 1) hBA.box
    have hBW := hBA
    have hset := hBW.set 1 (.int .i64 (-1)) { h with pool := -1 }
    have HSET := Go.Proofs.Ytpaakikgfojplab.hid hset
    clear hset hBW hBA
    go_wp2_with (refine wpList_store_row rfl 42 _ _ rfl (w.heap.size + 1) (hdA { h with pool := -1 }) rfl rfl 42 (hdA zeroH) HSET.out.1 (info_hdA _) rfl (hd_one _) ?_)
    refine bodyPost_ret (results_ct rfl _ _ _ (w.heap.size + 1) 42 (hdA { h with pool := -1 }) (0, 0) _ rfl (setRow_heap _ _ _ _ _ _ HSET.out.1) rfl Try.underlying42 (info_hdA _)) rfl ⟨by rw [HE.out]; rfl, HSET.out.2⟩
  · have HE := hE 4 { h with count := countAt s.all h.pool id + 2 } rfl
    go_wp2_with fail
    refine (bcount_any b xc gs cs ga ca s id h.pool _ hBo.book hv hil).mono ?_
    rintro e w2 ⟨rfl, hb2⟩
    have hBW := hBA.later hb2
    clear q0 q1 q2 q3 q4 q5 q6 c7 hb2 hBo
    have q0 : w2.cell? ⟨w.heap.size, 0, none⟩ = some (.int .i64 h.slot) := cell_of_cells (j := 0) hBW.box rfl
    have q1 : w2.cell? ⟨w.heap.size, 1, none⟩ = some (.int .i64 h.pool) := cell_of_cells (j := 1) hBW.box rfl
    have q2 : w2.cell? ⟨w.heap.size, 2, none⟩ = some (.int .i64 h.proof) := cell_of_cells (j := 2) hBW.box rfl
    have q3 : w2.cell? ⟨w.heap.size, 3, none⟩ = some (.int .i64 h.count) := cell_of_cells (j := 3) hBW.box rfl
    have q4 : w2.cell? ⟨w.heap.size, 4, none⟩ = some (.int .i64 h.frm) := cell_of_cells (j := 4) hBW.box rfl
    have q5 : w2.cell? ⟨w.heap.size, 5, none⟩ = some (.int .i64 h.dst) := cell_of_cells (j := 5) hBW.box rfl
    have q6 : w2.cell? ⟨w.heap.size, 6, none⟩ = some (.int .i64 h.amount) := cell_of_cells (j := 6) hBW.box rfl
    have f3 := free_of_cells (j := 3) hBW.box
    have hset := hBW.set 3 (.int .i64 (countAt s.all h.pool id + 2)) { h with count := countAt s.all h.pool id + 2 }
    have HSET := Go.Proofs.Ytpaakikgfojplab.hid hset
    clear hset hBW hBA
    go_wp2_with (refine wpList_store_row rfl 42 _ _ rfl (w.heap.size + 1) (hdA { h with count := countAt s.all h.pool id + 2 }) rfl rfl 42 (hdA zeroH) HSET.out.1 (info_hdA _) rfl (hd_one _) ?_)
    refine bodyPost_ret (results_ct rfl _ _ _ (w.heap.size + 1) 42 (hdA { h with count := countAt s.all h.pool id + 2 }) (0, 0) _ rfl (setRow_heap _ _ _ _ _ _ HSET.out.1) rfl Try.underlying42 (info_hdA _)) rfl ⟨by rw [HE.out]; rfl, HSET.out.2⟩
  · have HE := hE 5 { h with count := countAt s.all h.pool id - 1 } rfl
    go_wp2_with fail
    refine (bcount_any b xc gs cs ga ca s id h.pool _ hBo.book hv hil).mono ?_
    rintro e w2 ⟨rfl, hb2⟩
    have hBW := hBA.later hb2
    clear q0 q1 q2 q3 q4 q5 q6 c7 hb2 hBo
    have q0 : w2.cell? ⟨w.heap.size, 0, none⟩ = some (.int .i64 h.slot) := cell_of_cells (j := 0) hBW.box rfl
    have q1 : w2.cell? ⟨w.heap.size, 1, none⟩ = some (.int .i64 h.pool) := cell_of_cells (j := 1) hBW.box rfl
    have q2 : w2.cell? ⟨w.heap.size, 2, none⟩ = some (.int .i64 h.proof) := cell_of_cells (j := 2) hBW.box rfl
    have q3 : w2.cell? ⟨w.heap.size, 3, none⟩ = some (.int .i64 h.count) := cell_of_cells (j := 3) hBW.box rfl
    have q4 : w2.cell? ⟨w.heap.size, 4, none⟩ = some (.int .i64 h.frm) := cell_of_cells (j := 4) hBW.box rfl
    have q5 : w2.cell? ⟨w.heap.size, 5, none⟩ = some (.int .i64 h.dst) := cell_of_cells (j := 5) hBW.box rfl
    have q6 : w2.cell? ⟨w.heap.size, 6, none⟩ = some (.int .i64 h.amount) := cell_of_cells (j := 6) hBW.box rfl
    have f3 := free_of_cells (j := 3) hBW.box
    have hset := hBW.set 3 (.int .i64 (countAt s.all h.pool id - 1)) { h with count := countAt s.all h.pool id - 1 }
    have HSET := Go.Proofs.Ytpaakikgfojplab.hid hset
    clear hset hBW hBA
    go_wp2_with (refine wpList_store_row rfl 42 _ _ rfl (w.heap.size + 1) (hdA { h with count := countAt s.all h.pool id - 1 }) rfl rfl 42 (hdA zeroH) HSET.out.1 (info_hdA _) rfl (hd_one _) ?_)
    refine bodyPost_ret (results_ct rfl _ _ _ (w.heap.size + 1) 42 (hdA { h with count := countAt s.all h.pool id - 1 }) (0, 0) _ rfl (setRow_heap _ _ _ _ _ _ HSET.out.1) rfl Try.underlying42 (info_hdA _)) rfl ⟨by rw [HE.out]; rfl, HSET.out.2⟩
  · have HE := hE 6 { h with amount := stakeOf s id h.frm.toNat + 1 } rfl
    have q4' : A.cell? ⟨w.heap.size, 4, none⟩ = some (.int .i64 (fN : Int)) := by
      rw [← HFN.out]; exact cell_of_cells (j := 4) hBA.box rfl
    clear q4
    go_wp2_with fail
    refine (bstake_any b xc gs cs ga ca s id fN _ hBo.book hv hil hfl).mono ?_
    rintro e w2 ⟨rfl, hb2⟩
    rw [← HFT.out]
    have hBW := hBA.later hb2
    clear q0 q1 q2 q3 q4' q5 q6 c7 hb2 hBo
    have q0 : w2.cell? ⟨w.heap.size, 0, none⟩ = some (.int .i64 h.slot) := cell_of_cells (j := 0) hBW.box rfl
    have q1 : w2.cell? ⟨w.heap.size, 1, none⟩ = some (.int .i64 h.pool) := cell_of_cells (j := 1) hBW.box rfl
    have q2 : w2.cell? ⟨w.heap.size, 2, none⟩ = some (.int .i64 h.proof) := cell_of_cells (j := 2) hBW.box rfl
    have q3 : w2.cell? ⟨w.heap.size, 3, none⟩ = some (.int .i64 h.count) := cell_of_cells (j := 3) hBW.box rfl
    have q4 : w2.cell? ⟨w.heap.size, 4, none⟩ = some (.int .i64 h.frm) := cell_of_cells (j := 4) hBW.box rfl
    have q5 : w2.cell? ⟨w.heap.size, 5, none⟩ = some (.int .i64 h.dst) := cell_of_cells (j := 5) hBW.box rfl
    have q6 : w2.cell? ⟨w.heap.size, 6, none⟩ = some (.int .i64 h.amount) := cell_of_cells (j := 6) hBW.box rfl
    have f6 := free_of_cells (j := 6) hBW.box
    have hset := hBW.set 6 (.int .i64 (stakeOf s id h.frm.toNat + 1)) { h with amount := stakeOf s id h.frm.toNat + 1 }
    have HSET := Go.Proofs.Ytpaakikgfojplab.hid hset
    clear hset hBW hBA
    go_wp2_with (refine wpList_store_row rfl 42 _ _ rfl (w.heap.size + 1) (hdA { h with amount := stakeOf s id h.frm.toNat + 1 }) rfl rfl 42 (hdA zeroH) HSET.out.1 (info_hdA _) rfl (hd_one _) ?_)
    refine bodyPost_ret (results_ct rfl _ _ _ (w.heap.size + 1) 42 (hdA { h with amount := stakeOf s id h.frm.toNat + 1 }) (0, 0) _ rfl (setRow_heap _ _ _ _ _ _ HSET.out.1) rfl Try.underlying42 (info_hdA _)) rfl ⟨by rw [HE.out]; rfl, HSET.out.2⟩
  · have HE := hE 7 { h with amount := -1 } rfl
    have f6 := free_of_cells (j := 6) hBA.box
    have hBW := hBA
    have hset := hBW.set 6 (.int .i64 (-1)) { h with amount := -1 }
    have HSET := Go.Proofs.Ytpaakikgfojplab.hid hset
    clear hset hBW hBA
    go_wp2_with (refine wpList_store_row rfl 42 _ _ rfl (w.heap.size + 1) (hdA { h with amount := -1 }) rfl rfl 42 (hdA zeroH) HSET.out.1 (info_hdA _) rfl (hd_one _) ?_)
    refine bodyPost_ret (results_ct rfl _ _ _ (w.heap.size + 1) 42 (hdA { h with amount := -1 }) (0, 0) _ rfl (setRow_heap _ _ _ _ _ _ HSET.out.1) rfl Try.underlying42 (info_hdA _)) rfl ⟨by rw [HE.out]; rfl, HSET.out.2⟩
  · have HE := hE 8 { h with dst := np s } rfl
    have f5 := free_of_cells (j := 5) hBA.box
    have hBW := hBA
    have hset := hBW.set 5 (.int .i64 (np s)) { h with dst := np s }
    have HSET := Go.Proofs.Ytpaakikgfojplab.hid hset
    clear hset hBW hBA
    go_wp2_with (refine wpList_store_row rfl 42 _ _ rfl (w.heap.size + 1) (hdA { h with dst := np s }) rfl rfl 42 (hdA zeroH) HSET.out.1 (info_hdA _) rfl (hd_one _) ?_)
    refine bodyPost_ret (results_ct rfl _ _ _ (w.heap.size + 1) 42 (hdA { h with dst := np s }) (0, 0) _ rfl (setRow_heap _ _ _ _ _ _ HSET.out.1) rfl Try.underlying42 (info_hdA _)) rfl ⟨by rw [HE.out]; rfl, HSET.out.2⟩
  · have HE := hE 9 { h with frm := -1 } rfl
    have f4 := free_of_cells (j := 4) hBA.box
    have hBW := hBA
    have hset := hBW.set 4 (.int .i64 (-1)) { h with frm := -1 }
    have HSET := Go.Proofs.Ytpaakikgfojplab.hid hset
    clear hset hBW hBA
    go_wp2_with (refine wpList_store_row rfl 42 _ _ rfl (w.heap.size + 1) (hdA { h with frm := -1 }) rfl rfl 42 (hdA zeroH) HSET.out.1 (info_hdA _) rfl (hd_one _) ?_)
    refine bodyPost_ret (results_ct rfl _ _ _ (w.heap.size + 1) 42 (hdA { h with frm := -1 }) (0, 0) _ rfl (setRow_heap _ _ _ _ _ _ HSET.out.1) rfl Try.underlying42 (info_hdA _)) rfl ⟨by rw [HE.out]; rfl, HSET.out.2⟩
  · have HE := hE 10 { h with proof := (h.proof + 1) % 1024 } rfl
    have f2 := free_of_cells (j := 2) hBA.box
    have hBW := hBA
    have hset := hBW.set 2 (.int .i64 ((h.proof + 1) % 1024)) { h with proof := (h.proof + 1) % 1024 }
    have HSET := Go.Proofs.Ytpaakikgfojplab.hid hset
    clear hset hBW hBA
    have htm := HTM.out
    go_wp2_with (refine wpList_store_row rfl 42 _ _ rfl (w.heap.size + 1) (hdA { h with proof := (h.proof + 1) % 1024 }) rfl rfl 42 (hdA zeroH) HSET.out.1 (info_hdA _) rfl (hd_one _) ?_)
    refine bodyPost_ret (results_ct rfl _ _ _ (w.heap.size + 1) 42 (hdA { h with proof := (h.proof + 1) % 1024 }) (0, 0) _ rfl (setRow_heap _ _ _ _ _ _ HSET.out.1) rfl Try.underlying42 (info_hdA _)) rfl ⟨by rw [HE.out]; rfl, HSET.out.2⟩
  · have HE := hE 11 { h with proof := h.proof + 1024 } rfl
    have f2 := free_of_cells (j := 2) hBA.box
    have hBW := hBA
    have hset := hBW.set 2 (.int .i64 (h.proof + 1024)) { h with proof := h.proof + 1024 }
    have HSET := Go.Proofs.Ytpaakikgfojplab.hid hset
    clear hset hBW hBA
    go_wp2_with (refine wpList_store_row rfl 42 _ _ rfl (w.heap.size + 1) (hdA { h with proof := h.proof + 1024 }) rfl rfl 42 (hdA zeroH) HSET.out.1 (info_hdA _) rfl (hd_one _) ?_)
    refine bodyPost_ret (results_ct rfl _ _ _ (w.heap.size + 1) 42 (hdA { h with proof := h.proof + 1024 }) (0, 0) _ rfl (setRow_heap _ _ _ _ _ _ HSET.out.1) rfl Try.underlying42 (info_hdA _)) rfl ⟨by rw [HE.out]; rfl, HSET.out.2⟩

end Go.Proofs.Ytpaakikgfojplab

