import Derived.Test.YtpaakikgfojplabCNw2
/-
  THE WALKS of the program's New: ledger.Begin, whole.
-/
namespace Go.Proofs.Ytpaakikgfojplab
open Go.RowKit Num Bk
set_option linter.unusedVariables false

def stF (l : List Int) : Nat → Int := if stOk l then (fun j => l.getD j 0) else zeroF
def stT (l : List Int) : Int := if stOk l then l.sum else 0
def stE (l : List Int) : Int := if stOk l then 0 else 1
theorem read_v (l : List Int) (so : Option Addr) (c : Nat) (w : World) (hs : StkAt w so l) :
    Calls Try.prog 75 #[.slice so l.length c] w fun e w' => e = .returned (.tuple #[.agg (arA (stF l)), .int .i64 (stT l), .int .i64 (stE l)]) ∧ Below w.heap.size w w' := read_is l so c w hs

theorem arr_in {w : World} {B : Nat} {f : Nat → Int} (h : w.heap[B]? = some (.cells (arA f) 85 (0, 0))) : okP w B 0 6 = true ∧ rdP w B 0 6 = arA f :=
  part_in h rfl (fun j _ => by rw [Nat.zero_add])
theorem stk_keep {w w' : World} {so : Option Addr} {l : List Int} (h : StkAt w so l) (hb : Below w.heap.size w w') : StkAt w' so l := by
  intro j hj
  obtain ⟨g, off, e, hc⟩ := h j hj
  exact ⟨g, off, e, (hb.cell (p := ⟨g, off + j, none⟩) (World.block_lt_of_cell? w _ hc)).trans hc⟩
theorem isRl_row {w : World} {b b' : Nat} {cs : Array Value} (h : b ≠ b') : isRl (w.setRow b' cs) b = isRl w b := by unfold isRl; rw [setRow_other _ _ _ _ h]
theorem isPg_row {w : World} {b b' : Nat} {cs : Array Value} (h : b ≠ b') : isPg (w.setRow b' cs) b = isPg w b := by unfold isPg; rw [setRow_other _ _ _ _ h]

set_option maxHeartbeats 6400000 in
set_option maxRecDepth 1000000 in
theorem begin_st (p : Par) (so : Option Addr) (c : Nat) (w : World) (hs : StkAt w so p.stakes) (hall : rgOk p) (hst : ¬ stOk p.stakes) :
    Calls Try.prog 57 #[parV p so c] w fun e w' => e = .returned (.tuple #[.agg zeroR, .agg (pgA zeroP), .int .i64 1]) ∧ Below w.heap.size w w' := by
  obtain ⟨e1, e2, b1, b2, a1, a2, n1, n2⟩ := hall
  have hE : stE p.stakes = 1 := if_neg hst
  unfold parV
  go_enter Try.func57, Try.ntmps57
  go_upto_region 1 with fail
  generalize hA : ((w.alloc (.cells #[.int .i64 p.depth, .int .i64 p.epoch, .int .i64 p.room, .int .i64 p.a, .int .i64 p.b, .int .i64 p.nonce, .slice so p.stakes.length c] 28)).alloc (.cells #[.int .i64 0, .int .i64 0, .int .i64 0, .int .i64 0, .int .i64 0] 77)).alloc (.cells #[.int .i64 0, .int .i64 0, .int .i64 0, .int .i64 0, .int .i64 0, .int .i64 0, .int .i64 0, .int .i64 0, .int .i64 0, .int .i64 0, .int .i64 0, .int .i64 0, .int .i64 0, .int .i64 0, .int .i64 0, .int .i64 0, .int .i64 0, .int .i64 0, .int .i64 0, .int .i64 0, .int .i64 0, .int .i64 0, .int .i64 0, .int .i64 0, .int .i64 0, .int .i64 0, .int .i64 0] 87) = A at *
  obtain ⟨hsA, hbA, k0, k1, k2⟩ : w.heap.size + 3 ≤ A.heap.size ∧ Below w.heap.size w A ∧ A.heap[w.heap.size]? = some (.cells #[.int .i64 p.depth, .int .i64 p.epoch, .int .i64 p.room, .int .i64 p.a, .int .i64 p.b, .int .i64 p.nonce, .slice so p.stakes.length c] 28 (0, 0)) ∧ A.heap[w.heap.size + 1]? = some (.cells zeroR 77 (0, 0)) ∧ A.heap[w.heap.size + 2]? = some (.cells (pgA zeroP) 87 (0, 0)) := by
    subst hA
    exact blocks3 (Below.refl _ _)
  clear hA
  have c1 := cell_of_cells (j := 1) k0 rfl
  have c3 := cell_of_cells (j := 3) k0 rfl
  have c4 := cell_of_cells (j := 4) k0 rfl
  have c5 := cell_of_cells (j := 5) k0 rfl
  have c6 := cell_of_cells (j := 6) k0 rfl
  go_wp2_with fail
  refine (read_v p.stakes so c A (stk_keep hs hbA)).mono ?_
  rintro r w1 ⟨rfl, hb1⟩
  rw [hE]
  have hs1 := hb1.size
  have m0 : w1.heap[w.heap.size]? = _ := (hb1.block _ (by omega)).trans k0
  have m1 : w1.heap[w.heap.size + 1]? = _ := (hb1.block _ (by omega)).trans k1
  have m2 : w1.heap[w.heap.size + 2]? = _ := (hb1.block _ (by omega)).trans k2
  have hbw := hbA.trans (hb1.mono (by omega))
  clear c1 c3 c4 c5 c6 k0 k1 k2 hbA hb1 hE hst hs
  generalize stF p.stakes = FF at *
  generalize stT p.stakes = TT at *
  go_upto_region 8 with (refine wpList_store_row rfl 85 _ _ rfl w1.heap.size (arA FF) rfl rfl 85 (arA zeroF) (heap_alloc_new w1 _) (info_arA _) rfl (arA_one _) ?_)
  generalize hW : (w1.alloc (.cells #[.int .i64 0, .int .i64 0, .int .i64 0, .int .i64 0, .int .i64 0, .int .i64 0] 85)).setRow w1.heap.size (arA FF) = W at *
  obtain ⟨hsW, hbW, hWR⟩ := row_new hW
  clear hW
  have q0 : W.heap[w.heap.size]? = _ := (hbW.block _ (by omega)).trans m0
  have q1 : W.heap[w.heap.size + 1]? = _ := (hbW.block _ (by omega)).trans m1
  have q2 : W.heap[w.heap.size + 2]? = _ := (hbW.block _ (by omega)).trans m2
  have hbw2 := hbw.trans (hbW.mono (by omega))
  generalize w1.heap.size = B at *
  clear m0 m1 m2 hbw hbW
  have s2 : ∀ cs, (W.setRow (w.heap.size + 1) cs).heap[w.heap.size + 2]? = some (.cells (pgA zeroP) 87 (0, 0)) := fun cs => (setRow_other _ _ _ _ (by omega)).trans q2
  go_wp2_with (first | refine wpList_store_row rfl 77 _ _ rfl (w.heap.size + 1) zeroR rfl rfl 77 zeroR q1 info_rul rfl rul_one0 ?_ | refine wpList_store_row rfl 87 _ _ rfl (w.heap.size + 2) (pgA zeroP) rfl rfl 87 (pgA zeroP) (s2 _) (info_page _) rfl (pg_one _) ?_)
  refine bodyPost_ret (results_cct rfl _ _ _ (w.heap.size + 1) 77 zeroR (0, 0) _ (w.heap.size + 2) 87 (pgA zeroP) (0, 0) _ rfl rfl ((setRow_other _ _ _ _ (by omega)).trans (setRow_heap _ _ _ _ _ _ q1)) (setRow_heap _ _ _ _ _ _ (s2 _)) rfl rfl Try.underlying77 Try.underlying87 info_rul (info_page _)) rfl ⟨rfl, Below.setRow (Below.setRow hbw2 (by omega) _) (by omega) _⟩

attribute [local go_sem ↓] loadAr_eq buildPg_eq storePg_eq storeRl_eq
attribute [local go_sem] run_loadAr run_buildPg run_storePg run_storeRl

set_option maxHeartbeats 6400000 in
set_option maxRecDepth 1000000 in
theorem begin_yes (p : Par) (so : Option Addr) (c : Nat) (w : World) (hs : StkAt w so p.stakes) (hall : rgOk p) (hst : stOk p.stakes) :
    Calls Try.prog 57 #[parV p so c] w fun e w' => e = .returned (.tuple #[.agg (rulA p), .agg (pgA (firstP p)), .int .i64 0]) ∧ Below w.heap.size w w' := by
  obtain ⟨e1, e2, b1, b2, a1, a2, n1, n2⟩ := hall
  have hF : stF p.stakes = fun j => p.stakes.getD j 0 := if_pos hst
  have hT : stT p.stakes = total p := if_pos hst
  have hE : stE p.stakes = 0 := if_pos hst
  unfold parV
  go_enter Try.func57, Try.ntmps57
  go_upto_region 1 with fail
  generalize hA : ((w.alloc (.cells #[.int .i64 p.depth, .int .i64 p.epoch, .int .i64 p.room, .int .i64 p.a, .int .i64 p.b, .int .i64 p.nonce, .slice so p.stakes.length c] 28)).alloc (.cells #[.int .i64 0, .int .i64 0, .int .i64 0, .int .i64 0, .int .i64 0] 77)).alloc (.cells #[.int .i64 0, .int .i64 0, .int .i64 0, .int .i64 0, .int .i64 0, .int .i64 0, .int .i64 0, .int .i64 0, .int .i64 0, .int .i64 0, .int .i64 0, .int .i64 0, .int .i64 0, .int .i64 0, .int .i64 0, .int .i64 0, .int .i64 0, .int .i64 0, .int .i64 0, .int .i64 0, .int .i64 0, .int .i64 0, .int .i64 0, .int .i64 0, .int .i64 0, .int .i64 0, .int .i64 0] 87) = A at *
  obtain ⟨hsA, hbA, k0, k1, k2⟩ : w.heap.size + 3 ≤ A.heap.size ∧ Below w.heap.size w A ∧ A.heap[w.heap.size]? = some (.cells #[.int .i64 p.depth, .int .i64 p.epoch, .int .i64 p.room, .int .i64 p.a, .int .i64 p.b, .int .i64 p.nonce, .slice so p.stakes.length c] 28 (0, 0)) ∧ A.heap[w.heap.size + 1]? = some (.cells zeroR 77 (0, 0)) ∧ A.heap[w.heap.size + 2]? = some (.cells (pgA zeroP) 87 (0, 0)) := by
    subst hA
    exact blocks3 (Below.refl _ _)
  clear hA
  have c1 := cell_of_cells (j := 1) k0 rfl
  have c3 := cell_of_cells (j := 3) k0 rfl
  have c4 := cell_of_cells (j := 4) k0 rfl
  have c5 := cell_of_cells (j := 5) k0 rfl
  have c6 := cell_of_cells (j := 6) k0 rfl
  go_wp2_with fail
  refine (read_v p.stakes so c A (stk_keep hs hbA)).mono ?_
  rintro r w1 ⟨rfl, hb1⟩
  rw [hF, hT, hE]
  have hs1 := hb1.size
  have m0 : w1.heap[w.heap.size]? = _ := (hb1.block _ (by omega)).trans k0
  have m1 : w1.heap[w.heap.size + 1]? = _ := (hb1.block _ (by omega)).trans k1
  have m2 : w1.heap[w.heap.size + 2]? = _ := (hb1.block _ (by omega)).trans k2
  have hbw := hbA.trans (hb1.mono (by omega))
  clear c1 c3 c4 c5 c6 k0 k1 k2 hbA hb1 hF hT hE hst hs
  have HFP := Go.Proofs.Ytpaakikgfojplab.hid (show firstP p = ⟨-1, fun j => p.stakes.getD j 0, zeroF, p.nonce, 0, zeroF, zeroF⟩ from rfl)
  have HRA := Go.Proofs.Ytpaakikgfojplab.hid (show rulA p = #[.int .i64 p.epoch, .int .i64 p.a, .int .i64 p.b, .int .i64 (p.stakes.length : Int), .int .i64 (total p)] from rfl)
  generalize hFF : (fun j => p.stakes.getD j 0) = FF at *
  generalize total p = TT at *
  go_upto_region 8 with (refine wpList_store_row rfl 85 _ _ rfl w1.heap.size (arA FF) rfl rfl 85 (arA zeroF) (heap_alloc_new w1 _) (info_arA _) rfl (arA_one _) ?_)
  generalize hW : (w1.alloc (.cells #[.int .i64 0, .int .i64 0, .int .i64 0, .int .i64 0, .int .i64 0, .int .i64 0] 85)).setRow w1.heap.size (arA FF) = W at *
  obtain ⟨hsW, hbW, hWR⟩ := row_new hW
  clear hW
  have q0 : W.heap[w.heap.size]? = _ := (hbW.block _ (by omega)).trans m0
  have q1 : W.heap[w.heap.size + 1]? = _ := (hbW.block _ (by omega)).trans m1
  have q2 : W.heap[w.heap.size + 2]? = _ := (hbW.block _ (by omega)).trans m2
  have hbw2 := hbw.trans (hbW.mono (by omega))
  generalize w1.heap.size = B at *
  clear m0 m1 m2 hbw hbW
  have c1 : W.cell? ⟨w.heap.size, 1, none⟩ = some (.int .i64 p.epoch) := cell_of_cells (j := 1) q0 rfl
  have c3 : W.cell? ⟨w.heap.size, 3, none⟩ = some (.int .i64 p.a) := cell_of_cells (j := 3) q0 rfl
  have c4 : W.cell? ⟨w.heap.size, 4, none⟩ = some (.int .i64 p.b) := cell_of_cells (j := 4) q0 rfl
  have c6 : W.cell? ⟨w.heap.size, 6, none⟩ = some (.slice so p.stakes.length c) := cell_of_cells (j := 6) q0 rfl
  have hir : isRl (W.alloc (.cells #[.int .i64 0, .int .i64 0, .int .i64 0, .int .i64 0, .int .i64 0] 77)) W.heap.size = true := isRl_of (heap_alloc_new W _) rfl
  go_upto_region 11 with fail
  generalize hV : (W.alloc (.cells #[.int .i64 0, .int .i64 0, .int .i64 0, .int .i64 0, .int .i64 0] 77)).setRow W.heap.size #[.int .i64 p.epoch, .int .i64 p.a, .int .i64 p.b, .int .i64 (p.stakes.length : Int), .int .i64 TT] = V at *
  obtain ⟨hsV, hbV, hVR⟩ := row_new hV
  clear hV hir c1 c3 c4 c6
  have hBW := lt_of_block hWR
  have v0 : V.heap[w.heap.size]? = _ := (hbV.block _ (by omega)).trans q0
  have v1 : V.heap[w.heap.size + 1]? = _ := (hbV.block _ (by omega)).trans q1
  have v2 : V.heap[w.heap.size + 2]? = _ := (hbV.block _ (by omega)).trans q2
  have vB : V.heap[B]? = _ := (hbV.block _ hBW).trans hWR
  have hbv := hbw2.trans (hbV.mono (by omega))
  generalize hRR : W.heap.size = RR at *
  clear q0 q1 q2 hWR hbw2 hbV
  have hB3 : w.heap.size + 3 ≤ B := by omega
  have hR3 : w.heap.size + 3 ≤ RR := by omega
  have c5 : V.cell? ⟨w.heap.size, 5, none⟩ = some (.int .i64 p.nonce) := cell_of_cells (j := 5) v0 rfl
  have r0 : V.cell? ⟨RR, 0, none⟩ = some (.int .i64 p.epoch) := cell_of_cells (j := 0) hVR rfl
  have r1 : V.cell? ⟨RR, 1, none⟩ = some (.int .i64 p.a) := cell_of_cells (j := 1) hVR rfl
  have r2 : V.cell? ⟨RR, 2, none⟩ = some (.int .i64 p.b) := cell_of_cells (j := 2) hVR rfl
  have r3 : V.cell? ⟨RR, 3, none⟩ = some (.int .i64 (p.stakes.length : Int)) := cell_of_cells (j := 3) hVR rfl
  have r4 : V.cell? ⟨RR, 4, none⟩ = some (.int .i64 TT) := cell_of_cells (j := 4) hVR rfl
  have po := arr_in vB
  have pok := po.1
  have prd := po.2
  have pok2 : okP V.drew B 0 6 = true := pok
  have prd2 : rdP V.drew B 0 6 = arA FF := prd
  have i1 : isRl V (w.heap.size + 1) = true := isRl_of v1 rfl
  have i2 : isPg V (w.heap.size + 2) = true := isPg_of v2 rfl
  have i1d : isRl V.drew (w.heap.size + 1) = true := i1
  have i2d : isPg V.drew (w.heap.size + 2) = true := i2
  have i3 : ∀ cs, isPg (V.setRow (w.heap.size + 1) cs) (w.heap.size + 2) = true := fun cs => (isPg_row (by omega)).trans i2
  have i3d : ∀ cs, isPg (V.drew.setRow (w.heap.size + 1) cs) (w.heap.size + 2) = true := fun cs => (isPg_row (by omega)).trans i2
  have i3e : ∀ cs, isPg (V.setRow (w.heap.size + 1) cs).drew (w.heap.size + 2) = true := fun cs => (isPg_row (by omega)).trans i2
  have i4 : ∀ cs, isRl (V.drew.setRow (w.heap.size + 2) cs) (w.heap.size + 1) = true := fun cs => (isRl_row (by omega)).trans i1
  have c5s : ∀ cs, (V.drew.setRow (w.heap.size + 1) cs).cell? ⟨w.heap.size, 5, none⟩ = some (.int .i64 p.nonce) := fun cs => (row_cell (by omega)).trans c5
  have poks : ∀ cs, okP (V.drew.setRow (w.heap.size + 1) cs) B 0 6 = true := fun cs => (row_part (by omega)).1.trans pok
  have prds : ∀ cs, rdP (V.drew.setRow (w.heap.size + 1) cs) B 0 6 = arA FF := fun cs => (row_part (by omega)).2.trans prd
  have u0 : ∀ cs, (V.drew.setRow (w.heap.size + 2) cs).cell? ⟨RR, 0, none⟩ = some (.int .i64 p.epoch) := fun cs => (row_cell (by omega)).trans r0
  have u1 : ∀ cs, (V.drew.setRow (w.heap.size + 2) cs).cell? ⟨RR, 1, none⟩ = some (.int .i64 p.a) := fun cs => (row_cell (by omega)).trans r1
  have u2 : ∀ cs, (V.drew.setRow (w.heap.size + 2) cs).cell? ⟨RR, 2, none⟩ = some (.int .i64 p.b) := fun cs => (row_cell (by omega)).trans r2
  have u3 : ∀ cs, (V.drew.setRow (w.heap.size + 2) cs).cell? ⟨RR, 3, none⟩ = some (.int .i64 (p.stakes.length : Int)) := fun cs => (row_cell (by omega)).trans r3
  have u4 : ∀ cs, (V.drew.setRow (w.heap.size + 2) cs).cell? ⟨RR, 4, none⟩ = some (.int .i64 TT) := fun cs => (row_cell (by omega)).trans r4
  have HV1b : Hid (∀ cs, (V.setRow (w.heap.size + 2) cs).heap[w.heap.size + 1]? = _) := fun cs => (setRow_other _ _ _ _ (by omega)).trans v1
  have HV2b := Go.Proofs.Ytpaakikgfojplab.hid v2
  have HV1 := Go.Proofs.Ytpaakikgfojplab.hid v1
  have HV2 : Hid (∀ cs, (V.setRow (w.heap.size + 1) cs).heap[w.heap.size + 2]? = _) := fun cs => (setRow_other _ _ _ _ (by omega)).trans v2
  have HBV := Go.Proofs.Ytpaakikgfojplab.hid hbv
  clear v0 v1 v2 vB hVR po hbv
  go_region
  all_goals
    go_wp2
    first
      | (refine bodyPost_ret (results_cct rfl _ _ _ (w.heap.size + 1) 77 #[.int .i64 p.epoch, .int .i64 p.a, .int .i64 p.b, .int .i64 (p.stakes.length : Int), .int .i64 TT] (0, 0) _ (w.heap.size + 2) 87 (pgA ⟨-1, FF, zeroF, p.nonce, 0, zeroF, zeroF⟩) (0, 0) _ rfl rfl ((setRow_other _ _ _ _ (by omega)).trans (setRow_heap _ _ _ _ _ _ HV1.out)) (setRow_heap _ _ _ _ _ _ (HV2.out _)) rfl rfl Try.underlying77 Try.underlying87 info_rul (info_page _)) rfl ⟨by rw [HFP.out, HRA.out]; rfl, ?_⟩
         exact Below.setRow (Below.setRow HBV.out.drew (by omega) _) (by omega) _)
      | (refine bodyPost_ret (results_cct rfl _ _ _ (w.heap.size + 1) 77 #[.int .i64 p.epoch, .int .i64 p.a, .int .i64 p.b, .int .i64 (p.stakes.length : Int), .int .i64 TT] (0, 0) _ (w.heap.size + 2) 87 (pgA ⟨-1, FF, zeroF, p.nonce, 0, zeroF, zeroF⟩) (0, 0) _ rfl rfl (setRow_heap _ _ _ _ _ _ (HV1b.out _)) ((setRow_other _ _ _ _ (by omega)).trans (setRow_heap _ _ _ _ _ _ HV2b.out)) rfl rfl Try.underlying77 Try.underlying87 info_rul (info_page _)) rfl ⟨by rw [HFP.out, HRA.out]; rfl, ?_⟩
         exact Below.setRow (Below.setRow HBV.out.drew (by omega) _) (by omega) _)

theorem begin_is (p : Par) (so : Option Addr) (c : Nat) (w : World) (hs : StkAt w so p.stakes) :
    Calls Try.prog 57 #[parV p so c] w fun e w' => e = .returned (.tuple #[.agg (if bgOk p then rulA p else zeroR), .agg (pgA (if bgOk p then firstP p else zeroP)), .int .i64 (if bgOk p then 0 else 1)]) ∧ Below w.heap.size w w' := by
  by_cases hall : rgOk p
  · by_cases hst : stOk p.stakes
    · have hb : bgOk p := ⟨hall.1, hall.2.1, hall.2.2.1, hall.2.2.2.1, hall.2.2.2.2.1, hall.2.2.2.2.2.1, hall.2.2.2.2.2.2.1, hall.2.2.2.2.2.2.2, hst⟩
      rw [if_pos hb, if_pos hb, if_pos hb]
      exact begin_yes p so c w hs hall hst
    · have hb : ¬ bgOk p := fun h => hst h.2.2.2.2.2.2.2.2
      rw [if_neg hb, if_neg hb, if_neg hb]
      exact begin_st p so c w hs hall hst
  · exact begin_no p so c w hall

end Go.Proofs.Ytpaakikgfojplab

