import Derived.Test.YtpaakikgfojplaaGreatCM33
import Derived.Test.YtpaakikgfojplaaGreatCM30
import Derived.Test.YtpaakikgfojplaaGreatCBc3
import Derived.Test.YtpaakikgfojplaaGreatCM24
import Derived.Test.YtpaakikgfojplaaGreatCNd
/-
  THE WALKS of the program's New: ledger.Begin, whole.
-/
namespace Go.Proofs.YtpaakikgfojplaaGreat
open Go.RowKit Num Bk
set_option linter.unusedVariables false

def stF (l : List Int) : Nat → Int := if stOk l then (fun j => l.getD j 0) else zeroF
def stT (l : List Int) : Int := if stOk l then l.sum else 0
def stE (l : List Int) : Int := if stOk l then 0 else 1
theorem read_v (l : List Int) (so : Option Addr) (c : Nat) (w : World) (hs : StkAt w so l) :
    Calls Tryz.prog 46 #[.slice so l.length c] w fun e w' => e = .returned (.tuple #[.agg (arA (stF l)), .int .i64 (stT l), .int .i64 (stE l)]) ∧ Below w.heap.size w w' := read_is l so c w hs

theorem arr_in {w : World} {B : Nat} {f : Nat → Int} (h : w.heap[B]? = some (.cells (arA f) 54 (0, 0))) : okP w B 0 6 = true ∧ rdP w B 0 6 = arA f :=
  part_in h rfl (fun j _ => by rw [Nat.zero_add])
theorem stk_keep {w w' : World} {so : Option Addr} {l : List Int} (h : StkAt w so l) (hb : Below w.heap.size w w') : StkAt w' so l := by
  intro j hj
  obtain ⟨g, off, e, hc⟩ := h j hj
  exact ⟨g, off, e, (hb.cell (p := ⟨g, off + j, none⟩) (World.block_lt_of_cell? w _ hc)).trans hc⟩
theorem isRl_row {w : World} {b b' : Nat} {cs : Array Value} (h : b ≠ b') : isRl (w.setRow b' cs) b = isRl w b := by unfold isRl; rw [setRow_other _ _ _ _ h]
theorem isPg_row {w : World} {b b' : Nat} {cs : Array Value} (h : b ≠ b') : isPg (w.setRow b' cs) b = isPg w b := by unfold isPg; rw [setRow_other _ _ _ _ h]

set_option maxHeartbeats 6400000 in
set_option maxRecDepth 1000000 in
theorem begin_st (p : Par) (so : Option Addr) (c : Nat) (w : World) (hs : StkAt w so p.stakes) (hall : rgOk p) (hst : ¬ stOk p.stakes) :
    Calls Tryz.prog 16 #[parV p so c] w fun e w' => e = .returned (.tuple #[.agg zeroR, .agg (pgA zeroP), .int .i64 1]) ∧ Below w.heap.size w w' := by
  obtain ⟨e1, e2, b1, b2, a1, a2, n1, n2⟩ := hall
  have hE : stE p.stakes = 1 := if_neg hst
  unfold parV
  go_enter Tryz.func16, Tryz.ntmps16
  go_upto_region 1 with fail
  generalize hA : ((w.alloc (.cells #[.int .i64 p.depth, .int .i64 p.epoch, .int .i64 p.room, .int .i64 p.a, .int .i64 p.b, .int .i64 p.nonce, .slice so p.stakes.length c] 24)).alloc (.cells #[.int .i64 0, .int .i64 0, .int .i64 0, .int .i64 0, .int .i64 0] 53)).alloc (.cells #[.int .i64 0, .int .i64 0, .int .i64 0, .int .i64 0, .int .i64 0, .int .i64 0, .int .i64 0, .int .i64 0, .int .i64 0, .int .i64 0, .int .i64 0, .int .i64 0, .int .i64 0, .int .i64 0, .int .i64 0, .int .i64 0, .int .i64 0, .int .i64 0, .int .i64 0, .int .i64 0, .int .i64 0, .int .i64 0, .int .i64 0, .int .i64 0, .int .i64 0, .int .i64 0, .int .i64 0] 56) = A at *
  obtain ⟨hsA, hbA, k0, k1, k2⟩ : w.heap.size + 3 ≤ A.heap.size ∧ Below w.heap.size w A ∧ A.heap[w.heap.size]? = some (.cells #[.int .i64 p.depth, .int .i64 p.epoch, .int .i64 p.room, .int .i64 p.a, .int .i64 p.b, .int .i64 p.nonce, .slice so p.stakes.length c] 24 (0, 0)) ∧ A.heap[w.heap.size + 1]? = some (.cells zeroR 53 (0, 0)) ∧ A.heap[w.heap.size + 2]? = some (.cells (pgA zeroP) 56 (0, 0)) := by
    subst hA
    exact blocks3 (Below.refl _ _)
  clear hA
  have c1 := cell_of_cells (j := 1) k0 rfl
  have c3 := cell_of_cells (j := 3) k0 rfl
  have c4 := cell_of_cells (j := 4) k0 rfl
  have c5 := cell_of_cells (j := 5) k0 rfl
  have c6 := cell_of_cells (j := 6) k0 rfl
  go_wp2_with fail
  refine (read_v p.stakes so c A (stk_keep hs hbA)).mono ?_
  rintro r w1 ⟨rfl, hb1⟩
  rw [hE]
  have hs1 := hb1.size
  have m0 : w1.heap[w.heap.size]? = _ := (hb1.block _ (by omega)).trans k0
  have m1 : w1.heap[w.heap.size + 1]? = _ := (hb1.block _ (by omega)).trans k1
  have m2 : w1.heap[w.heap.size + 2]? = _ := (hb1.block _ (by omega)).trans k2
  have hbw := hbA.trans (hb1.mono (by omega))
  clear c1 c3 c4 c5 c6 k0 k1 k2 hbA hb1 hE hst hs
  generalize stF p.stakes = FF at *
  generalize stT p.stakes = TT at *
  go_upto_region 8 with (refine wpList_store_row rfl 54 _ _ rfl w1.heap.size (arA FF) rfl rfl 54 (arA zeroF) (heap_alloc_new w1 _) (info_arA _) rfl (arA_one _) ?_)
  generalize hW : (w1.alloc (.cells #[.int .i64 0, .int .i64 0, .int .i64 0, .int .i64 0, .int .i64 0, .int .i64 0] 54)).setRow w1.heap.size (arA FF) = W at *
  obtain ⟨hsW, hbW, hWR⟩ := row_new hW
  clear hW
  have q0 : W.heap[w.heap.size]? = _ := (hbW.block _ (by omega)).trans m0
  have q1 : W.heap[w.heap.size + 1]? = _ := (hbW.block _ (by omega)).trans m1
  have q2 : W.heap[w.heap.size + 2]? = _ := (hbW.block _ (by omega)).trans m2
  have hbw2 := hbw.trans (hbW.mono (by omega))
  generalize w1.heap.size = B at *
  clear m0 m1 m2 hbw hbW
  have s2 : ∀ cs, (W.setRow (w.heap.size + 1) cs).heap[w.heap.size + 2]? = some (.cells (pgA zeroP) 56 (0, 0)) := fun cs => (setRow_other _ _ _ _ (by omega)).trans q2
  go_wp2_with (first | refine wpList_store_row rfl 53 _ _ rfl (w.heap.size + 1) zeroR rfl rfl 53 zeroR q1 info_rul rfl rul_one0 ?_ | refine wpList_store_row rfl 56 _ _ rfl (w.heap.size + 2) (pgA zeroP) rfl rfl 56 (pgA zeroP) (s2 _) (info_page _) rfl (pg_one _) ?_)
  refine bodyPost_ret (results_cct rfl _ _ _ (w.heap.size + 1) 53 zeroR (0, 0) _ (w.heap.size + 2) 56 (pgA zeroP) (0, 0) _ rfl rfl ((setRow_other _ _ _ _ (by omega)).trans (setRow_heap _ _ _ _ _ _ q1)) (setRow_heap _ _ _ _ _ _ (s2 _)) rfl rfl Tryz.underlying53 Tryz.underlying56 info_rul (info_page _)) rfl ⟨rfl, Below.setRow (Below.setRow hbw2 (by omega) _) (by omega) _⟩

attribute [local go_sem ↓] loadAr_eq buildPg_eq storePg_eq storeRl_eq
attribute [local go_sem] run_loadAr run_buildPg run_storePg run_storeRl

set_option maxHeartbeats 6400000 in
set_option maxRecDepth 1000000 in
theorem begin_yes (p : Par) (so : Option Addr) (c : Nat) (w : World) (hs : StkAt w so p.stakes) (hall : rgOk p) (hst : stOk p.stakes) :
    Calls Tryz.prog 16 #[parV p so c] w fun e w' => e = .returned (.tuple #[.agg (rulA p), .agg (pgA (firstP p)), .int .i64 0]) ∧ Below w.heap.size w w' := by
  obtain ⟨e1, e2, b1, b2, a1, a2, n1, n2⟩ := hall
  have hF : stF p.stakes = fun j => p.stakes.getD j 0 := if_pos hst
  have hT : stT p.stakes = total p := if_pos hst
  have hE : stE p.stakes = 0 := if_pos hst
  unfold parV
  go_enter Tryz.func16, Tryz.ntmps16
  go_upto_region 1 with fail
  generalize hA : ((w.alloc (.cells #[.int .i64 p.depth, .int .i64 p.epoch, .int .i64 p.room, .int .i64 p.a, .int .i64 p.b, .int .i64 p.nonce, .slice so p.stakes.length c] 24)).alloc (.cells #[.int .i64 0, .int .i64 0, .int .i64 0, .int .i64 0, .int .i64 0] 53)).alloc (.cells #[.int .i64 0, .int .i64 0, .int .i64 0, .int .i64 0, .int .i64 0, .int .i64 0, .int .i64 0, .int .i64 0, .int .i64 0, .int .i64 0, .int .i64 0, .int .i64 0, .int .i64 0, .int .i64 0, .int .i64 0, .int .i64 0, .int .i64 0, .int .i64 0, .int .i64 0, .int .i64 0, .int .i64 0, .int .i64 0, .int .i64 0, .int .i64 0, .int .i64 0, .int .i64 0, .int .i64 0] 56) = A at *
  obtain ⟨hsA, hbA, k0, k1, k2⟩ : w.heap.size + 3 ≤ A.heap.size ∧ Below w.heap.size w A ∧ A.heap[w.heap.size]? = some (.cells #[.int .i64 p.depth, .int .i64 p.epoch, .int .i64 p.room, .int .i64 p.a, .int .i64 p.b, .int .i64 p.nonce, .slice so p.stakes.length c] 24 (0, 0)) ∧ A.heap[w.heap.size + 1]? = some (.cells zeroR 53 (0, 0)) ∧ A.heap[w.heap.size + 2]? = some (.cells (pgA zeroP) 56 (0, 0)) := by
    subst hA
    exact blocks3 (Below.refl _ _)
  clear hA
  have c1 := cell_of_cells (j := 1) k0 rfl
  have c3 := cell_of_cells (j := 3) k0 rfl
  have c4 := cell_of_cells (j := 4) k0 rfl
  have c5 := cell_of_cells (j := 5) k0 rfl
  have c6 := cell_of_cells (j := 6) k0 rfl
  go_wp2_with fail
  refine (read_v p.stakes so c A (stk_keep hs hbA)).mono ?_
  rintro r w1 ⟨rfl, hb1⟩
  rw [hF, hT, hE]
  have hs1 := hb1.size
  have m0 : w1.heap[w.heap.size]? = _ := (hb1.block _ (by omega)).trans k0
  have m1 : w1.heap[w.heap.size + 1]? = _ := (hb1.block _ (by omega)).trans k1
  have m2 : w1.heap[w.heap.size + 2]? = _ := (hb1.block _ (by omega)).trans k2
  have hbw := hbA.trans (hb1.mono (by omega))
  clear c1 c3 c4 c5 c6 k0 k1 k2 hbA hb1 hF hT hE hst hs
  have HFP := Go.Proofs.YtpaakikgfojplaaGreat.hid (show firstP p = ⟨-1, fun j => p.stakes.getD j 0, zeroF, p.nonce, 0, zeroF, zeroF⟩ from rfl)
  have HRA := Go.Proofs.YtpaakikgfojplaaGreat.hid (show rulA p = #[.int .i64 p.epoch, .int .i64 p.a, .int .i64 p.b, .int .i64 (p.stakes.length : Int), .int .i64 (total p)] from rfl)
  generalize hFF : (fun j => p.stakes.getD j 0) = FF at *
  generalize total p = TT at *
  go_upto_region 8 with (refine wpList_store_row rfl 54 _ _ rfl w1.heap.size (arA FF) rfl rfl 54 (arA zeroF) (heap_alloc_new w1 _) (info_arA _) rfl (arA_one _) ?_)
  generalize hW : (w1.alloc (.cells #[.int .i64 0, .int .i64 0, .int .i64 0, .int .i64 0, .int .i64 0, .int .i64 0] 54)).setRow w1.heap.size (arA FF) = W at *
  obtain ⟨hsW, hbW, hWR⟩ := row_new hW
  clear hW
  have q0 : W.heap[w.heap.size]? = _ := (hbW.block _ (by omega)).trans m0
  have q1 : W.heap[w.heap.size + 1]? = _ := (hbW.block _ (by omega)).trans m1
  have q2 : W.heap[w.heap.size + 2]? = _ := (hbW.block _ (by omega)).trans m2
  have hbw2 := hbw.trans (hbW.mono (by omega))
  generalize w1.heap.size = B at *
  clear m0 m1 m2 hbw hbW
  have c1 : W.cell? ⟨w.heap.size, 1, none⟩ = some (.int .i64 p.epoch) := cell_of_cells (j := 1) q0 rfl
  have c3 : W.cell? ⟨w.heap.size, 3, none⟩ = some (.int .i64 p.a) := cell_of_cells (j := 3) q0 rfl
  have c4 : W.cell? ⟨w.heap.size, 4, none⟩ = some (.int .i64 p.b) := cell_of_cells (j := 4) q0 rfl
  have c6 : W.cell? ⟨w.heap.size, 6, none⟩ = some (.slice so p.stakes.length c) := cell_of_cells (j := 6) q0 rfl
  have hir : isRl (W.alloc (.cells #[.int .i64 0, .int .i64 0, .int .i64 0, .int .i64 0, .int .i64 0] 53)) W.heap.size = true := isRl_of (heap_alloc_new W _) rfl
  go_upto_region 11 with fail
  generalize hV : (W.alloc (.cells #[.int .i64 0, .int .i64 0, .int .i64 0, .int .i64 0, .int .i64 0] 53)).setRow W.heap.size #[.int .i64 p.epoch, .int .i64 p.a, .int .i64 p.b, .int .i64 (p.stakes.length : Int), .int .i64 TT] = V at *
  obtain ⟨hsV, hbV, hVR⟩ := row_new hV
  clear hV hir c1 c3 c4 c6
  have hBW := lt_of_block hWR
  have v0 : V.heap[w.heap.size]? = _ := (hbV.block _ (by omega)).trans q0
  have v1 : V.heap[w.heap.size + 1]? = _ := (hbV.block _ (by omega)).trans q1
  have v2 : V.heap[w.heap.size + 2]? = _ := (hbV.block _ (by omega)).trans q2
  have vB : V.heap[B]? = _ := (hbV.block _ hBW).trans hWR
  have hbv := hbw2.trans (hbV.mono (by omega))
  generalize hRR : W.heap.size = RR at *
  clear q0 q1 q2 hWR hbw2 hbV
  have hB3 : w.heap.size + 3 ≤ B := by omega
  have hR3 : w.heap.size + 3 ≤ RR := by omega
  have c5 : V.cell? ⟨w.heap.size, 5, none⟩ = some (.int .i64 p.nonce) := cell_of_cells (j := 5) v0 rfl
  have r0 : V.cell? ⟨RR, 0, none⟩ = some (.int .i64 p.epoch) := cell_of_cells (j := 0) hVR rfl
  have r1 : V.cell? ⟨RR, 1, none⟩ = some (.int .i64 p.a) := cell_of_cells (j := 1) hVR rfl
  have r2 : V.cell? ⟨RR, 2, none⟩ = some (.int .i64 p.b) := cell_of_cells (j := 2) hVR rfl
  have r3 : V.cell? ⟨RR, 3, none⟩ = some (.int .i64 (p.stakes.length : Int)) := cell_of_cells (j := 3) hVR rfl
  have r4 : V.cell? ⟨RR, 4, none⟩ = some (.int .i64 TT) := cell_of_cells (j := 4) hVR rfl
  have po := arr_in vB
  have pok := po.1
  have prd := po.2
  have pok2 : okP V.drew B 0 6 = true := pok
  have prd2 : rdP V.drew B 0 6 = arA FF := prd
  have i1 : isRl V (w.heap.size + 1) = true := isRl_of v1 rfl
  have i2 : isPg V (w.heap.size + 2) = true := isPg_of v2 rfl
  have i1d : isRl V.drew (w.heap.size + 1) = true := i1
  have i2d : isPg V.drew (w.heap.size + 2) = true := i2
  have i3 : ∀ cs, isPg (V.setRow (w.heap.size + 1) cs) (w.heap.size + 2) = true := fun cs => (isPg_row (by omega)).trans i2
  have i3d : ∀ cs, isPg (V.drew.setRow (w.heap.size + 1) cs) (w.heap.size + 2) = true := fun cs => (isPg_row (by omega)).trans i2
  have i3e : ∀ cs, isPg (V.setRow (w.heap.size + 1) cs).drew (w.heap.size + 2) = true := fun cs => (isPg_row (by omega)).trans i2
  have i4 : ∀ cs, isRl (V.drew.setRow (w.heap.size + 2) cs) (w.heap.size + 1) = true := fun cs => (isRl_row (by omega)).trans i1
  have c5s : ∀ cs, (V.drew.setRow (w.heap.size + 1) cs).cell? ⟨w.heap.size, 5, none⟩ = some (.int .i64 p.nonce) := fun cs => (row_cell (by omega)).trans c5
  have poks : ∀ cs, okP (V.drew.setRow (w.heap.size + 1) cs) B 0 6 = true := fun cs => (row_part (by omega)).1.trans pok
  have prds : ∀ cs, rdP (V.drew.setRow (w.heap.size + 1) cs) B 0 6 = arA FF := fun cs => (row_part (by omega)).2.trans prd
  have u0 : ∀ cs, (V.drew.setRow (w.heap.size + 2) cs).cell? ⟨RR, 0, none⟩ = some (.int .i64 p.epoch) := fun cs => (row_cell (by omega)).trans r0
  have u1 : ∀ cs, (V.drew.setRow (w.heap.size + 2) cs).cell? ⟨RR, 1, none⟩ = some (.int .i64 p.a) := fun cs => (row_cell (by omega)).trans r1
  have u2 : ∀ cs, (V.drew.setRow (w.heap.size + 2) cs).cell? ⟨RR, 2, none⟩ = some (.int .i64 p.b) := fun cs => (row_cell (by omega)).trans r2
  have u3 : ∀ cs, (V.drew.setRow (w.heap.size + 2) cs).cell? ⟨RR, 3, none⟩ = some (.int .i64 (p.stakes.length : Int)) := fun cs => (row_cell (by omega)).trans r3
  have u4 : ∀ cs, (V.drew.setRow (w.heap.size + 2) cs).cell? ⟨RR, 4, none⟩ = some (.int .i64 TT) := fun cs => (row_cell (by omega)).trans r4
  have HV1b : Hid (∀ cs, (V.setRow (w.heap.size + 2) cs).heap[w.heap.size + 1]? = _) := fun cs => (setRow_other _ _ _ _ (by omega)).trans v1
  have HV2b := Go.Proofs.YtpaakikgfojplaaGreat.hid v2
  have HV1 := Go.Proofs.YtpaakikgfojplaaGreat.hid v1
  have HV2 : Hid (∀ cs, (V.setRow (w.heap.size + 1) cs).heap[w.heap.size + 2]? = _) := fun cs => (setRow_other _ _ _ _ (by omega)).trans v2
  have HBV := Go.Proofs.YtpaakikgfojplaaGreat.hid hbv
  clear v0 v1 v2 vB hVR po hbv
  go_region
  all_goals
    go_wp2
    first
      | (refine bodyPost_ret (results_cct rfl _ _ _ (w.heap.size + 1) 53 #[.int .i64 p.epoch, .int .i64 p.a, .int .i64 p.b, .int .i64 (p.stakes.length : Int), .int .i64 TT] (0, 0) _ (w.heap.size + 2) 56 (pgA ⟨-1, FF, zeroF, p.nonce, 0, zeroF, zeroF⟩) (0, 0) _ rfl rfl ((setRow_other _ _ _ _ (by omega)).trans (setRow_heap _ _ _ _ _ _ HV1.out)) (setRow_heap _ _ _ _ _ _ (HV2.out _)) rfl rfl Tryz.underlying53 Tryz.underlying56 info_rul (info_page _)) rfl ⟨by rw [HFP.out, HRA.out]; rfl, ?_⟩
         exact Below.setRow (Below.setRow HBV.out.drew (by omega) _) (by omega) _)
      | (refine bodyPost_ret (results_cct rfl _ _ _ (w.heap.size + 1) 53 #[.int .i64 p.epoch, .int .i64 p.a, .int .i64 p.b, .int .i64 (p.stakes.length : Int), .int .i64 TT] (0, 0) _ (w.heap.size + 2) 56 (pgA ⟨-1, FF, zeroF, p.nonce, 0, zeroF, zeroF⟩) (0, 0) _ rfl rfl (setRow_heap _ _ _ _ _ _ (HV1b.out _)) ((setRow_other _ _ _ _ (by omega)).trans (setRow_heap _ _ _ _ _ _ HV2b.out)) rfl rfl Tryz.underlying53 Tryz.underlying56 info_rul (info_page _)) rfl ⟨by rw [HFP.out, HRA.out]; rfl, ?_⟩
         exact Below.setRow (Below.setRow HBV.out.drew (by omega) _) (by omega) _)

theorem begin_is (p : Par) (so : Option Addr) (c : Nat) (w : World) (hs : StkAt w so p.stakes) :
    Calls Tryz.prog 16 #[parV p so c] w fun e w' => e = .returned (.tuple #[.agg (if bgOk p then rulA p else zeroR), .agg (pgA (if bgOk p then firstP p else zeroP)), .int .i64 (if bgOk p then 0 else 1)]) ∧ Below w.heap.size w w' := by
  by_cases hall : rgOk p
  · by_cases hst : stOk p.stakes
    · have hb : bgOk p := ⟨hall.1, hall.2.1, hall.2.2.1, hall.2.2.2.1, hall.2.2.2.2.1, hall.2.2.2.2.2.1, hall.2.2.2.2.2.2.1, hall.2.2.2.2.2.2.2, hst⟩
      rw [if_pos hb, if_pos hb, if_pos hb]
      exact begin_yes p so c w hs hall hst
    · have hb : ¬ bgOk p := fun h => hst h.2.2.2.2.2.2.2.2
      rw [if_neg hb, if_neg hb, if_neg hb]
      exact begin_st p so c w hs hall hst
  · exact begin_no p so c w hall

end Go.Proofs.YtpaakikgfojplaaGreat

/-
  THE WALKS of the program's New: tree.Begin.
-/
namespace Go.Proofs.YtpaakikgfojplaaGreat
open Go.RowKit Num Bk
set_option linter.unusedVariables false

def zeroT : Array Value := #[.int .i64 0, .int .i64 0, .int .i64 0, .slice none 0 0, .slice none 0 0]
def treA (d r : Int) (g : Nat) : Array Value := #[.int .i64 d, .int .i64 r, .int .i64 0, .slice (some ⟨g, 0, none⟩) 1 1, .slice none 0 0]
theorem info_tre : (Tryz.prog.info? 61).map (·.size) = some 5 := by kernel_rfl
theorem treA_one (d r : Int) (g : Nat) : (treA d r g).all (·.oneCell') = true := by simp [treA, Value.oneCell']
theorem zeroT_one : zeroT.all (·.oneCell') = true := by simp [zeroT, Value.oneCell']

/-- The first header's node. -/
def firstN (g : Pg) : Nd := ⟨0, -1, 0, zeroH, g⟩
def buildN2 (parts : Array (Nat × Value)) : Sem Value := Instr.build 95 parts
theorem buildN2_eq (parts : Array (Nat × Value)) : Instr.build 95 parts = buildN2 parts := rfl
theorem run_buildN2 (w : World) (a : Int) (g : Pg) : (buildN2 #[(1, .int .i64 a), (4, .agg (pgA g))]).run Tryz.prog w = .ok (.agg (ndA ⟨0, a, 0, zeroH, g⟩)) w := by
  unfold buildN2
  exact run_build w 95 _ (ndA ⟨0, a, 0, zeroH, g⟩) (by kernel_rfl)

attribute [local go_sem ↓] buildN2_eq buildNs_eq
attribute [local go_sem] run_buildN2 run_buildNs

set_option maxHeartbeats 6400000 in
set_option maxRecDepth 1000000 in
theorem tbegin_no (d r : Int) (g : Pg) (w : World) (h : d < 1 ∨ 8 < d ∨ r < 2 ∨ 40 < r) :
    Calls Tryz.prog 17 #[.int .i64 d, .int .i64 r, .agg (pgA g)] w fun e w' => e = .returned (.tuple #[.agg zeroT, .int .i64 1]) ∧ Below w.heap.size w w' := by
  go_enter Tryz.func17, Tryz.ntmps17
  go_upto_region 1 with fail
  generalize hA : (w.alloc (.cells (pgA g) 56)).alloc (.cells #[.int .i64 0, .int .i64 0, .int .i64 0, .slice none 0 0, .slice none 0 0] 61) = A at *
  obtain ⟨hsA, hbA, k0, k1⟩ : w.heap.size + 2 ≤ A.heap.size ∧ Below w.heap.size w A ∧ A.heap[w.heap.size]? = some (.cells (pgA g) 56 (0, 0)) ∧ A.heap[w.heap.size + 1]? = some (.cells zeroT 61 (0, 0)) := by
    subst hA
    exact blocks2 (Below.refl _ _)
  clear hA
  by_cases q1 : d < 1
  · go_wp2_with (refine wpList_store_row rfl 61 _ _ rfl (w.heap.size + 1) zeroT rfl rfl 61 zeroT k1 info_tre rfl zeroT_one ?_)
    refine bodyPost_ret (results_ct rfl _ _ _ (w.heap.size + 1) 61 zeroT (0, 0) _ rfl (setRow_heap _ _ _ _ _ _ k1) rfl Tryz.underlying61 info_tre) rfl ⟨rfl, Below.setRow hbA (by omega) _⟩
  by_cases q2 : 8 < d
  · go_wp2_with (refine wpList_store_row rfl 61 _ _ rfl (w.heap.size + 1) zeroT rfl rfl 61 zeroT k1 info_tre rfl zeroT_one ?_)
    refine bodyPost_ret (results_ct rfl _ _ _ (w.heap.size + 1) 61 zeroT (0, 0) _ rfl (setRow_heap _ _ _ _ _ _ k1) rfl Tryz.underlying61 info_tre) rfl ⟨rfl, Below.setRow hbA (by omega) _⟩
  by_cases q3 : r < 2
  · go_wp2_with (refine wpList_store_row rfl 61 _ _ rfl (w.heap.size + 1) zeroT rfl rfl 61 zeroT k1 info_tre rfl zeroT_one ?_)
    refine bodyPost_ret (results_ct rfl _ _ _ (w.heap.size + 1) 61 zeroT (0, 0) _ rfl (setRow_heap _ _ _ _ _ _ k1) rfl Tryz.underlying61 info_tre) rfl ⟨rfl, Below.setRow hbA (by omega) _⟩
  have q4 : 40 < r := by omega
  go_wp2_with (refine wpList_store_row rfl 61 _ _ rfl (w.heap.size + 1) zeroT rfl rfl 61 zeroT k1 info_tre rfl zeroT_one ?_)
  refine bodyPost_ret (results_ct rfl _ _ _ (w.heap.size + 1) 61 zeroT (0, 0) _ rfl (setRow_heap _ _ _ _ _ _ k1) rfl Tryz.underlying61 info_tre) rfl ⟨rfl, Below.setRow hbA (by omega) _⟩

set_option maxHeartbeats 6400000 in
set_option maxRecDepth 1000000 in
theorem tbegin_yes (d r : Int) (g : Pg) (w : World) (h1 : 1 ≤ d) (h2 : d ≤ 8) (h3 : 2 ≤ r) (h4 : r ≤ 40) :
    Calls Tryz.prog 17 #[.int .i64 d, .int .i64 r, .agg (pgA g)] w fun e w' => ∃ b, e = .returned (.tuple #[.agg (treA d r b), .int .i64 0]) ∧ w'.heap[b]? = some (.cells (ndA (firstN g)) 95 (0, 0)) ∧ w.heap.size ≤ b ∧ Below w.heap.size w w' := by
  go_enter Tryz.func17, Tryz.ntmps17
  go_upto_region 1 with fail
  generalize hA : (w.alloc (.cells (pgA g) 56)).alloc (.cells #[.int .i64 0, .int .i64 0, .int .i64 0, .slice none 0 0, .slice none 0 0] 61) = A at *
  obtain ⟨hsA, hbA, k0, k1⟩ : w.heap.size + 2 ≤ A.heap.size ∧ Below w.heap.size w A ∧ A.heap[w.heap.size]? = some (.cells (pgA g) 56 (0, 0)) ∧ A.heap[w.heap.size + 1]? = some (.cells zeroT 61 (0, 0)) := by
    subst hA
    exact blocks2 (Below.refl _ _)
  clear hA
  go_upto_region 4 with (first | refine wpList_load_row rfl 56 _ rfl w.heap.size rfl 56 (pgA g) (0, 0) _ k0 Tryz.underlying56 rfl (info_page _) ?_ | refine wpList_store_row rfl 95 _ _ rfl A.heap.size (ndA (firstN g)) rfl rfl 95 (ndA zeroN) (heap_alloc_new A _) (info_nodeA _) rfl (nd_one _) ?_)
  generalize hW : (A.alloc (.cells #[.int .i64 0, .int .i64 0, .int .i64 0, .int .i64 0, .int .i64 0, .int .i64 0, .int .i64 0, .int .i64 0, .int .i64 0, .int .i64 0, .int .i64 0, .int .i64 0, .int .i64 0, .int .i64 0, .int .i64 0, .int .i64 0, .int .i64 0, .int .i64 0, .int .i64 0, .int .i64 0, .int .i64 0, .int .i64 0, .int .i64 0, .int .i64 0, .int .i64 0, .int .i64 0, .int .i64 0, .int .i64 0, .int .i64 0, .int .i64 0, .int .i64 0, .int .i64 0, .int .i64 0, .int .i64 0, .int .i64 0, .int .i64 0, .int .i64 0] 95)).setRow A.heap.size (ndA (firstN g)) = W at *
  obtain ⟨hsW, hbW, hWR⟩ := row_new hW
  clear hW
  have m1 : W.heap[w.heap.size + 1]? = _ := (hbW.block _ (by omega)).trans k1
  have hbw := hbA.trans (hbW.mono (by omega))
  have hk1 : ∀ o, (W.alloc o).heap[w.heap.size + 1]? = some (.cells zeroT 61 (0, 0)) := fun o => (Below.heap_alloc _ _ _ (lt_of_block m1)).trans m1
  generalize A.heap.size = B at *
  clear k0 k1 hbA hbW m1
  have hwW : w.heap.size + 1 < W.heap.size := by omega
  go_wp2_with (first | refine wpList_load_row rfl 95 _ rfl B rfl 95 (ndA (firstN g)) (0, 0) _ hWR Tryz.underlying95 rfl (info_nodeA _) ?_ | refine wpList_store_row rfl 61 _ _ rfl (w.heap.size + 1) (treA d r W.heap.size) rfl rfl 61 zeroT (hk1 _) info_tre rfl (treA_one _ _ _) ?_)
  refine bodyPost_ret (results_ct rfl _ _ _ (w.heap.size + 1) 61 (treA d r W.heap.size) (0, 0) _ rfl (setRow_heap _ _ _ _ _ _ (hk1 _)) rfl Tryz.underlying61 info_tre) rfl ⟨W.heap.size, rfl, ?_, by omega, Below.setRow (hbw.alloc (by omega) _) (by omega) _⟩
  rw [setRow_other _ _ _ _ (by omega)]
  exact heap_alloc_new W _

end Go.Proofs.YtpaakikgfojplaaGreat

/-
  MATHEMATICS: the path as the program tells it; what a step does to the tip, to what is final, and to the chosen line.
-/
namespace Go.Proofs.YtpaakikgfojplaaGreat
open Go.RowKit Num Bk
set_option linter.unusedVariables false

namespace Bk

/-- The number of the parent as the program keeps it. -/
def parI (all : List Itm) (k : Nat) : Int := if k = 0 then -1 else pa all k

/-- A walk down a list of falling numbers, from one parent to the next. -/
def downK (all : List Itm) : List Nat → Int → List Nat
  | [], _ => []
  | k :: r, at' => if (k : Int) = at' then k :: downK all r (parI all k) else downK all r at'

theorem downK_none (all : List Itm) : ∀ (l : List Nat) (q : Int), (∀ k ∈ l, (k : Int) ≠ q) → downK all l q = [] := by
  intro l
  induction l with
  | nil => intro q _; rfl
  | cons k r ih =>
    intro q h
    rw [downK, if_neg (h k (by simp))]
    exact ih q (fun j hj => h j (by simp [hj]))

theorem line_drop_step {all : List Itm} (ht : Tree all) {t : Nat} (h0 : 0 < t) {n : Nat} (hn : n ≤ height all (pa all t) + 1) : (line all t).drop n = (line all (pa all t)).drop n ++ [t] := by
  rw [line_step ht h0, List.drop_append_of_le_length (by rw [line_length ht]; exact hn)]

theorem down_line {all : List Itm} (ht : Tree all) (f : Nat) (K : List Nat) (hK : ∀ i, f ∈ line all i → (∃ j ∈ K, i ∈ line all j) → i ∈ K) (hf : ∀ i ∈ K, f ∈ line all i) :
    ∀ (r : List Nat), (∀ j ∈ r, j ∈ K) → (r.Pairwise (· > ·)) → (∀ i ∈ K, ∀ j ∈ r, i < j → i ∈ r) → ∀ t ∈ r, downK all r (t : Int) = ((line all t).drop (height all f)).reverse := by
  intro r
  induction r with
  | nil => intro _ _ _ t h; simp at h
  | cons k r ih =>
    intro hsub hp hdn t ht'
    rw [List.pairwise_cons] at hp
    have hsub' : ∀ j ∈ r, j ∈ K := fun j hj => hsub j (by simp [hj])
    have hdn' : ∀ i ∈ K, ∀ j ∈ r, i < j → i ∈ r := by
      intro i hi j hj hij
      have := hdn i hi j (by simp [hj]) hij
      rcases List.mem_cons.1 this with h | h
      · subst h
        have := hp.1 j hj
        omega
      · exact h
    rcases List.mem_cons.1 ht' with e | e
    · subst e
      rw [downK, if_pos rfl]
      have hft := hf t (hsub t (by simp))
      by_cases h0 : t = 0
      · subst h0
        rw [line_zero] at hft
        simp at hft
        subst hft
        rw [height_zero, line_zero, List.drop_zero]
        rw [downK_none all r (parI all 0) (by intro j hj; simp [parI])]
        rfl
      · have h0' : 0 < t := by omega
        have hpt := ht t h0'
        have hpar : parI all t = ((pa all t : Nat) : Int) := by unfold parI; rw [if_neg h0]
        rw [hpar]
        by_cases hft' : f = t
        · subst hft'
          have hl := line_length ht f
          have hh := height_step ht h0'
          have hd : (line all f).drop (height all f) = [f] := by
            rw [line_drop_step ht h0' (by omega), List.drop_eq_nil_of_le (by rw [line_length ht]; omega)]
            rfl
          rw [hd]
          rw [downK_none all r _ (by
            intro j hj e
            have hfj := hf j (hsub' j hj)
            have := line_le ht _ _ hfj
            have := hp.1 j hj
            omega)]
          rfl
        · have hfp : f ∈ line all (pa all t) := by
            rw [line_step ht h0', List.mem_append] at hft
            rcases hft with h | h
            · exact h
            · simp at h; exact absurd h hft'
          have hpk : pa all t ∈ K := hK _ hfp ⟨t, hsub t (by simp), by rw [line_step ht h0']; simp [line_self ht]⟩
          have hpr : pa all t ∈ r := by
            have := hdn _ hpk t (by simp) hpt
            rcases List.mem_cons.1 this with h | h
            · omega
            · exact h
          rw [ih hsub' hp.2 hdn' _ hpr, line_drop_step ht h0' (by have := height_mem ht hfp; omega), List.reverse_append]
          rfl
    · have hne : (k : Int) ≠ (t : Int) := by
        have := hp.1 t e
        omega
      rw [downK, if_neg hne]
      exact ih hsub' hp.2 hdn' t e

/-- What is past, and the walk down turned round: the tip's line. -/
theorem path_line {s : St} (hi : Inv s) : (line s.all (fin s)).dropLast ++ (downK s.all s.keep.reverse (tip s : Int)).reverse = line s.all (tip s) := by
  have ht := hi.tree
  have hf := (hi.keep (tip s)).1 hi.tipin
  have hd := down_line ht (fin s) s.keep (by
    rintro i h1 ⟨j, hj, h2⟩
    have := line_le ht _ _ h2
    have := inv_lt hi hj
    exact (hi.keep i).2 ⟨by omega, h1⟩) (fun i h => ((hi.keep i).1 h).2) s.keep.reverse (by intro j hj; simpa using hj) (by
      rw [List.pairwise_reverse]; exact hi.rise) (by intro i h1 j h2 h3; simpa using h1) (tip s) (by simpa using hi.tipin)
  have e : (line s.all (fin s)).dropLast = (line s.all (tip s)).take (height s.all (fin s)) := by
    rw [List.dropLast_eq_take, line_length ht, Nat.add_sub_cancel, line_prefix ht _ _ hf.2, List.take_take, Nat.min_eq_left (by omega)]
  rw [hd, List.reverse_reverse, e, List.take_append_drop]

/-! ### A step -/

structure Grow (s s' : St) : Prop where
  inv : Inv s'
  par : s'.par = s.par
  fin : Bk.fin s ∈ line s'.all (tip s')
  pre : (line s'.all (tip s')).take (height s.all (Bk.fin s) + 1) = (line s.all (tip s)).take (height s.all (Bk.fin s) + 1)
  tip : line s'.all (Bk.tip s') = line s.all (Bk.tip s) ∨ (Bk.tip s' = s.all.length ∧ s'.all.length = s.all.length + 1 ∧ (line s'.all (Bk.tip s')).length = (line s.all (Bk.tip s)).length + 1)

theorem fin_tip {s : St} (hi : Inv s) : fin s ∈ line s.all (tip s) := ((hi.keep _).1 hi.tipin).2

theorem fin_height {s : St} (hi : Inv s) : height s.all (fin s) = height s.all (tip s) - s.par.depth.toNat := (finOf_mem hi.tree s.par hi.par (tip s)).2

theorem Grow.refl {s : St} (hi : Inv s) : Grow s s := ⟨hi, rfl, fin_tip hi, rfl, Or.inl rfl⟩

theorem grow_taken {s : St} (hi : Inv s) {p : Nat} {h : Hdr} (ha : Accept s p h) : Grow s (taken s p h) := by
  have hst := stepped hi ha
  have hi' := hst.inv
  have hpl := inv_lt hi ha.keep
  have hl := hi.len
  have hall : (taken s p h).all = s.all ++ [⟨h, p⟩] := rfl
  have htl := inv_lt hi hi.tipin
  have hf : fin s ∈ line (taken s p h).all (tip (taken s p h)) := line_trans hi'.tree hst.final (fin_tip hi')
  have h1 := line_prefix hi'.tree _ _ hf
  have h2 := line_prefix hi.tree _ _ (fin_tip hi)
  have h3 : line (taken s p h).all (fin s) = line s.all (fin s) := line_old hi.tree hl (x := ⟨h, p⟩) hpl _ (fin_lt hi)
  have h4 : height (taken s p h).all (fin s) = height s.all (fin s) := height_old hi.tree hl (x := ⟨h, p⟩) hpl _ (fin_lt hi)
  refine ⟨hi', rfl, hf, ?_, ?_⟩
  · rw [← h2, ← h3, h1, h4]
  · rcases hst.tip with ⟨e, _, _⟩ | ⟨e, hh⟩
    · left
      rw [e, hall, line_old hi.tree hl (x := ⟨h, p⟩) hpl _ htl]
    · right
      refine ⟨e, by rw [hall]; simp, ?_⟩
      rw [e, hall, line_new hi.tree hl (x := ⟨h, p⟩) hpl, List.length_append, line_length hi.tree, line_length hi.tree]
      show height s.all p + 1 + 1 = _
      omega

theorem grow_offer {s : St} (hi : Inv s) (parent : Int) (h : Hdr) : Grow s (offer s parent h) := by
  unfold offer
  split
  · rename_i he
    exact grow_taken hi (accept_of he).1
  · exact Grow.refl hi

/-- How far two lists go together. -/
structure Same (a b : List Nat) (k : Nat) : Prop where
  la : k ≤ a.length
  lb : k ≤ b.length
  eq : a.take k = b.take k
  stop : k = a.length ∨ k = b.length ∨ a.getD k 0 ≠ b.getD k 0

theorem take_getD {l : List Nat} {n k : Nat} (h : k < n) : (l.take n).getD k 0 = l.getD k 0 := by
  simp only [List.getD, List.getElem?_take]
  rw [if_pos h]

theorem same_deep {s s' : St} (hi : Inv s) (hg : Grow s s') {k : Nat} (h : Same (line s.all (tip s)) (line s'.all (tip s')) k) : ((line s.all (tip s)).length : Int) - k ≤ s.par.depth := by
  have hd := hi.par.d1
  have hfh := fin_height hi
  have hl := line_length hi.tree (tip s)
  have hk : height s.all (fin s) + 1 ≤ k := by
    rcases Nat.lt_or_ge k (height s.all (fin s) + 1) with h1 | h1
    · exfalso
      have hpl := congrArg List.length hg.pre
      simp only [List.length_take] at hpl
      have hmm := height_mem hi.tree (fin_tip hi)
      rcases h.stop with e | e | e
      · omega
      · omega
      · apply e
        rw [← take_getD (l := line s.all (tip s)) h1, ← take_getD (l := line s'.all (tip s')) h1, hg.pre]
    · exact h1
  omega

theorem same_line {a b : List Nat} {k : Nat} (h : Same a b k) (e : b = a) : k = a.length ∧ k = b.length := by
  subst e
  rcases h.stop with h1 | h1 | h1
  · exact ⟨h1, h1⟩
  · exact ⟨h1, h1⟩
  · exact absurd rfl h1

end Bk

theorem grow_step {s : St} (hi : Inv s) (o : Stp) : Grow s (stepS s o) := by
  unfold stepS
  split
  · exact Grow.refl hi
  · exact grow_offer hi _ _

end Go.Proofs.YtpaakikgfojplaaGreat

