import Derived.Test.YtpaakikgfojplaaGreatCM17
import Derived.Test.YtpaakikgfojplaaGreatCM9
import Derived.Deep.RegionHeld3
/-
  THE WALKS of the program's ledger: Turn.
-/
namespace Go.Proofs.YtpaakikgfojplaaGreat
open Go.RowKit Num Bk
set_option linter.unusedVariables false

structure PgOk (p : Par) (g : Pg) : Prop where
  slot : slotOkP g.slot
  run : 0 ≤ g.running ∧ g.running < 65521
  non : 0 ≤ g.nonce ∧ g.nonce < 65521
  stk : ∀ j, 0 ≤ g.stakes j ∧ g.stakes j ≤ total p
  bef : ∀ j, 0 ≤ g.before j ∧ g.before j ≤ total p
  lon : ∀ j, 0 ≤ g.long j ∧ g.long j ≤ total p
  cnt : ∀ j, 0 ≤ g.counts j ∧ g.counts j ≤ 20000

theorem box_set6 {w v : World} {z0 z1 z2 z3 z4 z5 a0 a1 a2 a3 a4 a5 : Value} {t : TypeId}
    (h : ((((((w.alloc (.cells #[z0, z1, z2, z3, z4, z5] t)).setCell ⟨w.heap.size, 0, none⟩ a0).setCell ⟨w.heap.size, 1, none⟩ a1).setCell ⟨w.heap.size, 2, none⟩ a2).setCell ⟨w.heap.size, 3, none⟩ a3).setCell ⟨w.heap.size, 4, none⟩ a4).setCell ⟨w.heap.size, 5, none⟩ a5 = v) :
    w.heap.size + 1 ≤ v.heap.size ∧ Below w.heap.size w v ∧ v.heap[w.heap.size]? = some (.cells #[a0, a1, a2, a3, a4, a5] t (0, 0)) := by
  subst h
  refine ⟨by simp [World.setCell], ?_, ?_⟩
  · exact ((((((((Below.refl _ _).alloc (Nat.le_refl _) _).setCell (by simp) _).setCell (by simp) _).setCell (by simp) _).setCell (by simp) _).setCell (by simp) _).setCell (by simp) _)
  · have h0 := heap_alloc_new w (.cells #[z0, z1, z2, z3, z4, z5] t)
    have h1 := heap_setCell_same _ w.heap.size 0 _ t a0 h0
    have h2 := heap_setCell_same _ w.heap.size 1 _ t a1 h1
    have h3 := heap_setCell_same _ w.heap.size 2 _ t a2 h2
    have h4 := heap_setCell_same _ w.heap.size 3 _ t a3 h3
    have h5 := heap_setCell_same _ w.heap.size 4 _ t a4 h4
    have h6 := heap_setCell_same _ w.heap.size 5 _ t a5 h5
    exact h6

theorem arr_at (f : Nat → Int) : ∀ k, k < 6 → (#[Value.int .i64 (f 0), .int .i64 (f 1), .int .i64 (f 2), .int .i64 (f 3), .int .i64 (f 4), .int .i64 (f 5)] : Array Value)[k]? = some (.int .i64 (f k)) := six rfl rfl rfl rfl rfl rfl

theorem stakesIn_ok {p : Par} {g : Pg} (hg : PgOk p g) (e : Int) (j : Nat) : 0 ≤ stakesIn p g e j ∧ stakesIn p g e j ≤ total p := by
  unfold stakesIn
  split
  · exact hg.stk j
  · split
    · exact hg.bef j
    · exact hg.lon j
theorem nonceIn_ok {p : Par} {g : Pg} (hg : PgOk p g) (e : Int) : 0 ≤ nonceIn p g e ∧ nonceIn p g e < 65521 := by
  unfold nonceIn
  split
  · exact hg.run
  · exact hg.non

def turnA (n pr s : Int) (l : Bool) : Value := .agg #[.int .i64 n, .int .i64 pr, .int .i64 s, .bool l]
def proofP (p : Par) (g : Pg) (slot pool : Int) : Int := drawN (nonceIn p g (slot / p.epoch)) slot pool
def stakeP (p : Par) (g : Pg) (slot pool : Int) : Int := stakesIn p g (slot / p.epoch) pool.toNat
def leadsP (p : Par) (g : Pg) (slot pool : Int) : Bool := leads (proofP p g slot pool).toNat (stakeP p g slot pool).toNat (total p).toNat p.a.toNat p.b.toNat

theorem page_slot (w : World) (g : Pg) : ∀ o1 o3 : Obj, (((w.alloc o1).alloc (.cells (pgA g) 56)).alloc o3).cell? ⟨w.heap.size + 1, 0, none⟩ = some (.int .i64 g.slot) := by
  intro o1 o3
  have b2 : (((w.alloc o1).alloc (.cells (pgA g) 56)).alloc o3).heap[w.heap.size + 1]? = some (.cells (pgA g) 56 (0, 0)) := by
    rw [Below.heap_alloc _ _ _ (by simp)]; have := heap_alloc_new (w.alloc o1) (.cells (pgA g) 56); simpa using this
  exact cell_of_cells (j := 0) b2 rfl

theorem info_page (g : Pg) : (Tryz.prog.info? 56).map (·.size) = some (pgA g).size := by
  show _ = some 27
  kernel_rfl

theorem below_set4 {w v : World} {b : Nat} (hb : Below w.heap.size w v) (hw : w.heap.size ≤ b) (a0 a1 a2 a3 : Value) : Below w.heap.size w ((((v.setCell ⟨b, 0, none⟩ a0).setCell ⟨b, 1, none⟩ a1).setCell ⟨b, 2, none⟩ a2).setCell ⟨b, 3, none⟩ a3) :=
  (((hb.setCell (by exact hw) _).setCell (by exact hw) _).setCell (by exact hw) _).setCell (by exact hw) _

set_option maxHeartbeats 1600000 in
set_option maxRecDepth 1000000 in
theorem lturn_slot (p : Par) (g : Pg) (slot pool : Int) (w : World) (h : slot ≤ g.slot ∨ 10000 < slot) :
    Calls Tryz.prog 52 #[rulV p, pageV g, .int .i64 slot, .int .i64 pool] w fun r w' => r = .returned (.tuple #[turnA 0 0 0 false, .int .i64 4]) ∧ Below w.heap.size w w' := by
  unfold rulV pageV turnA
  have HF : Hid (∀ (o1 o2 o3 : Obj), Below w.heap.size w (((w.alloc o1).alloc o2).alloc o3)) :=
    fun o1 o2 o3 => ((((Below.refl _ _).alloc (Nat.le_refl _) _).alloc (by simp) _).alloc (by simp; omega) _)
  have o0 := page_slot w g
  by_cases h1 : slot ≤ g.slot
  · go_enter Tryz.func52, Tryz.ntmps52
    go_wp2
    refine bodyPost_ret (v := .tuple #[.agg #[.int .i64 0, .int .i64 0, .int .i64 0, .bool false], .int .i64 4]) (by simp [results, Tryz.results52, go_sem]) rfl ⟨rfl, HF.out _ _ _⟩
  · have h2 : 10000 < slot := h.resolve_left h1
    go_enter Tryz.func52, Tryz.ntmps52
    go_wp2
    refine bodyPost_ret (v := .tuple #[.agg #[.int .i64 0, .int .i64 0, .int .i64 0, .bool false], .int .i64 4]) (by simp [results, Tryz.results52, go_sem]) rfl ⟨rfl, HF.out _ _ _⟩

set_option maxHeartbeats 1600000 in
set_option maxRecDepth 1000000 in
theorem lturn_pool (p : Par) (g : Pg) (slot pool : Int) (w : World) (h1 : g.slot < slot) (h2 : slot ≤ 10000) (hpb : poolB p pool = false) :
    Calls Tryz.prog 52 #[rulV p, pageV g, .int .i64 slot, .int .i64 pool] w fun r w' => r = .returned (.tuple #[turnA 0 0 0 false, .int .i64 5]) ∧ Below w.heap.size w w' := by
  unfold rulV pageV turnA
  have o0 := page_slot w g
  go_enter Tryz.func52, Tryz.ntmps52
  go_wp2_with fail
  refine (isPool_is p pool _).mono ?_
  rintro r w1 ⟨rfl, hb⟩
  rw [hpb]
  obtain ⟨hs1, hb1, k1, k2, k3⟩ := blocks3 hb
  have r0 := cell_of_cells (j := 0) k3 rfl
  have r1 := cell_of_cells (j := 1) k3 rfl
  have r2 := cell_of_cells (j := 2) k3 rfl
  have r3 := cell_of_cells (j := 3) k3 rfl
  have q0 := free_of_cells (j := 0) k3
  have q1 := free_of_cells (j := 1) k3
  have q2 := free_of_cells (j := 2) k3
  have q3 := free_of_cells (j := 3) k3
  have HF := Go.Proofs.YtpaakikgfojplaaGreat.hid (fun a0 a1 a2 a3 => below_set4 (b := w.heap.size + 2) hb1 (by omega) a0 a1 a2 a3)
  clear hb hb1 k1 k2 k3
  go_wp2
  refine bodyPost_ret (v := .tuple #[.agg #[.int .i64 0, .int .i64 0, .int .i64 0, .bool false], .int .i64 5]) (by simp [results, Tryz.results52, go_sem, r0, r1, r2, r3]) rfl ⟨rfl, HF.out _ _ _ _⟩

set_option maxHeartbeats 3200000 in
set_option maxRecDepth 1000000 in
theorem lturn_yes (p : Par) (g : Pg) (slot : Int) (k : Nat) (w : World) (hp : ParOk p) (hg : PgOk p g) (h1 : g.slot < slot) (h2 : slot ≤ 10000) (hk : k < p.stakes.length) :
    Calls Tryz.prog 52 #[rulV p, pageV g, .int .i64 slot, .int .i64 (k : Int)] w fun r w' => r = .returned (.tuple #[turnA (nonceIn p g (slot / p.epoch)) (proofP p g slot k) (stakeP p g slot k) (leadsP p g slot k), .int .i64 0]) ∧ Below w.heap.size w w' := by
  have hg1 := hg.slot
  have hs0 : 0 ≤ slot := by unfold slotOkP at hg1; omega
  have e1 := hp.e1
  have e2 := hp.e2
  have l2 := hp.l2
  have hq0 : 0 ≤ slot / p.epoch := Int.ediv_nonneg hs0 (by omega)
  have hq1 : slot / p.epoch ≤ 10000 := Int.le_trans (Int.ediv_le_self _ hs0) h2
  have hpb : poolB p (k : Int) = true := by simp [poolB]; omega
  have hnb := nonceIn_ok hg (slot / p.epoch)
  have hsb := stakesIn_ok hg (slot / p.epoch) k
  have htot := total_small hp
  have hpr : proofP p g slot k = drawN (nonceIn p g (slot / p.epoch)) slot k := rfl
  have hsk : stakeP p g slot k = stakesIn p g (slot / p.epoch) k := rfl
  have hld : leadsP p g slot k = leads (proofP p g slot k).toNat (stakeP p g slot k).toNat (total p).toNat p.a.toNat p.b.toNat := rfl
  have hpb2 : 0 ≤ proofP p g slot k ∧ proofP p g slot k < 1024 := drawN_bounds _ _ _
  rw [← hsk] at hsb
  have HPR := Go.Proofs.YtpaakikgfojplaaGreat.hid hpr
  have HSK := Go.Proofs.YtpaakikgfojplaaGreat.hid hsk
  have HLD := Go.Proofs.YtpaakikgfojplaaGreat.hid hld
  have pa1 := hp.a1
  have pa2 := hp.a2
  have pb2 := hp.b2
  clear hpr hsk hld
  have hE : epochOf p slot = slot / p.epoch := epochOf_nat p hs0
  unfold turnA
  show Calls Tryz.prog _ #[.agg #[.int .i64 p.epoch, .int .i64 p.a, .int .i64 p.b, .int .i64 (p.stakes.length : Int), .int .i64 (total p)], .agg (pgA g), .int .i64 slot, .int .i64 (k : Int)] w _
  go_enter Tryz.func52, Tryz.ntmps52
  have o0 := page_slot w g
  go_wp2_with fail
  refine (isPool_is p (k : Int) _).mono ?_
  rintro r w1 ⟨rfl, hb⟩
  rw [hpb]
  obtain ⟨hs1, hb1, k1, k2, k3⟩ := blocks3 hb
  have hiP := info_page g
  have HB1 := Go.Proofs.YtpaakikgfojplaaGreat.hid hb1
  have HK3 := Go.Proofs.YtpaakikgfojplaaGreat.hid k3
  have c0 := cell_of_cells (j := 0) k1 rfl
  have c1 := cell_of_cells (j := 1) k1 rfl
  have c2 := cell_of_cells (j := 2) k1 rfl
  have c3 := cell_of_cells (j := 3) k1 rfl
  have c4 := cell_of_cells (j := 4) k1 rfl
  clear hb hb1 k3 o0
  go_wp2_with fail
  refine (epochOf_is p slot _ hp (Or.inr ⟨hs0, h2⟩)).mono ?_
  rintro r w2 ⟨rfl, hb2⟩
  rw [hE]
  have hs2 := hb2.size
  have K1 : w2.heap[w.heap.size]? = _ := (hb2.block _ (by omega)).trans k1
  have K2 : w2.heap[w.heap.size + 1]? = _ := (hb2.block _ (by omega)).trans k2
  clear c0 c1 c2 c3 c4 k1 k2
  have c0 := cell_of_cells (j := 0) K1 rfl
  have c1 := cell_of_cells (j := 1) K1 rfl
  have c2 := cell_of_cells (j := 2) K1 rfl
  have c3 := cell_of_cells (j := 3) K1 rfl
  have c4 := cell_of_cells (j := 4) K1 rfl
  have HB2 := Go.Proofs.YtpaakikgfojplaaGreat.hid (HB1.out.trans (hb2.mono (by omega)))
  have HK32 : Hid (w2.heap[w.heap.size + 2]? = _) := (hb2.block _ (by omega)).trans HK3.out
  clear hb2 HK3 HB1
  go_wp2_with (refine wpList_load_row rfl 56 _ rfl (w.heap.size + 1) rfl 56 (pgA g) (0, 0) _ K2 Tryz.underlying56 rfl hiP ?_)
  refine (nonceIn_is p g (slot / p.epoch) _ hp hg1).mono ?_
  rintro r w3 ⟨rfl, hb3⟩
  have hs3 := hb3.size
  have L1 : w3.heap[w.heap.size]? = _ := (hb3.block _ (by omega)).trans K1
  have L2 : w3.heap[w.heap.size + 1]? = _ := (hb3.block _ (by omega)).trans K2
  clear c0 c1 c2 c3 c4 K1 K2
  have c0 := cell_of_cells (j := 0) L1 rfl
  have c1 := cell_of_cells (j := 1) L1 rfl
  have c2 := cell_of_cells (j := 2) L1 rfl
  have c3 := cell_of_cells (j := 3) L1 rfl
  have c4 := cell_of_cells (j := 4) L1 rfl
  have HB3 := Go.Proofs.YtpaakikgfojplaaGreat.hid (HB2.out.trans (hb3.mono (by omega)))
  have HK33 : Hid (w3.heap[w.heap.size + 2]? = _) := (hb3.block _ (by omega)).trans HK32.out
  clear hb3 HK32 HB2
  go_wp2_with (refine wpList_load_row rfl 56 _ rfl (w.heap.size + 1) rfl 56 (pgA g) (0, 0) _ L2 Tryz.underlying56 rfl hiP ?_)
  refine (stakesIn_is p g (slot / p.epoch) _ hp hg1 ⟨by omega, by omega⟩).mono ?_
  rintro r w4 ⟨rfl, hb4⟩
  have hs4 := hb4.size
  have M1 : w4.heap[w.heap.size]? = _ := (hb4.block _ (by omega)).trans L1
  have HB4 := Go.Proofs.YtpaakikgfojplaaGreat.hid (HB3.out.trans (hb4.mono (by omega)))
  have HK34 : Hid (w4.heap[w.heap.size + 2]? = _) := (hb4.block _ (by omega)).trans HK33.out
  clear c0 c1 c2 c3 c4 L1 L2 hb4 HK33 HB3
  unfold arrV
  generalize hF : stakesIn p g (slot / p.epoch) = F at *
  generalize hNC : nonceIn p g (slot / p.epoch) = NC at *
  go_wp2_with fail
  refine (proof_is NC slot (k : Int) _ hnb.1 hnb.2 hs0 h2 (by omega) (by omega)).mono ?_
  rintro r w5 ⟨rfl, hw5⟩
  obtain ⟨hs5, hb5, hK5⟩ := below_of hw5
  clear hw5
  have N1 : w5.heap[w.heap.size]? = _ := (hb5.block _ (by omega)).trans M1
  have HB5 := Go.Proofs.YtpaakikgfojplaaGreat.hid (HB4.out.trans (hb5.mono (by omega)))
  have HK35 : Hid (w5.heap[w.heap.size + 2]? = _) := (hb5.block _ (by omega)).trans HK34.out
  have cF := cell_of_cells (j := k) hK5 (arr_at F k (by omega))
  have c1 := cell_of_cells (j := 1) N1 rfl
  have c2 := cell_of_cells (j := 2) N1 rfl
  have c4 := cell_of_cells (j := 4) N1 rfl
  have hl1 : w.heap.size < w5.heap.size := by omega
  have hl2 : w4.heap.size < w5.heap.size := by omega
  rw [← HPR.out]
  rw [show F k = stakeP p g slot k from HSK.out.symm] at cF
  clear M1 hb5 HK34 HB4 N1 hK5
  generalize hPF : proofP p g slot k = PF at *
  generalize hSK : stakeP p g slot k = SK at *
  generalize hLL : leadsP p g slot k = LL at *
  generalize hSTB : w4.heap.size = B4 at *
  have i1 : (0 : Int) ≤ (k : Int) := by omega
  have i2 : (k : Int) < 6 := by omega
  go_wp2
  go_region_held3 (fun w' => w'.cell? ⟨w.heap.size, 1, none⟩ = some (.int .i64 p.a) ∧ w'.cell? ⟨w.heap.size, 2, none⟩ = some (.int .i64 p.b) ∧ w'.cell? ⟨w.heap.size, 4, none⟩ = some (.int .i64 (total p)) ∧ w'.cell? ⟨B4, k, none⟩ = some (.int .i64 SK)) (go_keep) ((go_at_call 82; refine (lead_in PF SK (total p) p.a p.b _ (by omega) (by omega) (by omega) (by omega) (by omega) (by omega) (by omega) (by omega) (by omega)).mono ?_; rintro e w7 ⟨rfl, hb7⟩; have k3 := (hb7.cell (p := ⟨w.heap.size, 1, none⟩) (by exact hl1)).trans (by exact c1); have k4 := (hb7.cell (p := ⟨w.heap.size, 2, none⟩) (by exact hl1)).trans (by exact c2); have k6 := (hb7.cell (p := ⟨w.heap.size, 4, none⟩) (by exact hl1)).trans (by exact c4); have k5 := (hb7.cell (p := ⟨B4, k, none⟩) (by exact hl2)).trans (by exact cF)))
  rw [← HLD.out]
  have hs7 := hb7.size
  have HB7 := Go.Proofs.YtpaakikgfojplaaGreat.hid (HB5.out.drew.trans (hb7.mono (by show w.heap.size ≤ w5.heap.size; omega)))
  have hR7 : w7.heap[w.heap.size + 2]? = _ := (hb7.block _ (by show w.heap.size + 2 < w5.heap.size; omega)).trans HK35.out
  have r0 := cell_of_cells (j := 0) hR7 rfl
  have r1 := cell_of_cells (j := 1) hR7 rfl
  have r2 := cell_of_cells (j := 2) hR7 rfl
  have r3 := cell_of_cells (j := 3) hR7 rfl
  have q0 := free_of_cells (j := 0) hR7
  have q1 := free_of_cells (j := 1) hR7
  have q2 := free_of_cells (j := 2) hR7
  have q3 := free_of_cells (j := 3) hR7
  have HFIN := Go.Proofs.YtpaakikgfojplaaGreat.hid (fun a0 a1 a2 a3 => below_set4 (b := w.heap.size + 2) HB7.out (by omega) a0 a1 a2 a3)
  clear hb7 hR7
  go_wp2
  refine bodyPost_ret (v := .tuple #[.agg #[.int .i64 NC, .int .i64 PF, .int .i64 SK, .bool LL], .int .i64 0]) (by simp [results, Tryz.results52, go_sem, r0, r1, r2, r3]) rfl ⟨by rw [hNC, hPF, hSK, hLL], HFIN.out _ _ _ _⟩

end Go.Proofs.YtpaakikgfojplaaGreat

/-
  THE WALKS of the program's ledger: mayMove.
-/
namespace Go.Proofs.YtpaakikgfojplaaGreat
open Go.RowKit Num Bk
set_option linter.unusedVariables false

def mayB (p : Par) (g : Pg) (h : Hdr) : Bool := poolB p h.frm && poolB p h.dst && decide (0 ≤ h.amount) && decide (h.amount ≤ g.stakes h.frm.toNat)

set_option maxHeartbeats 1600000 in
set_option maxRecDepth 1000000 in
theorem mayMove_is (p : Par) (g : Pg) (h : Hdr) (w : World) (hp : ParOk p) :
    Calls Tryz.prog 89 #[rulV p, pageV g, hdrV h] w fun r w' => r = .returned (.bool (mayB p g h)) ∧ Below w.heap.size w w' := by
  have HM := Go.Proofs.YtpaakikgfojplaaGreat.hid (show mayB p g h = (poolB p h.frm && poolB p h.dst && decide (0 ≤ h.amount) && decide (h.amount ≤ g.stakes h.frm.toNat)) from rfl)
  generalize mayB p g h = mb at *
  have HP := Go.Proofs.YtpaakikgfojplaaGreat.hid hp
  obtain ⟨a0, a1, a2, a3, a4, a5, a6⟩ := h
  unfold hdrV
  simp only at HM ⊢
  show Calls Tryz.prog _ #[.agg #[.int .i64 p.epoch, .int .i64 p.a, .int .i64 p.b, .int .i64 (p.stakes.length : Int), .int .i64 (total p)], .agg (pgA g), _] w _
  go_enter Tryz.func89, Tryz.ntmps89
  go_wp2_with fail
  refine (isPool_is p a4 _).mono ?_
  rintro r w1 ⟨rfl, hb⟩
  obtain ⟨hs1, hb1, k1, k2, k3⟩ := blocks3 hb
  have HB1 := Go.Proofs.YtpaakikgfojplaaGreat.hid hb1
  clear hb hb1
  cases hf : poolB p a4
  · have HM2 := Go.Proofs.YtpaakikgfojplaaGreat.hid (show mb = false by rw [HM.out, hf]; rfl)
    clear k1 k2 k3 hf HM
    go_wp2
    go_ret
    exact ⟨by rw [HM2.out]; rfl, HB1.out⟩
  · obtain ⟨f, rfl, hf1, hf2⟩ := poolB_yes HP.out hf
    have c0 := cell_of_cells (j := 0) k1 rfl
    have c1 := cell_of_cells (j := 1) k1 rfl
    have c2 := cell_of_cells (j := 2) k1 rfl
    have c3 := cell_of_cells (j := 3) k1 rfl
    have c4 := cell_of_cells (j := 4) k1 rfl
    have d5 := cell_of_cells (j := 5) k3 rfl
    go_wp2_with fail
    refine (isPool_is p a5 _).mono ?_
    rintro r w2 ⟨rfl, hb2⟩
    have hs2 := hb2.size
    have K2 : w2.heap[w.heap.size + 1]? = _ := (hb2.block _ (by omega)).trans k2
    have K3 : w2.heap[w.heap.size + 2]? = _ := (hb2.block _ (by omega)).trans k3
    have HB2 := Go.Proofs.YtpaakikgfojplaaGreat.hid (HB1.out.trans (hb2.mono (by omega)))
    clear c0 c1 c2 c3 c4 d5 k1 k2 k3 hb2 HB1
    cases hd : poolB p a5
    · have HM2 := Go.Proofs.YtpaakikgfojplaaGreat.hid (show mb = false by rw [HM.out, hf, hd]; rfl)
      clear K2 K3 hf hd HM
      go_wp2
      go_ret
      exact ⟨by rw [HM2.out]; rfl, HB2.out⟩
    · have hmb : mb = (decide (0 ≤ a6) && decide (a6 ≤ g.stakes f)) := by rw [HM.out, hf, hd, Int.toNat_natCast]; rfl
      have cf := cell_of_cells (j := 1 + f) K2 (pg_stakes g f hf2)
      have d4 := cell_of_cells (j := 4) K3 rfl
      have d6 := cell_of_cells (j := 6) K3 rfl
      have i1 : (0 : Int) ≤ (f : Int) := by omega
      have i2 : (f : Int) < 6 := by omega
      clear K2 K3 hf hd HM
      generalize g.stakes f = sf at *
      by_cases hz : 0 ≤ a6
      · have hz2 : decide (0 ≤ a6) = true := decide_eq_true hz
        have HM2 := Go.Proofs.YtpaakikgfojplaaGreat.hid (show mb = decide (a6 ≤ sf) by rw [hmb, hz2]; rfl)
        clear hmb
        go_wp2
        go_quiet (fail)
        go_wp2
        go_ret
        exact ⟨by rw [HM2.out]; rfl, drawB HB2.out _⟩
      · have hz2 : decide (0 ≤ a6) = false := decide_eq_false hz
        have HM2 := Go.Proofs.YtpaakikgfojplaaGreat.hid (show mb = false by rw [hmb, hz2]; rfl)
        clear hmb
        go_wp2
        go_quiet (fail)
        go_wp2
        go_ret
        exact ⟨by rw [HM2.out]; rfl, drawB HB2.out _⟩

end Go.Proofs.YtpaakikgfojplaaGreat

