import Derived.Test.YtpaakikgfojplaaGreatCLed6
/-
  THE WALKS of the program's ledger: Next.
-/
namespace Go.Proofs.YtpaakikgfojplaaGreat
open Go.RowKit Num Bk
set_option linter.unusedVariables false

def nextErr (p : Par) (g : Pg) (h : Hdr) : Int :=
  if h.slot ≤ g.slot ∨ 10000 < h.slot then 4
  else if poolB p h.pool = false then 5
  else if h.count ≠ g.counts h.pool.toNat ∧ h.count ≠ g.counts h.pool.toNat + 1 then 6
  else if mayB p g h = false then 7
  else if h.proof ≠ proofP p g h.slot h.pool then 8
  else if leadsP p g h.slot h.pool = false then 9
  else 0
theorem nextErr_eq (p : Par) (g : Pg) (h : Hdr) : nextErr p g h =
  if h.slot ≤ g.slot ∨ 10000 < h.slot then 4
  else if poolB p h.pool = false then 5
  else if h.count ≠ g.counts h.pool.toNat ∧ h.count ≠ g.counts h.pool.toNat + 1 then 6
  else if mayB p g h = false then 7
  else if h.proof ≠ proofP p g h.slot h.pool then 8
  else if leadsP p g h.slot h.pool = false then 9
  else 0 := rfl
def nextV (p : Par) (g : Pg) (h : Hdr) : Pg := if nextErr p g h = 0 then afterPg p g h else zeroP

structure NxIn (w wx : World) (p : Par) (g : Pg) (h : Hdr) : Prop where
  r1 : wx.heap[w.heap.size]? = some (.cells #[.int .i64 p.epoch, .int .i64 p.a, .int .i64 p.b, .int .i64 (p.stakes.length : Int), .int .i64 (total p)] 53 (0, 0))
  r2 : wx.heap[w.heap.size + 1]? = some (.cells (pgA g) 56 (0, 0))
  r3 : wx.heap[w.heap.size + 2]? = some (.cells #[.int .i64 h.slot, .int .i64 h.pool, .int .i64 h.proof, .int .i64 h.count, .int .i64 h.frm, .int .i64 h.dst, .int .i64 h.amount] 40 (0, 0))
  r4 : wx.heap[w.heap.size + 3]? = some (.cells (pgA zeroP) 56 (0, 0))
  rB : Below w.heap.size w wx

theorem NxIn.below {w wx wy : World} {p : Par} {g : Pg} {h : Hdr} {B : Nat} (i : NxIn w wx p g h) (hb : Below B wx wy) (hB : wx.heap.size ≤ B := by exact Nat.le_refl _) : NxIn w wy p g h :=
  ⟨(hb.block _ (Nat.lt_of_lt_of_le (lt_of_block i.r1) hB)).trans i.r1, (hb.block _ (Nat.lt_of_lt_of_le (lt_of_block i.r2) hB)).trans i.r2, (hb.block _ (Nat.lt_of_lt_of_le (lt_of_block i.r3) hB)).trans i.r3, (hb.block _ (Nat.lt_of_lt_of_le (lt_of_block i.r4) hB)).trans i.r4,
    i.rB.trans (hb.mono (Nat.le_trans (Nat.le_of_lt (lt_of_block i.r1)) hB))⟩
theorem NxIn.start {w w1 : World} {p : Par} {g : Pg} {h : Hdr} {B : Nat}
    (hb : Below B ((((w.alloc (.cells #[.int .i64 p.epoch, .int .i64 p.a, .int .i64 p.b, .int .i64 (p.stakes.length : Int), .int .i64 (total p)] 53)).alloc (.cells (pgA g) 56)).alloc (.cells #[.int .i64 h.slot, .int .i64 h.pool, .int .i64 h.proof, .int .i64 h.count, .int .i64 h.frm, .int .i64 h.dst, .int .i64 h.amount] 40)).alloc (.cells (pgA zeroP) 56)) w1)
    (hB : ((((w.alloc (.cells #[.int .i64 p.epoch, .int .i64 p.a, .int .i64 p.b, .int .i64 (p.stakes.length : Int), .int .i64 (total p)] 53)).alloc (.cells (pgA g) 56)).alloc (.cells #[.int .i64 h.slot, .int .i64 h.pool, .int .i64 h.proof, .int .i64 h.count, .int .i64 h.frm, .int .i64 h.dst, .int .i64 h.amount] 40)).alloc (.cells (pgA zeroP) 56)).heap.size ≤ B := by exact Nat.le_refl _) : NxIn w w1 p g h := by
  obtain ⟨hs, hb', k1, k2, k3, k4⟩ := blocks4 (hb.mono hB)
  exact ⟨k1, k2, k3, k4, hb'⟩

set_option maxHeartbeats 6400000 in
set_option maxRecDepth 1000000 in
theorem next_is (p : Par) (g : Pg) (h : Hdr) (w : World) (hp : ParOk p) (hg : PgOk p g) :
    Calls Tryz.prog 75 #[rulV p, pageV g, hdrV h] w fun r w' => r = .returned (.tuple #[pageV (nextV p g h), .int .i64 (nextErr p g h)]) ∧ Below w.heap.size w w' := by
  have HE := Go.Proofs.YtpaakikgfojplaaGreat.hid (nextErr_eq p g h)
  have HV := Go.Proofs.YtpaakikgfojplaaGreat.hid (show nextV p g h = (if nextErr p g h = 0 then afterPg p g h else zeroP) from rfl)
  generalize nextErr p g h = er at *
  generalize nextV p g h = V at *
  obtain ⟨a0, a1, a2, a3, a4, a5, a6⟩ := h
  unfold hdrV
  simp only at HE HV ⊢
  show Calls Tryz.prog _ #[.agg #[.int .i64 p.epoch, .int .i64 p.a, .int .i64 p.b, .int .i64 (p.stakes.length : Int), .int .i64 (total p)], .agg (pgA g), .agg #[.int .i64 a0, .int .i64 a1, .int .i64 a2, .int .i64 a3, .int .i64 a4, .int .i64 a5, .int .i64 a6]] w fun r w' => r = .returned (.tuple #[.agg (pgA V), .int .i64 er]) ∧ Below w.heap.size w w'
  have HG := Go.Proofs.YtpaakikgfojplaaGreat.hid hg
  have HP := Go.Proofs.YtpaakikgfojplaaGreat.hid hp
  have hcn := hg.cnt a1.toNat
  clear hp hg
  go_enter Tryz.func75, Tryz.ntmps75
  go_upto_region 1 with fail
  generalize hA0 : (((w.alloc (.cells #[.int .i64 p.epoch, .int .i64 p.a, .int .i64 p.b, .int .i64 (p.stakes.length : Int), .int .i64 (total p)] 53)).alloc (.cells (pgA g) 56)).alloc (.cells #[.int .i64 a0, .int .i64 a1, .int .i64 a2, .int .i64 a3, .int .i64 a4, .int .i64 a5, .int .i64 a6] 40)).alloc (.cells #[.int .i64 0, .int .i64 0, .int .i64 0, .int .i64 0, .int .i64 0, .int .i64 0, .int .i64 0, .int .i64 0, .int .i64 0, .int .i64 0, .int .i64 0, .int .i64 0, .int .i64 0, .int .i64 0, .int .i64 0, .int .i64 0, .int .i64 0, .int .i64 0, .int .i64 0, .int .i64 0, .int .i64 0, .int .i64 0, .int .i64 0, .int .i64 0, .int .i64 0, .int .i64 0, .int .i64 0] 56) = A0 at *
  have L0 : NxIn w A0 p g ⟨a0, a1, a2, a3, a4, a5, a6⟩ := by
    subst hA0
    exact ⟨(blocks4 (Below.refl _ _)).2.2.1, (blocks4 (Below.refl _ _)).2.2.2.1, (blocks4 (Below.refl _ _)).2.2.2.2.1, (blocks4 (Below.refl _ _)).2.2.2.2.2, (blocks4 (Below.refl _ _)).2.1⟩
  clear hA0
  have Q2 := L0.r2
  have d0 : A0.cell? ⟨w.heap.size + 2, 0, none⟩ = some (.int .i64 a0) := cell_of_cells (j := 0) L0.r3 rfl
  have d1 : A0.cell? ⟨w.heap.size + 2, 1, none⟩ = some (.int .i64 a1) := cell_of_cells (j := 1) L0.r3 rfl
  have c0 : A0.cell? ⟨w.heap.size, 0, none⟩ = some (.int .i64 p.epoch) := cell_of_cells (j := 0) L0.r1 rfl
  have c1 : A0.cell? ⟨w.heap.size, 1, none⟩ = some (.int .i64 p.a) := cell_of_cells (j := 1) L0.r1 rfl
  have c2 : A0.cell? ⟨w.heap.size, 2, none⟩ = some (.int .i64 p.b) := cell_of_cells (j := 2) L0.r1 rfl
  have c3 : A0.cell? ⟨w.heap.size, 3, none⟩ = some (.int .i64 (p.stakes.length : Int)) := cell_of_cells (j := 3) L0.r1 rfl
  have c4 : A0.cell? ⟨w.heap.size, 4, none⟩ = some (.int .i64 (total p)) := cell_of_cells (j := 4) L0.r1 rfl
  have HL0 := Go.Proofs.YtpaakikgfojplaaGreat.hid L0
  clear L0
  by_cases h1 : a0 ≤ g.slot ∨ 10000 < a0
  · have her := HE.out.trans (if_pos h1)
    have hv := HV.out.trans (if_neg (by rw [her]; decide))
    clear HE HV
    subst her; subst hv
    go_wp2_with (refine wpList_load_row rfl 56 _ rfl (w.heap.size + 1) rfl 56 (pgA g) (0, 0) _ Q2 Tryz.underlying56 rfl (info_page g) ?_)
    refine (lturn_slot p g a0 a1 _ h1).mono ?_
    rintro r w1 ⟨rfl, hb⟩
    have L := HL0.out.below hb
    have Q4 := L.r4
    have HB := Go.Proofs.YtpaakikgfojplaaGreat.hid (fun o => L.rB.alloc (Nat.le_trans (Nat.le_add_right _ 3) (Nat.le_of_lt (lt_of_block Q4))) o)
    have HQ4 : Hid (∀ o, (w1.alloc o).heap[w.heap.size + 3]? = _) := fun o => (Below.heap_alloc _ _ _ (lt_of_block Q4)).trans Q4
    clear hb L Q4 Q2 d0 d1 c0 c1 c2 c3 c4 HL0
    unfold turnA
    go_wp2_with (refine wpList_store_row rfl 56 _ _ rfl (w.heap.size + 3) (pgA zeroP) rfl rfl 56 (pgA zeroP) (HQ4.out _) (info_page _) rfl (pg_one _) ?_)
    refine bodyPost_ret (results_ct rfl _ _ _ (w.heap.size + 3) 56 (pgA zeroP) (0, 0) _ rfl (setRow_heap _ _ _ _ _ _ (HQ4.out _)) rfl Tryz.underlying56 (info_page _)) rfl ⟨rfl, Below.setRow (HB.out _) (by omega) _⟩
  · have h1s : g.slot < a0 := by omega
    have h1t : a0 ≤ 10000 := by omega
    have HE1 := Go.Proofs.YtpaakikgfojplaaGreat.hid (HE.out.trans (if_neg h1))
    clear HE
    cases h2 : poolB p a1
    · have her := HE1.out.trans (if_pos h2)
      have hv := HV.out.trans (if_neg (by rw [her]; decide))
      clear HE1 HV
      subst her; subst hv
      go_wp2_with (refine wpList_load_row rfl 56 _ rfl (w.heap.size + 1) rfl 56 (pgA g) (0, 0) _ Q2 Tryz.underlying56 rfl (info_page g) ?_)
      refine (lturn_pool p g a0 a1 _ h1s h1t h2).mono ?_
      rintro r w1 ⟨rfl, hb⟩
      have L := HL0.out.below hb
      have Q4 := L.r4
      have HB := Go.Proofs.YtpaakikgfojplaaGreat.hid (fun o => L.rB.alloc (Nat.le_trans (Nat.le_add_right _ 3) (Nat.le_of_lt (lt_of_block Q4))) o)
      have HQ4 : Hid (∀ o, (w1.alloc o).heap[w.heap.size + 3]? = _) := fun o => (Below.heap_alloc _ _ _ (lt_of_block Q4)).trans Q4
      clear hb L Q4 Q2 d0 d1 c0 c1 c2 c3 c4 HL0
      unfold turnA
      go_wp2_with (refine wpList_store_row rfl 56 _ _ rfl (w.heap.size + 3) (pgA zeroP) rfl rfl 56 (pgA zeroP) (HQ4.out _) (info_page _) rfl (pg_one _) ?_)
      refine bodyPost_ret (results_ct rfl _ _ _ (w.heap.size + 3) 56 (pgA zeroP) (0, 0) _ rfl (setRow_heap _ _ _ _ _ _ (HQ4.out _)) rfl Tryz.underlying56 (info_page _)) rfl ⟨rfl, Below.setRow (HB.out _) (by omega) _⟩
    · have HE2 := Go.Proofs.YtpaakikgfojplaaGreat.hid (HE1.out.trans (if_neg (by simp [h2])))
      clear HE1
      obtain ⟨k, rfl, hk1, hk2⟩ := poolB_yes HP.out h2
      rw [Int.toNat_natCast] at HE2 hcn
      clear h2
      go_wp2_with (refine wpList_load_row rfl 56 _ rfl (w.heap.size + 1) rfl 56 (pgA g) (0, 0) _ Q2 Tryz.underlying56 rfl (info_page g) ?_)
      refine (lturn_yes p g a0 k _ HP.out HG.out h1s h1t hk1).mono ?_
      rintro r w1 ⟨rfl, hb⟩
      have L1 := HL0.out.below hb
      clear hb Q2 d0 d1 c0 c1 c2 c3 c4 HL0
      unfold turnA
      have hprb : 0 ≤ proofP p g a0 k ∧ proofP p g a0 k < 1024 := drawN_bounds _ _ _
      generalize nonceIn p g (a0 / p.epoch) = NC at *
      generalize proofP p g a0 k = PF at *
      generalize stakeP p g a0 k = SK at *
      generalize leadsP p g a0 k = LL at *
      go_upto_region 2 with fail
      generalize hA : w1.alloc (.cells #[.int .i64 NC, .int .i64 PF, .int .i64 SK, .bool LL] 77) = A at *
      obtain ⟨hsA, hbA, hT⟩ := below_of hA
      clear hA
      have L := L1.below hbA
      clear L1 hsA
      generalize hTB : w1.heap.size = TB at *
      clear hTB
      have HL := Go.Proofs.YtpaakikgfojplaaGreat.hid L
      have HT := Go.Proofs.YtpaakikgfojplaaGreat.hid hT
      have ck : A.cell? ⟨w.heap.size + 1, 7 + k, none⟩ = some (.int .i64 (g.counts k)) := cell_of_cells (j := 7 + k) L.r2 (pg_counts g k hk2)
      have d1 : A.cell? ⟨w.heap.size + 2, 1, none⟩ = some (.int .i64 (k : Int)) := cell_of_cells (j := 1) L.r3 rfl
      have d3 : A.cell? ⟨w.heap.size + 2, 3, none⟩ = some (.int .i64 a3) := cell_of_cells (j := 3) L.r3 rfl
      clear L hT hbA
      generalize hCN : g.counts k = CN at *
      have u1 : (0 : Int) ≤ (k : Int) := by omega
      have u2 : (k : Int) < 6 := by omega
      go_upto_region 5 with fail
      go_cut [40] (fun v wx => v = .bool (decide (a3 ≠ CN ∧ a3 ≠ CN + 1)) ∧ wx = A)
      case first =>
        by_cases h3 : a3 = CN
        · have hb1 : (a3 != CN) = false := by simp [h3]
          have H3 := Go.Proofs.YtpaakikgfojplaaGreat.hid h3
          clear h3
          go_wp2
          go_meet
          case rel => exact ⟨by have h3 := H3.out; simp [h3], rfl⟩
        · have hb1 : (a3 != CN) = true := by simp [h3]
          by_cases h4 : a3 = CN + 1
          · have hb2 : (a3 != CN + 1) = false := by simp [h4]
            have H4 := Go.Proofs.YtpaakikgfojplaaGreat.hid h4
            clear h4 h3
            go_wp2
            go_meet
            case rel => exact ⟨by have h4 := H4.out; simp [h4], rfl⟩
          · have hb2 : (a3 != CN + 1) = true := by simp [h4]
            go_wp2
            go_meet
            case rel => exact ⟨by simp [h3, h4], rfl⟩
      case rest =>
        clear ck d1 d3
        obtain ⟨rfl, rfl⟩ := hcut
        by_cases h3 : a3 ≠ CN ∧ a3 ≠ CN + 1
        · have hd3 : decide (a3 ≠ CN ∧ a3 ≠ CN + 1) = true := decide_eq_true h3
          rw [hd3]
          have her := HE2.out.trans (if_pos h3)
          have hv := HV.out.trans (if_neg (by rw [her]; decide))
          clear HE2 HV
          subst her; subst hv
          have Q4 := HL.out.r4
          go_wp2_with (refine wpList_store_row rfl 56 _ _ rfl (w.heap.size + 3) (pgA zeroP) rfl rfl 56 (pgA zeroP) Q4 (info_page _) rfl (pg_one _) ?_)
          refine bodyPost_ret (results_ct rfl _ _ _ (w.heap.size + 3) 56 (pgA zeroP) (0, 0) _ rfl (setRow_heap _ _ _ _ _ _ Q4) rfl Tryz.underlying56 (info_page _)) rfl ⟨rfl, Below.setRow HL.out.rB (by omega) _⟩
        · have hd3 : decide (a3 ≠ CN ∧ a3 ≠ CN + 1) = false := decide_eq_false h3
          rw [hd3]
          have HE3 := Go.Proofs.YtpaakikgfojplaaGreat.hid (HE2.out.trans (if_neg h3))
          clear HE2 h3 hd3
          have Q2 := HL.out.r2
          have c0 : wc.cell? ⟨w.heap.size, 0, none⟩ = some (.int .i64 p.epoch) := cell_of_cells (j := 0) HL.out.r1 rfl
          have c1 : wc.cell? ⟨w.heap.size, 1, none⟩ = some (.int .i64 p.a) := cell_of_cells (j := 1) HL.out.r1 rfl
          have c2 : wc.cell? ⟨w.heap.size, 2, none⟩ = some (.int .i64 p.b) := cell_of_cells (j := 2) HL.out.r1 rfl
          have c3 : wc.cell? ⟨w.heap.size, 3, none⟩ = some (.int .i64 (p.stakes.length : Int)) := cell_of_cells (j := 3) HL.out.r1 rfl
          have c4 : wc.cell? ⟨w.heap.size, 4, none⟩ = some (.int .i64 (total p)) := cell_of_cells (j := 4) HL.out.r1 rfl
          have d0 : wc.cell? ⟨w.heap.size + 2, 0, none⟩ = some (.int .i64 a0) := cell_of_cells (j := 0) HL.out.r3 rfl
          have d1 : wc.cell? ⟨w.heap.size + 2, 1, none⟩ = some (.int .i64 (k : Int)) := cell_of_cells (j := 1) HL.out.r3 rfl
          have d2 : wc.cell? ⟨w.heap.size + 2, 2, none⟩ = some (.int .i64 a2) := cell_of_cells (j := 2) HL.out.r3 rfl
          have d3 : wc.cell? ⟨w.heap.size + 2, 3, none⟩ = some (.int .i64 a3) := cell_of_cells (j := 3) HL.out.r3 rfl
          have d4 : wc.cell? ⟨w.heap.size + 2, 4, none⟩ = some (.int .i64 a4) := cell_of_cells (j := 4) HL.out.r3 rfl
          have d5 : wc.cell? ⟨w.heap.size + 2, 5, none⟩ = some (.int .i64 a5) := cell_of_cells (j := 5) HL.out.r3 rfl
          have d6 : wc.cell? ⟨w.heap.size + 2, 6, none⟩ = some (.int .i64 a6) := cell_of_cells (j := 6) HL.out.r3 rfl
          go_wp2_with (refine wpList_load_row rfl 56 _ rfl (w.heap.size + 1) rfl 56 (pgA g) (0, 0) _ Q2 Tryz.underlying56 rfl (info_page g) ?_)
          refine (mayMove_is p g ⟨a0, k, a2, a3, a4, a5, a6⟩ _ HP.out).mono ?_
          rintro r w2 ⟨rfl, hb2⟩
          have L2 := HL.out.below hb2
          have T2 : w2.heap[TB]? = _ := (hb2.block _ (lt_of_block HT.out)).trans HT.out
          clear hb2 HL HT Q2 c0 c1 c2 c3 c4 d0 d1 d2 d3 d4 d5 d6
          cases h4 : mayB p g ⟨a0, k, a2, a3, a4, a5, a6⟩
          · have her := HE3.out.trans (if_pos h4)
            have hv := HV.out.trans (if_neg (by rw [her]; decide))
            clear HE3 HV h4
            subst her; subst hv
            have Q4 := L2.r4
            have HB := Go.Proofs.YtpaakikgfojplaaGreat.hid L2.rB
            clear L2 T2
            go_wp2_with (refine wpList_store_row rfl 56 _ _ rfl (w.heap.size + 3) (pgA zeroP) rfl rfl 56 (pgA zeroP) Q4 (info_page _) rfl (pg_one _) ?_)
            refine bodyPost_ret (results_ct rfl _ _ _ (w.heap.size + 3) 56 (pgA zeroP) (0, 0) _ rfl (setRow_heap _ _ _ _ _ _ Q4) rfl Tryz.underlying56 (info_page _)) rfl ⟨rfl, Below.setRow HB.out (by omega) _⟩
          · have HE4 := Go.Proofs.YtpaakikgfojplaaGreat.hid (HE3.out.trans (if_neg (by simp [h4])))
            have HM4 := Go.Proofs.YtpaakikgfojplaaGreat.hid h4
            clear HE3 h4
            have t1 : w2.cell? ⟨TB, 1, none⟩ = some (.int .i64 PF) := cell_of_cells (j := 1) T2 rfl
            have t3 : w2.cell? ⟨TB, 3, none⟩ = some (.bool LL) := cell_of_cells (j := 3) T2 rfl
            have d2 : w2.cell? ⟨w.heap.size + 2, 2, none⟩ = some (.int .i64 a2) := cell_of_cells (j := 2) L2.r3 rfl
            by_cases h5 : a2 = PF
            · have hb5 : (a2 != PF) = false := by simp [h5]
              have HE5 := Go.Proofs.YtpaakikgfojplaaGreat.hid (HE4.out.trans (if_neg (by simp [h5])))
              have ha2 : 0 ≤ a2 ∧ a2 < 1024 := by omega
              clear HE4 h5
              cases h6 : LL
              · have her := HE5.out.trans (if_pos h6)
                have hv := HV.out.trans (if_neg (by rw [her]; decide))
                clear HE5 HV
                subst her; subst hv
                subst h6
                have Q4 := L2.r4
                have HB := Go.Proofs.YtpaakikgfojplaaGreat.hid L2.rB
                clear L2 T2
                go_wp2_with (refine wpList_store_row rfl 56 _ _ rfl (w.heap.size + 3) (pgA zeroP) rfl rfl 56 (pgA zeroP) Q4 (info_page _) rfl (pg_one _) ?_)
                refine bodyPost_ret (results_ct rfl _ _ _ (w.heap.size + 3) 56 (pgA zeroP) (0, 0) _ rfl (setRow_heap _ _ _ _ _ _ Q4) rfl Tryz.underlying56 (info_page _)) rfl ⟨rfl, Below.setRow HB.out (by omega) _⟩
              · have her := HE5.out.trans (if_neg (by simp [h6]))
                have hv := HV.out.trans (if_pos her)
                clear HE5 HV
                subst her; subst hv
                subst h6
                have hmm := HM4.out
                simp only [mayB, Bool.and_eq_true, decide_eq_true_eq] at hmm
                obtain ⟨⟨⟨hm1, hm2⟩, hm3⟩, hm4⟩ := hmm
                obtain ⟨f, rfl, hf1, hf2⟩ := poolB_yes HP.out hm1
                obtain ⟨d, rfl, hd1, hd2⟩ := poolB_yes HP.out hm2
                rw [Int.toNat_natCast] at hm4
                clear hm1 hm2 HM4
                have Q2 := L2.r2
                have HL := Go.Proofs.YtpaakikgfojplaaGreat.hid L2
                clear d2
                have c0 : w2.cell? ⟨w.heap.size, 0, none⟩ = some (.int .i64 p.epoch) := cell_of_cells (j := 0) L2.r1 rfl
                have c1 : w2.cell? ⟨w.heap.size, 1, none⟩ = some (.int .i64 p.a) := cell_of_cells (j := 1) L2.r1 rfl
                have c2 : w2.cell? ⟨w.heap.size, 2, none⟩ = some (.int .i64 p.b) := cell_of_cells (j := 2) L2.r1 rfl
                have c3 : w2.cell? ⟨w.heap.size, 3, none⟩ = some (.int .i64 (p.stakes.length : Int)) := cell_of_cells (j := 3) L2.r1 rfl
                have c4 : w2.cell? ⟨w.heap.size, 4, none⟩ = some (.int .i64 (total p)) := cell_of_cells (j := 4) L2.r1 rfl
                have d0 : w2.cell? ⟨w.heap.size + 2, 0, none⟩ = some (.int .i64 a0) := cell_of_cells (j := 0) L2.r3 rfl
                have d1 : w2.cell? ⟨w.heap.size + 2, 1, none⟩ = some (.int .i64 (k : Int)) := cell_of_cells (j := 1) L2.r3 rfl
                have d2 : w2.cell? ⟨w.heap.size + 2, 2, none⟩ = some (.int .i64 a2) := cell_of_cells (j := 2) L2.r3 rfl
                have d3 : w2.cell? ⟨w.heap.size + 2, 3, none⟩ = some (.int .i64 a3) := cell_of_cells (j := 3) L2.r3 rfl
                have d4 : w2.cell? ⟨w.heap.size + 2, 4, none⟩ = some (.int .i64 (f : Int)) := cell_of_cells (j := 4) L2.r3 rfl
                have d5 : w2.cell? ⟨w.heap.size + 2, 5, none⟩ = some (.int .i64 (d : Int)) := cell_of_cells (j := 5) L2.r3 rfl
                have d6 : w2.cell? ⟨w.heap.size + 2, 6, none⟩ = some (.int .i64 a6) := cell_of_cells (j := 6) L2.r3 rfl
                clear L2 T2
                go_upto_region 13 with fail
                go_wp2_with (refine wpList_load_row rfl 56 _ rfl (w.heap.size + 1) rfl 56 (pgA g) (0, 0) _ Q2 Tryz.underlying56 rfl (info_page g) ?_)
                refine (after_is p g a0 a2 a3 a6 k f d _ HP.out HG.out ⟨by have := HG.out.slot; unfold slotOkP at this; omega, h1t, h1s, hk2, hf2, hd2, by omega, by omega, hm3, hm4⟩).mono ?_
                rintro r w3 ⟨rfl, hb3⟩
                have L3 := HL.out.below hb3
                have Q4 := L3.r4
                have HB := Go.Proofs.YtpaakikgfojplaaGreat.hid L3.rB
                clear L3 hb3 HL Q2 c0 c1 c2 c3 c4 d0 d1 d2 d3 d4 d5 d6 t1 t3
                unfold pageV
                generalize hPG : afterPg p g ⟨a0, k, a2, a3, f, d, a6⟩ = PG at *
                go_wp2_with (refine wpList_store_row rfl 56 _ _ rfl (w.heap.size + 3) (pgA PG) rfl rfl 56 (pgA zeroP) Q4 (info_page _) rfl (pg_one _) ?_)
                refine bodyPost_ret (results_ct rfl _ _ _ (w.heap.size + 3) 56 (pgA PG) (0, 0) _ rfl (setRow_heap _ _ _ _ _ _ Q4) rfl Tryz.underlying56 (info_page _)) rfl ⟨by rw [hPG]; rfl, Below.setRow HB.out (by omega) _⟩
            · have hb5 : (a2 != PF) = true := by simp [h5]
              have her := HE4.out.trans (if_pos h5)
              have hv := HV.out.trans (if_neg (by rw [her]; decide))
              clear HE4 HV
              subst her; subst hv
              have Q4 := L2.r4
              have HB := Go.Proofs.YtpaakikgfojplaaGreat.hid L2.rB
              clear L2 T2
              go_wp2_with (refine wpList_store_row rfl 56 _ _ rfl (w.heap.size + 3) (pgA zeroP) rfl rfl 56 (pgA zeroP) Q4 (info_page _) rfl (pg_one _) ?_)
              refine bodyPost_ret (results_ct rfl _ _ _ (w.heap.size + 3) 56 (pgA zeroP) (0, 0) _ rfl (setRow_heap _ _ _ _ _ _ Q4) rfl Tryz.underlying56 (info_page _)) rfl ⟨rfl, Below.setRow HB.out (by omega) _⟩

end Go.Proofs.YtpaakikgfojplaaGreat

