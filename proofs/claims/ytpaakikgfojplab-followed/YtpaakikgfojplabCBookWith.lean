import Derived.Test.YtpaakikgfojplabCBookTip
/-
  THE WALKS of the statements' book: count, ahead, stake, running.
-/
namespace Go.Proofs.Ytpaakikgfojplab
open Go.RowKit Num Bk
set_option linter.unusedVariables false

set_option maxHeartbeats 1600000 in
set_option maxRecDepth 1000000 in
theorem bcount_any (b xc gs cs ga ca : Nat) (s : St) (id : Nat) (pool : Int) (w : World) (hr : BookAt w b xc gs cs ga ca s) (hv : Inv s) (hl : id < s.all.length) :
    Calls Try.prog 24 #[.pointer (some ⟨b, 0, none⟩), .int .i64 (id : Int), .int .i64 pool] w fun e w' => e = .returned (.int .i64 (countAt s.all pool id)) ∧ Below w.heap.size w w' := by
  have hi := hv.wk
  have hh := hi.hs id hl
  have hll : (line s.all id).reverse.length = height s.all id + 1 := by rw [List.length_reverse, line_length hi.tree]
  have hsm := hi.small
  have e1 := hv.par.e1
  have e2 := hv.par.e2
  have HPA : Hid (∀ i, i < height s.all id → pa s.all ((line s.all id).reverse.getD i 0) = (line s.all id).reverse.getD (i + 1) 0 ∧ 0 < (line s.all id).reverse.getD i 0) := fun i h => rev_pa hi.tree id i h
  have HLT : Hid (∀ i, i ≤ height s.all id → (line s.all id).reverse.getD i 0 < s.all.length) := fun i h => by have := rev_le hi.tree id i h; omega
  have HR0 := Go.Proofs.Ytpaakikgfojplab.hid (rev_zero hi.tree id)
  have HRE := Go.Proofs.Ytpaakikgfojplab.hid (rev_end hi.tree id)
  have HTR := Go.Proofs.Ytpaakikgfojplab.hid hi.tree
  have HV := Go.Proofs.Ytpaakikgfojplab.hid hv
  go_enter Try.func24, Try.ntmps24
  go_wp2_with fail
  refine (bline_any b xc gs cs ga ca s id _ hr hi hl).mono ?_
  rintro e w1 ⟨g, cap, rfl, ho, hb⟩
  have hr1 := hr.keep hb
  have HLL := Go.Proofs.Ytpaakikgfojplab.hid hll
  have hRb : (line s.all id).reverse.length ≤ 20001 := by omega
  have hRp : 1 ≤ (line s.all id).reverse.length := by omega
  clear hr hll hv
  generalize (line s.all id).reverse = R at *
  generalize height s.all id = ht at *
  have hgl := own_lt ho
  go_wp2
  go_loopw [8] (fun i wr => ∃ k : Nat, k < R.length ∧ i = .int .i64 k ∧ Hid (countAt s.all pool id = countAt s.all pool (R.getD k 0)) ∧ Below w1.heap.size w1 wr)
    (fun i _ => R.length - (intOf i).toNat)
  case atStart => exact ⟨0, by omega, rfl, by unfold Hid; rw [HR0.out], Below.refl _ _⟩
  case round =>
    obtain ⟨k, hk, rfl, HM, hbel⟩ := hrel
    have hr2 := hr1.keep hbel
    have hsz := hbel.size
    by_cases hlt : k + 1 < R.length
    · have hlt' : (k : Int) + 1 < ((R.length : Nat) : Int) := by omega
      have hkh : k < ht := by have := HLL.out; omega
      have c1 := ((row_keep ho hbel (Nat.le_refl _)).cellAt k (by omega)).trans (dcells_at R k (by omega))
      have c8 := cell_of_cells (j := 8) hr2.blk rfl
      have hbl := lt_of_block hr2.blk
      have hpa := HPA.out k hkh
      have hdl := HLT.out k (by omega)
      have hpl := HLT.out (k + 1) (by omega)
      have hc := hr2.hdr_at hdl
      have hok := HV.out.hdrs _ hpa.2 hdl
      have hst := countAt_step pool HTR.out hpa.2
      rw [← HM.out, hpa.1] at hst
      have HST := Go.Proofs.Ytpaakikgfojplab.hid hst
      clear hst HM hok
      generalize R.getD k 0 = d at *
      generalize hDP : R.getD (k + 1) 0 = dp at *
      have HDP := Go.Proofs.Ytpaakikgfojplab.hid hDP
      clear hDP
      have i1 : (0 : Int) ≤ (k : Int) := by omega
      have i2 : (k : Int) < ((R.length : Nat) : Int) := by omega
      have i3 : (0 : Int) ≤ (d : Int) := by omega
      have i4 : (d : Int) < ((s.all.length : Nat) : Int) := by omega
      have h0 := hc.c0
      have h1 := hc.c1
      have h2 := hc.c2
      have h3 := hc.c3
      have h4 := hc.c4
      have h5 := hc.c5
      have h6 := hc.c6
      generalize hd s.all d = H at *
      clear hc hr2 hpa
      by_cases hp : H.pool = pool
      · have hpb : (H.pool == pool) = true := by simp [hp]
        have HE := Go.Proofs.Ytpaakikgfojplab.hid (show countAt s.all pool id = H.count by rw [HST.out]; simp [countS, hp])
        have HB := Go.Proofs.Ytpaakikgfojplab.hid (hb.trans (hbel.mono hb.size))
        clear hp
        go_wp2
        go_quiet (fail)
        go_wp2
        go_quiet (fail)
        go_wp2
        go_ret
        exact ⟨by rw [HE.out]; rfl, drawB (drawB HB.out _) _⟩
      · have hpb : (H.pool == pool) = false := by simp [hp]
        have HE := Go.Proofs.Ytpaakikgfojplab.hid (show countAt s.all pool id = countAt s.all pool dp by rw [HST.out]; simp [countS, hp])
        go_wp2
        go_quiet (fail)
        go_wp2
        go_roundw
        case rel => exact ⟨k + 1, by omega, by go_num, by unfold Hid; rw [HDP.out]; exact HE.out, drawB hbel _⟩
        case measure => simp [intOf]; omega
    · have hlt' : ¬ (k : Int) + 1 < ((R.length : Nat) : Int) := by omega
      have HE := Go.Proofs.Ytpaakikgfojplab.hid (show countAt s.all pool id = 0 by
        rw [HM.out, show k = ht by have := HLL.out; omega, HRE.out, countAt_zero])
      have HB := Go.Proofs.Ytpaakikgfojplab.hid (hb.trans (hbel.mono hb.size))
      clear HM hr2 hbel
      go_wp2
      go_ret
      exact ⟨by rw [HE.out]; rfl, HB.out⟩

/-- A pool's stake behind a header. -/
def stakeOf (s : St) (id pN : Nat) : Int := (stakesAt s.par s.all id).getD pN 0

set_option maxHeartbeats 3200000 in
set_option maxRecDepth 1000000 in
theorem bstake_any (b xc gs cs ga ca : Nat) (s : St) (id pN : Nat) (w : World) (hr : BookAt w b xc gs cs ga ca s) (hv : Inv s) (hl : id < s.all.length) (hpN : pN < s.par.stakes.length) :
    Calls Try.prog 45 #[.pointer (some ⟨b, 0, none⟩), .int .i64 (id : Int), .int .i64 (pN : Int)] w fun e w' => e = .returned (.int .i64 (stakeOf s id pN)) ∧ Below w.heap.size w w' := by
  have hi := hv.wk
  have hh := hi.hs id hl
  have hll : (line s.all id).reverse.length = height s.all id + 1 := by rw [List.length_reverse, line_length hi.tree]
  have hsm := hi.small
  have e1 := hv.par.e1
  have e2 := hv.par.e2
  have HPA : Hid (∀ i, i < height s.all id → pa s.all ((line s.all id).reverse.getD i 0) = (line s.all id).reverse.getD (i + 1) 0 ∧ 0 < (line s.all id).reverse.getD i 0) := fun i h => rev_pa hi.tree id i h
  have HLT : Hid (∀ i, i ≤ height s.all id → (line s.all id).reverse.getD i 0 < s.all.length) := fun i h => by have := rev_le hi.tree id i h; omega
  have HR0 := Go.Proofs.Ytpaakikgfojplab.hid (rev_zero hi.tree id)
  have HRE := Go.Proofs.Ytpaakikgfojplab.hid (rev_end hi.tree id)
  have HTR := Go.Proofs.Ytpaakikgfojplab.hid hi.tree
  have HV := Go.Proofs.Ytpaakikgfojplab.hid hv
  have hts := total_small hv.par
  go_enter Try.func45, Try.ntmps45
  go_wp2_with fail
  refine (bline_any b xc gs cs ga ca s id _ hr hi hl).mono ?_
  rintro e w1 ⟨g, cap, rfl, ho, hb⟩
  have hr1 := hr.keep hb
  have HLL := Go.Proofs.Ytpaakikgfojplab.hid hll
  have hRb : (line s.all id).reverse.length ≤ 20001 := by omega
  have hRp : 1 ≤ (line s.all id).reverse.length := by omega
  clear hr hll hv
  generalize (line s.all id).reverse = R at *
  generalize height s.all id = ht at *
  have hgl := own_lt ho
  have c7 := cell_of_cells (j := 7) hr1.blk rfl
  have cs0 := (hr1.stk.cellAt pN (by omega)).trans (icells_at _ pN hpN)
  have j1 : (0 : Int) ≤ (pN : Int) := by omega
  have j2 : (pN : Int) < ((s.par.stakes.length : Nat) : Int) := by omega
  have hid1 : 0 ≤ stakeOf s id pN ∧ stakeOf s id pN ≤ total s.par := stake_bounds HV.out hl pN
  have h00 := stake_bounds HV.out HV.out.len pN
  rw [stakesAt_zero] at h00
  generalize hSI : stakeOf s id pN = si at *
  generalize hS0 : s.par.stakes.getD pN 0 = s0 at *
  have HSI := Go.Proofs.Ytpaakikgfojplab.hid hSI
  have HS0 := Go.Proofs.Ytpaakikgfojplab.hid hS0
  clear hSI hS0
  go_wp2
  clear c7 cs0
  go_loopw [8, 9] (fun n i wr => ∃ (k : Nat) (m : Int), k < R.length ∧ i = .int .i64 k ∧ n = .int .i64 m ∧ -1000 ≤ m ∧ m ≤ 1000 ∧ Hid (m - s0 = si - (stakesAt s.par s.all (R.getD k 0)).getD pN 0) ∧ Below w1.heap.size w1 wr)
    (fun _ i _ => R.length - (intOf i).toNat)
  case atStart => exact ⟨0, s0, by omega, rfl, rfl, by omega, by omega, by unfold Hid; rw [HR0.out, show (stakesAt s.par s.all id).getD pN 0 = si from HSI.out]; omega, Below.refl _ _⟩
  case round =>
    obtain ⟨k, m, hk, rfl, rfl, hm0, hm1, HM, hbel⟩ := hrel
    have hr2 := hr1.keep hbel
    have hsz := hbel.size
    by_cases hlt : k + 1 < R.length
    · have hlt' : (k : Int) + 1 < ((R.length : Nat) : Int) := by omega
      have hkh : k < ht := by have := HLL.out; omega
      have c1 := ((row_keep ho hbel (Nat.le_refl _)).cellAt k (by omega)).trans (dcells_at R k (by omega))
      have c8 := cell_of_cells (j := 8) hr2.blk rfl
      have hbl := lt_of_block hr2.blk
      have hpa := HPA.out k hkh
      have hdl := HLT.out k (by omega)
      have hpl := HLT.out (k + 1) (by omega)
      have hc := hr2.hdr_at hdl
      have hok := HV.out.hdrs _ hpa.2 hdl
      have f0 := hok.frm0
      have f1 := hok.frm1
      have d0 := hok.dst0
      have d1 := hok.dst1
      have a0 := hok.amount0
      have hq := stake_bounds HV.out hpl (hd s.all (R.getD k 0)).frm.toNat
      have ham := hok.amount1
      rw [hpa.1] at ham
      have hst := moveS_at (stakesAt s.par s.all (pa s.all (R.getD k 0))) (hd s.all (R.getD k 0)) (by rw [hpa.1, (stakes_ok HV.out _ hpl).len]; omega) (by rw [hpa.1, (stakes_ok HV.out _ hpl).len]; omega) pN
      rw [← stakesAt_step s.par HTR.out hpa.2, hpa.1] at hst
      have hb1' := stake_bounds HV.out hpl pN
      have hb2' := stake_bounds HV.out hdl pN
      have hmm := HM.out
      rw [hst] at hmm hb2'
      have am1 : (hd s.all (R.getD k 0)).amount ≤ 240 := by omega
      clear HM hok hst ham hq
      generalize R.getD k 0 = d at *
      generalize hDP : R.getD (k + 1) 0 = dp at *
      have HDP := Go.Proofs.Ytpaakikgfojplab.hid hDP
      clear hDP
      have i1 : (0 : Int) ≤ (k : Int) := by omega
      have i2 : (k : Int) < ((R.length : Nat) : Int) := by omega
      have i3 : (0 : Int) ≤ (d : Int) := by omega
      have i4 : (d : Int) < ((s.all.length : Nat) : Int) := by omega
      have h0 := hc.c0
      have h1 := hc.c1
      have h2 := hc.c2
      have h3 := hc.c3
      have h4 := hc.c4
      have h5 := hc.c5
      have h6 := hc.c6
      generalize hd s.all d = H at *
      obtain ⟨sl, po, pr, co, fr, ds, am⟩ := H
      simp only at *
      obtain ⟨fN, rfl⟩ := Int.eq_ofNat_of_zero_le f0
      obtain ⟨dN, rfl⟩ := Int.eq_ofNat_of_zero_le d0
      simp only [Int.toNat_natCast] at hmm hb2'
      generalize hPV : (stakesAt s.par s.all dp).getD pN 0 = pv at *
      have HPV := Go.Proofs.Ytpaakikgfojplab.hid hPV
      clear hc hr2 hpa hPV
      go_wp2
      go_region_held3 (fun w' => w'.cell? ⟨b, 8, none⟩ = some (.slice (some ⟨ga, 0, none⟩) s.all.length ca) ∧ w'.cell? ⟨g, k, none⟩ = some (.int .i64 (d : Int)) ∧ w'.cell? ⟨ga, d * 8, none⟩ = some (.int .i64 sl) ∧ w'.cell? ⟨ga, d * 8 + 1, none⟩ = some (.int .i64 po) ∧ w'.cell? ⟨ga, d * 8 + 2, none⟩ = some (.int .i64 pr) ∧ w'.cell? ⟨ga, d * 8 + 3, none⟩ = some (.int .i64 co) ∧ w'.cell? ⟨ga, d * 8 + 4, none⟩ = some (.int .i64 (fN : Int)) ∧ w'.cell? ⟨ga, d * 8 + 5, none⟩ = some (.int .i64 (dN : Int)) ∧ w'.cell? ⟨ga, d * 8 + 6, none⟩ = some (.int .i64 am)) (go_keep) (fail)
      by_cases y1 : fN = pN <;> by_cases y2 : dN = pN
      · rw [if_pos y1, if_pos y2] at hmm
        have z1 : ((fN : Int) == (pN : Int)) = true := by simp [y1]
        have z2 : ((dN : Int) == (pN : Int)) = true := by simp [y2]
        have HMM := Go.Proofs.Ytpaakikgfojplab.hid hmm
        clear hmm hb2' y1 y2
        go_wp2
        go_roundw
        case rel => exact ⟨k + 1, m, by omega, by go_num, rfl, by omega, by omega, by have := HMM.out; unfold Hid; rw [HDP.out, HPV.out]; omega, (hbel.alloc hsz _).drew⟩
        case measure => simp [intOf]; omega
      · rw [if_pos y1, if_neg y2] at hmm
        rw [if_pos y1, if_neg y2] at hb2'
        have z1 : ((fN : Int) == (pN : Int)) = true := by simp [y1]
        have z2 : ((dN : Int) == (pN : Int)) = false := by rw [beq_eq_false_iff_ne]; omega
        have HMM := Go.Proofs.Ytpaakikgfojplab.hid hmm
        have hmb : -1000 ≤ m - am ∧ m - am ≤ 1000 := by omega
        clear hmm hb2' y1 y2
        go_wp2
        go_roundw
        case rel => exact ⟨k + 1, m - am, by omega, by go_num, rfl, by omega, by omega, by have := HMM.out; unfold Hid; rw [HDP.out, HPV.out]; omega, (hbel.alloc hsz _).drew⟩
        case measure => simp [intOf]; omega
      · rw [if_neg y1, if_pos y2] at hmm
        rw [if_neg y1, if_pos y2] at hb2'
        have z1 : ((fN : Int) == (pN : Int)) = false := by rw [beq_eq_false_iff_ne]; omega
        have z2 : ((dN : Int) == (pN : Int)) = true := by simp [y2]
        have HMM := Go.Proofs.Ytpaakikgfojplab.hid hmm
        have hmb : -1000 ≤ m + am ∧ m + am ≤ 1000 := by omega
        clear hmm hb2' y1 y2
        go_wp2
        go_roundw
        case rel => exact ⟨k + 1, m + am, by omega, by go_num, rfl, by omega, by omega, by have := HMM.out; unfold Hid; rw [HDP.out, HPV.out]; omega, (hbel.alloc hsz _).drew⟩
        case measure => simp [intOf]; omega
      · rw [if_neg y1, if_neg y2] at hmm
        have z1 : ((fN : Int) == (pN : Int)) = false := by rw [beq_eq_false_iff_ne]; omega
        have z2 : ((dN : Int) == (pN : Int)) = false := by rw [beq_eq_false_iff_ne]; omega
        have HMM := Go.Proofs.Ytpaakikgfojplab.hid hmm
        clear hmm hb2' y1 y2
        go_wp2
        go_roundw
        case rel => exact ⟨k + 1, m, by omega, by go_num, rfl, by omega, by omega, by have := HMM.out; unfold Hid; rw [HDP.out, HPV.out]; omega, (hbel.alloc hsz _).drew⟩
        case measure => simp [intOf]; omega
    · have hlt' : ¬ (k : Int) + 1 < ((R.length : Nat) : Int) := by omega
      have hE : m = si := by
        have h1 := HM.out
        rw [show k = ht by have := HLL.out; omega, HRE.out, stakesAt_zero, HS0.out] at h1
        omega
      have HE := Go.Proofs.Ytpaakikgfojplab.hid hE
      have HB := Go.Proofs.Ytpaakikgfojplab.hid (hb.trans (hbel.mono hb.size))
      clear HM hr2 hbel hE
      go_wp2
      go_ret
      exact ⟨by rw [HSI.out, ← HE.out]; rfl, HB.out⟩

end Go.Proofs.Ytpaakikgfojplab

