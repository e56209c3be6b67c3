/-
  THE WALKS of the statements' book: running, there, wanted, came.
-/
import Derived.Test.YtfpbkiknfkjpbaaBookWith
import Derived.Test.YtfpbkiknfkjpbaaRefTake
namespace Go.Proofs.Ytfpbkiknfkjpbaa
open Go.RowKit Num Bk
set_option linter.unusedVariables false

set_option maxHeartbeats 3200000 in
set_option maxRecDepth 1000000 in
theorem brunning_any (b xc gs cs ga ca : Nat) (s : St) (id : Nat) (w : World) (hr : BookAt w b xc gs cs ga ca s) (hv : Inv s) (hl : id < s.all.length) :
    Calls Try.prog 26 #[.pointer (some ⟨b, 0, none⟩), .int .i64 (id : Int)] w fun e w' => e = .returned (.int .i64 (runAt s.par s.all id)) ∧ Below w.heap.size w w' := by
  have hi := hv.wk
  have hh := hi.hs id hl
  have hll : (line s.all id).reverse.length = height s.all id + 1 := by rw [List.length_reverse, line_length hi.tree]
  have hsm := hi.small
  have e1 := hv.par.e1
  have e2 := hv.par.e2
  have HPA : Hid (∀ i, i < height s.all id → pa s.all ((line s.all id).reverse.getD i 0) = (line s.all id).reverse.getD (i + 1) 0 ∧ 0 < (line s.all id).reverse.getD i 0) := fun i h => rev_pa hi.tree id i h
  have HLT : Hid (∀ i, i ≤ height s.all id → (line s.all id).reverse.getD i 0 < s.all.length) := fun i h => by have := rev_le hi.tree id i h; omega
  have HR0 := Go.Proofs.Ytfpbkiknfkjpbaa.hid (rev_zero hi.tree id)
  have HRE := Go.Proofs.Ytfpbkiknfkjpbaa.hid (rev_end hi.tree id)
  have HTR := Go.Proofs.Ytfpbkiknfkjpbaa.hid hi.tree
  have HV := Go.Proofs.Ytfpbkiknfkjpbaa.hid hv
  go_enter Try.func26, Try.ntmps26
  go_wp2_with fail
  refine (bline_any b xc gs cs ga ca s id _ hr hi hl).mono ?_
  rintro e w1 ⟨g, cap, rfl, ho, hb⟩
  have hr1 := hr.keep hb
  have HLL := Go.Proofs.Ytfpbkiknfkjpbaa.hid hll
  have hRb : (line s.all id).reverse.length ≤ 20001 := by omega
  have hRp : 1 ≤ (line s.all id).reverse.length := by omega
  clear hr hll hv
  generalize (line s.all id).reverse = R at *
  generalize height s.all id = ht at *
  have hgl := own_lt ho
  have c6 := cell_of_cells (j := 6) hr1.blk rfl
  have hnb := HV.out.par
  have n1 := hnb.n1
  have n2 := hnb.n2
  clear hnb
  have hRL : R.length = ht + 1 := HLL.out
  rw [hRL]
  have hht : ht ≤ 20000 := by omega
  clear hRL
  go_wp2
  clear c6
  go_loopw [6, 7] (fun n i wr => ∃ (j : Nat) (m : Int), j ≤ ht ∧ i = .int .i64 ((j : Int) - 1) ∧ n = .int .i64 m ∧ 0 ≤ m ∧ m < 65521 ∧ Hid (m = runAt s.par s.all (R.getD j 0)) ∧ Below w1.heap.size w1 wr)
    (fun _ i _ => (intOf i + 1).toNat)
  case atStart => exact ⟨ht, s.par.nonce, Nat.le_refl _, by go_num, rfl, n1, n2, by unfold Hid; rw [HRE.out, runAt_zero], Below.refl _ _⟩
  case round =>
    obtain ⟨j, m, hj, rfl, rfl, hm0, hm1, HM, hbel⟩ := hrel
    have hr2 := hr1.keep hbel
    have hsz := hbel.size
    rcases Nat.eq_zero_or_pos j with hj0 | hj0
    · subst hj0
      have HE := Go.Proofs.Ytfpbkiknfkjpbaa.hid (show m = runAt s.par s.all id by rw [HM.out, HR0.out])
      have HB := Go.Proofs.Ytfpbkiknfkjpbaa.hid (hb.trans (hbel.mono hb.size))
      clear HM hr2 hbel
      go_wp2
      go_ret
      exact ⟨by rw [← HE.out]; rfl, HB.out⟩
    · obtain ⟨k, rfl⟩ : ∃ k, j = k + 1 := ⟨j - 1, by omega⟩
      rw [show (((k + 1 : Nat) : Int) - 1) = (k : Int) from by omega]
      have cE := cell_of_cells (j := 2) hr2.blk rfl
      have hkh : k < ht := by omega
      have hRLb := HLL.out
      have c1 := ((row_keep ho hbel (Nat.le_refl _)).cellAt k (by omega)).trans (dcells_at R k (by omega))
      have c8 := cell_of_cells (j := 8) hr2.blk rfl
      have hbl := lt_of_block hr2.blk
      have hpa := HPA.out k hkh
      have hdl := HLT.out k (by omega)
      have hpl := HLT.out (k + 1) (by omega)
      have hc := hr2.hdr_at hdl
      have hok := HV.out.hdrs _ hpa.2 hdl
      have hst := runAt_step s.par HTR.out hpa.2
      rw [hpa.1, ← HM.out] at hst
      have HST := Go.Proofs.Ytfpbkiknfkjpbaa.hid hst
      have hsl := slot_bounds HV.out hdl
      have hpf0 := hok.proof0
      have hpf1 := hok.proof1
      clear hst HM hok
      generalize hDD : R.getD k 0 = d at *
      have HDD := Go.Proofs.Ytfpbkiknfkjpbaa.hid hDD
      clear hDD
      generalize hDP : R.getD (k + 1) 0 = dp at *
      have HDP := Go.Proofs.Ytfpbkiknfkjpbaa.hid hDP
      clear hDP
      have i1 : (0 : Int) ≤ (k : Int) := by omega
      have i2 : (k : Int) < ((R.length : Nat) : Int) := by omega
      have i3 : (0 : Int) ≤ (d : Int) := by omega
      have i4 : (d : Int) < ((s.all.length : Nat) : Int) := by omega
      have h0 := hc.c0
      have h1 := hc.c1
      have h2 := hc.c2
      have h3 := hc.c3
      have h4 := hc.c4
      have h5 := hc.c5
      have h6 := hc.c6
      clear hRLb i2
      have i2 : (k : Int) < ((ht : Nat) : Int) + 1 := by omega
      generalize hd s.all d = H at *
      clear hc hr2 hpa
      have hz : (s.par.epoch == 0) = false := by rw [beq_eq_false_iff_ne]; omega
      have hm2 := Int.emod_nonneg H.slot (show s.par.epoch ≠ 0 by omega)
      have hm3 := Int.emod_lt_of_pos H.slot (show 0 < s.par.epoch by omega)
      have hm4 : H.slot.tmod s.par.epoch = H.slot % s.par.epoch := Int.tmod_eq_emod_of_nonneg hsl.1
      have hm5 : 0 ≤ (m * 257 + H.proof + 1) % 65521 := Int.emod_nonneg _ (by omega)
      have hm6 : (m * 257 + H.proof + 1) % 65521 < 65521 := Int.emod_lt_of_pos _ (by omega)
      go_wp2
      go_region_held3 (fun w' => w'.cell? ⟨b, 8, none⟩ = some (.slice (some ⟨ga, 0, none⟩) s.all.length ca) ∧ w'.cell? ⟨g, k, none⟩ = some (.int .i64 (d : Int)) ∧ w'.cell? ⟨ga, d * 8, none⟩ = some (.int .i64 H.slot) ∧ w'.cell? ⟨ga, d * 8 + 1, none⟩ = some (.int .i64 H.pool) ∧ w'.cell? ⟨ga, d * 8 + 2, none⟩ = some (.int .i64 H.proof) ∧ w'.cell? ⟨ga, d * 8 + 3, none⟩ = some (.int .i64 H.count) ∧ w'.cell? ⟨ga, d * 8 + 4, none⟩ = some (.int .i64 H.frm) ∧ w'.cell? ⟨ga, d * 8 + 5, none⟩ = some (.int .i64 H.dst) ∧ w'.cell? ⟨ga, d * 8 + 6, none⟩ = some (.int .i64 H.amount)) (go_keep) (fail)
      by_cases hp : H.slot % s.par.epoch * 3 < 2 * s.par.epoch
      · have HE := Go.Proofs.Ytfpbkiknfkjpbaa.hid (show runAt s.par s.all d = (m * 257 + H.proof + 1) % 65521 by rw [HST.out]; unfold runS; rw [if_pos (by omega)])
        go_wp2
        go_quiet (fail)
        go_wp2
        go_roundw
        case rel => exact ⟨k, (m * 257 + H.proof + 1) % 65521, by omega, by go_num, rfl, hm5, hm6, by unfold Hid; rw [HDD.out, HE.out], drawB (hbel.alloc hsz _) _⟩
        case measure => simp [intOf]
      · have HE := Go.Proofs.Ytfpbkiknfkjpbaa.hid (show runAt s.par s.all d = m by rw [HST.out]; unfold runS; rw [if_neg (by omega)])
        go_wp2
        go_quiet (fail)
        go_wp2
        go_roundw
        case rel => exact ⟨k, m, by omega, by go_num, rfl, hm0, hm1, by unfold Hid; rw [HDD.out, HE.out], drawB (hbel.alloc hsz _) _⟩
        case measure => simp [intOf]

end Go.Proofs.Ytfpbkiknfkjpbaa
