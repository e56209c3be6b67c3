import Derived.Test.YtpaakikgfojplaaGreatCM9
/-
  THE WALKS of beaconref: what goes with a header: counts, running, last, stakes.
-/
namespace Go.Proofs.YtpaakikgfojplaaGreat
open Go.RowKit Num Bk
set_option linter.unusedVariables false

theorem fold_tail {α : Type} (f : α → Nat → α) (a : α) (L : List Nat) (k : Nat) (h1 : 1 ≤ k) (h : k < L.length) : (L.tail.take (k + 1 - 1)).foldl f a = f ((L.tail.take (k - 1)).foldl f a) (L.getD k 0) := by
  obtain ⟨j, rfl⟩ : ∃ j, k = j + 1 := ⟨k - 1, by omega⟩
  cases L with
  | nil => simp at h
  | cons y L =>
    have h' : j < L.length := by simpa using h
    show (L.take (j + 1)).foldl f a = f ((L.take j).foldl f a) ((y :: L).getD (j + 1) 0)
    rw [take_succ_getD L j h', List.foldl_append]
    rfl

theorem fold_tail_end {α : Type} (f : α → Nat → α) (a : α) (L : List Nat) (k : Nat) (h : k = L.length) : (L.tail.take (k - 1)).foldl f a = L.tail.foldl f a := by
  rw [List.take_of_length_le (by simp; omega)]

set_option maxHeartbeats 1600000 in
set_option maxRecDepth 1000000 in
theorem counts_any (x gs cs ga ca gk ck : Nat) (s : St) (id : Nat) (pool : Int) (w : World) (hr : RefAt w x gs cs ga ca gk ck s) (hi : Wk s) (hl : id < s.all.length) :
    Calls Tryz.prog 63 #[.pointer (some ⟨x, 0, none⟩), .int .i64 (id : Int), .int .i64 pool] w fun e w' => e = .returned (.int .i64 (countAt s.all pool id)) ∧ Below w.heap.size w w' := by
  have hll := line_length hi.tree id
  have hh := hi.hs id hl
  have hle := line_le hi.tree id
  have hne := line_ne hi.tree id
  go_enter Tryz.func63, Tryz.ntmps63
  go_wp2_with fail
  refine (line_any x gs cs ga ca gk ck s id _ hr hi hl).mono ?_
  rintro e w1 ⟨g, cap, rfl, ho, hb⟩
  have hr1 := hr.keep hb
  have hsm := hi.small
  have HF := Go.Proofs.YtpaakikgfojplaaGreat.hid (show countAt s.all pool id = (line s.all id).tail.foldl (fun n k => countS pool n (hd s.all k)) 0 from rfl)
  have HL := Go.Proofs.YtpaakikgfojplaaGreat.hid hle
  have hLb : (line s.all id).length ≤ 20001 := by omega
  clear hr hle hll hh
  generalize line s.all id = L at *
  go_wp2
  go_loopw [7, 9] (fun n i wr => ∃ (k : Nat) (m : Int), 1 ≤ k ∧ k ≤ L.length ∧ i = .int .i64 k ∧ n = .int .i64 m ∧ Hid (m = (L.tail.take (k - 1)).foldl (fun n k => countS pool n (hd s.all k)) 0) ∧ Below w1.heap.size w1 wr)
    (fun _ i _ => L.length - (intOf i).toNat)
  case atStart => exact ⟨1, 0, Nat.le_refl _, hne, rfl, rfl, by unfold Hid; simp, Below.refl _ _⟩
  case round =>
    obtain ⟨k, m, hk1, hk, rfl, rfl, HM, hbel⟩ := hrel
    have hr2 := hr1.keep hbel
    have hsz := hbel.size
    by_cases hlt : k < L.length
    · have c1 := ((row_keep ho hbel (Nat.le_refl _)).cellAt k (by omega)).trans (dcells_at L k hlt)
      have c7 := cell_of_cells (j := 7) hr2.blk rfl
      have hxl := lt_of_block hr2.blk
      have hLm : L.getD k 0 ∈ L := by
        rw [show L.getD k 0 = L[k] from by simp [List.getD, hlt]]
        exact List.getElem_mem hlt
      have hdl : L.getD k 0 < s.all.length := by have := HL.out _ hLm; omega
      have hc := hr2.hdr_at hdl
      have hst := fold_tail (fun n k => countS pool n (hd s.all k)) 0 L k hk1 hlt
      rw [← HM.out] at hst
      have HST := Go.Proofs.YtpaakikgfojplaaGreat.hid hst
      clear hst HM
      generalize L.getD k 0 = d at *
      have i1 : (0 : Int) ≤ (k : Int) := by omega
      have i2 : (k : Int) < ((L.length : Nat) : Int) := by omega
      have i3 : (0 : Int) ≤ (d : Int) := by omega
      have i4 : (d : Int) < ((s.all.length : Nat) : Int) := by omega
      have h0 := hc.c0
      have h1 := hc.c1
      have h2 := hc.c2
      have h3 := hc.c3
      have h4 := hc.c4
      have h5 := hc.c5
      have h6 := hc.c6
      generalize hd s.all d = H at *
      clear hc hr2
      go_wp2
      go_region_held3 (fun w' => w'.cell? ⟨x, 7, none⟩ = some (.slice (some ⟨ga, 0, none⟩) s.all.length ca) ∧ w'.cell? ⟨g, k, none⟩ = some (.int .i64 (d : Int)) ∧ w'.cell? ⟨ga, d * 8, none⟩ = some (.int .i64 H.slot) ∧ w'.cell? ⟨ga, d * 8 + 1, none⟩ = some (.int .i64 H.pool) ∧ w'.cell? ⟨ga, d * 8 + 2, none⟩ = some (.int .i64 H.proof) ∧ w'.cell? ⟨ga, d * 8 + 3, none⟩ = some (.int .i64 H.count) ∧ w'.cell? ⟨ga, d * 8 + 4, none⟩ = some (.int .i64 H.frm) ∧ w'.cell? ⟨ga, d * 8 + 5, none⟩ = some (.int .i64 H.dst) ∧ w'.cell? ⟨ga, d * 8 + 6, none⟩ = some (.int .i64 H.amount)) (go_keep) (fail)
      by_cases hp : H.pool = pool
      · have hpb : (H.pool == pool) = true := by simp [hp]
        go_wp2
        go_roundw
        case rel => exact ⟨k + 1, H.count, by omega, by omega, by go_num, rfl, by have := HST.out; unfold Hid; rw [this]; simp [countS, hp], (hbel.alloc hsz _).drew⟩
        case measure => simp [intOf]; omega
      · have hpb : (H.pool == pool) = false := by simp [hp]
        go_wp2
        go_roundw
        case rel => exact ⟨k + 1, m, by omega, by omega, by go_num, rfl, by have := HST.out; unfold Hid; rw [this]; simp [countS, hp], (hbel.alloc hsz _).drew⟩
        case measure => simp [intOf]; omega
    · have hkL : k = L.length := by omega
      have HE := Go.Proofs.YtpaakikgfojplaaGreat.hid (show m = countAt s.all pool id by rw [HF.out, HM.out, fold_tail_end _ _ _ _ hkL])
      have HB := Go.Proofs.YtpaakikgfojplaaGreat.hid (hb.trans (hbel.mono hb.size))
      clear HM hr2 hbel hkL
      go_wp2
      go_ret
      exact ⟨by rw [← HE.out]; rfl, HB.out⟩

set_option maxHeartbeats 1600000 in
set_option maxRecDepth 1000000 in
theorem running_any (x gs cs ga ca gk ck : Nat) (s : St) (id : Nat) (w : World) (hr : RefAt w x gs cs ga ca gk ck s) (hv : Inv s) (hl : id < s.all.length) :
    Calls Tryz.prog 56 #[.pointer (some ⟨x, 0, none⟩), .int .i64 (id : Int)] w fun e w' => e = .returned (.int .i64 (runAt s.par s.all id)) ∧ Below w.heap.size w w' := by
  have hi := hv.wk
  have hll := line_length hi.tree id
  have hh := hi.hs id hl
  have hle := line_le hi.tree id
  have hne := line_ne hi.tree id
  have e1 := hv.par.e1
  have e2 := hv.par.e2
  have n1 := hv.par.n1
  have n2 := hv.par.n2
  have c5 := cell_of_cells (j := 5) hr.blk rfl
  go_enter Tryz.func56, Tryz.ntmps56
  go_wp2_with fail
  refine (line_any x gs cs ga ca gk ck s id _ hr hi hl).mono ?_
  rintro e w1 ⟨g, cap, rfl, ho, hb⟩
  have hr1 := hr.keep hb
  have hsm := hi.small
  have HF := Go.Proofs.YtpaakikgfojplaaGreat.hid (show runAt s.par s.all id = (line s.all id).tail.foldl (fun n k => runS s.par.epoch n (hd s.all k)) s.par.nonce from rfl)
  have HL := Go.Proofs.YtpaakikgfojplaaGreat.hid hle
  have hLb : (line s.all id).length ≤ 20001 := by omega
  have HV := Go.Proofs.YtpaakikgfojplaaGreat.hid hv
  clear hr hle hll hh c5 hv
  generalize line s.all id = L at *
  go_wp2
  go_loopw [5, 7] (fun n i wr => ∃ (k : Nat) (m : Int), 1 ≤ k ∧ k ≤ L.length ∧ i = .int .i64 k ∧ n = .int .i64 m ∧ 0 ≤ m ∧ m < 65521 ∧ Hid (m = (L.tail.take (k - 1)).foldl (fun n k => runS s.par.epoch n (hd s.all k)) s.par.nonce) ∧ Below w1.heap.size w1 wr)
    (fun _ i _ => L.length - (intOf i).toNat)
  case atStart => exact ⟨1, s.par.nonce, Nat.le_refl _, hne, rfl, rfl, n1, n2, by unfold Hid; simp, Below.refl _ _⟩
  case round =>
    obtain ⟨k, m, hk1, hk, rfl, rfl, hm0, hm1, HM, hbel⟩ := hrel
    have hr2 := hr1.keep hbel
    have hsz := hbel.size
    have c1' := cell_of_cells (j := 1) hr2.blk rfl
    by_cases hlt : k < L.length
    · have c1 := ((row_keep ho hbel (Nat.le_refl _)).cellAt k (by omega)).trans (dcells_at L k hlt)
      have c7 := cell_of_cells (j := 7) hr2.blk rfl
      have hxl := lt_of_block hr2.blk
      have hLm : L.getD k 0 ∈ L := by
        rw [show L.getD k 0 = L[k] from by simp [List.getD, hlt]]
        exact List.getElem_mem hlt
      have hdl : L.getD k 0 < s.all.length := by have := HL.out _ hLm; omega
      have hc := hr2.hdr_at hdl
      have hst := fold_tail (fun n k => runS s.par.epoch n (hd s.all k)) s.par.nonce L k hk1 hlt
      rw [← HM.out] at hst
      have HST := Go.Proofs.YtpaakikgfojplaaGreat.hid hst
      clear hst HM
      generalize L.getD k 0 = d at *
      have i1 : (0 : Int) ≤ (k : Int) := by omega
      have i2 : (k : Int) < ((L.length : Nat) : Int) := by omega
      have i3 : (0 : Int) ≤ (d : Int) := by omega
      have i4 : (d : Int) < ((s.all.length : Nat) : Int) := by omega
      have h0 := hc.c0
      have h1 := hc.c1
      have h2 := hc.c2
      have h3 := hc.c3
      have h4 := hc.c4
      have h5 := hc.c5
      have h6 := hc.c6
      have hsl := slot_bounds HV.out hdl
      have hpf : 0 ≤ (hd s.all d).proof ∧ (hd s.all d).proof < 1024 := by
        rcases Nat.eq_zero_or_pos d with hd0 | hd0
        · rw [hd0]; unfold hd; rw [HV.out.zero]; decide
        · exact ⟨(HV.out.hdrs d hd0 hdl).proof0, (HV.out.hdrs d hd0 hdl).proof1⟩
      generalize hd s.all d = H at *
      clear hc hr2
      have hz : (s.par.epoch == 0) = false := by rw [beq_eq_false_iff_ne]; omega
      have hm2 := Int.emod_nonneg H.slot (show s.par.epoch ≠ 0 by omega)
      have hm3 := Int.emod_lt_of_pos H.slot (show 0 < s.par.epoch by omega)
      have hm4 : H.slot.tmod s.par.epoch = H.slot % s.par.epoch := Int.tmod_eq_emod_of_nonneg hsl.1
      have hm5 : 0 ≤ (m * 257 + H.proof + 1) % 65521 := Int.emod_nonneg _ (by omega)
      have hm6 : (m * 257 + H.proof + 1) % 65521 < 65521 := Int.emod_lt_of_pos _ (by omega)
      go_wp2
      go_region_held3 (fun w' => w'.cell? ⟨x, 7, none⟩ = some (.slice (some ⟨ga, 0, none⟩) s.all.length ca) ∧ w'.cell? ⟨g, k, none⟩ = some (.int .i64 (d : Int)) ∧ w'.cell? ⟨ga, d * 8, none⟩ = some (.int .i64 H.slot) ∧ w'.cell? ⟨ga, d * 8 + 1, none⟩ = some (.int .i64 H.pool) ∧ w'.cell? ⟨ga, d * 8 + 2, none⟩ = some (.int .i64 H.proof) ∧ w'.cell? ⟨ga, d * 8 + 3, none⟩ = some (.int .i64 H.count) ∧ w'.cell? ⟨ga, d * 8 + 4, none⟩ = some (.int .i64 H.frm) ∧ w'.cell? ⟨ga, d * 8 + 5, none⟩ = some (.int .i64 H.dst) ∧ w'.cell? ⟨ga, d * 8 + 6, none⟩ = some (.int .i64 H.amount)) (go_keep) (fail)
      by_cases hp : 3 * (H.slot % s.par.epoch) < 2 * s.par.epoch
      · go_wp2
        go_quiet (fail)
        go_wp2
        go_roundw
        case rel => exact ⟨k + 1, (m * 257 + H.proof + 1) % 65521, by omega, by omega, by go_num, rfl, hm5, hm6, by have := HST.out; unfold Hid; rw [this]; simp [runS, hp], drawB (hbel.alloc hsz _) _⟩
        case measure => simp [intOf]; omega
      · go_wp2
        go_quiet (fail)
        go_wp2
        go_roundw
        case rel => exact ⟨k + 1, m, by omega, by omega, by go_num, rfl, hm0, hm1, by have := HST.out; unfold Hid; rw [this]; unfold runS; rw [if_neg (by omega)], drawB (hbel.alloc hsz _) _⟩
        case measure => simp [intOf]; omega
    · have hkL : k = L.length := by omega
      have HE := Go.Proofs.YtpaakikgfojplaaGreat.hid (show m = runAt s.par s.all id by rw [HF.out, HM.out, fold_tail_end _ _ _ _ hkL])
      have HB := Go.Proofs.YtpaakikgfojplaaGreat.hid (hb.trans (hbel.mono hb.size))
      clear HM hr2 hbel hkL
      go_wp2
      go_ret
      exact ⟨by rw [← HE.out]; rfl, HB.out⟩

set_option maxHeartbeats 1600000 in
set_option maxRecDepth 1000000 in
theorem last_any (x gs cs ga ca gk ck : Nat) (s : St) (id : Nat) (ep : Int) (w : World) (hr : RefAt w x gs cs ga ca gk ck s) (hv : Inv s) (hl : id < s.all.length) :
    Calls Tryz.prog 57 #[.pointer (some ⟨x, 0, none⟩), .int .i64 (id : Int), .int .i64 ep] w fun e w' => e = .returned (.int .i64 ((lastAt s.par s.all ep id : Nat) : Int)) ∧ Below w.heap.size w w' := by
  have hi := hv.wk
  have hll := line_length hi.tree id
  have hh := hi.hs id hl
  have hle := line_le hi.tree id
  have hne := line_ne hi.tree id
  have e1 := hv.par.e1
  have e2 := hv.par.e2
  go_enter Tryz.func57, Tryz.ntmps57
  go_wp2_with fail
  refine (line_any x gs cs ga ca gk ck s id _ hr hi hl).mono ?_
  rintro e w1 ⟨g, cap, rfl, ho, hb⟩
  have hr1 := hr.keep hb
  have hsm := hi.small
  have HF := Go.Proofs.YtpaakikgfojplaaGreat.hid (show lastAt s.par s.all ep id = (line s.all id).tail.foldl (fun o k => if (hd s.all k).slot / s.par.epoch < ep then k else o) 0 from rfl)
  have HL := Go.Proofs.YtpaakikgfojplaaGreat.hid hle
  have hLb : (line s.all id).length ≤ 20001 := by omega
  have HV := Go.Proofs.YtpaakikgfojplaaGreat.hid hv
  clear hr hle hll hh hv
  generalize line s.all id = L at *
  go_wp2
  go_loopw [8, 9] (fun n i wr => ∃ (k m : Nat), 1 ≤ k ∧ k ≤ L.length ∧ i = .int .i64 k ∧ n = .int .i64 (m : Int) ∧ Hid (m = (L.tail.take (k - 1)).foldl (fun o k => if (hd s.all k).slot / s.par.epoch < ep then k else o) 0) ∧ Below w1.heap.size w1 wr)
    (fun _ i _ => L.length - (intOf i).toNat)
  case atStart => exact ⟨1, 0, Nat.le_refl _, hne, rfl, rfl, by unfold Hid; simp, Below.refl _ _⟩
  case round =>
    obtain ⟨k, m, hk1, hk, rfl, rfl, HM, hbel⟩ := hrel
    have hr2 := hr1.keep hbel
    have hsz := hbel.size
    have c1' := cell_of_cells (j := 1) hr2.blk rfl
    by_cases hlt : k < L.length
    · have c1 := ((row_keep ho hbel (Nat.le_refl _)).cellAt k (by omega)).trans (dcells_at L k hlt)
      have c7 := cell_of_cells (j := 7) hr2.blk rfl
      have hxl := lt_of_block hr2.blk
      have hLm : L.getD k 0 ∈ L := by
        rw [show L.getD k 0 = L[k] from by simp [List.getD, hlt]]
        exact List.getElem_mem hlt
      have hdl : L.getD k 0 < s.all.length := by have := HL.out _ hLm; omega
      have hc := hr2.hdr_at hdl
      have hst := fold_tail (fun (o : Nat) k => if (hd s.all k).slot / s.par.epoch < ep then k else o) 0 L k hk1 hlt
      rw [← HM.out] at hst
      have HST := Go.Proofs.YtpaakikgfojplaaGreat.hid hst
      clear hst HM
      generalize L.getD k 0 = d at *
      have i1 : (0 : Int) ≤ (k : Int) := by omega
      have i2 : (k : Int) < ((L.length : Nat) : Int) := by omega
      have i3 : (0 : Int) ≤ (d : Int) := by omega
      have i4 : (d : Int) < ((s.all.length : Nat) : Int) := by omega
      have h0 := hc.c0
      have h1 := hc.c1
      have h2 := hc.c2
      have h3 := hc.c3
      have h4 := hc.c4
      have h5 := hc.c5
      have h6 := hc.c6
      have hsl := slot_bounds HV.out hdl
      generalize hd s.all d = H at *
      clear hc hr2
      have hz : (s.par.epoch == 0) = false := by rw [beq_eq_false_iff_ne]; omega
      have hm4 : H.slot.tdiv s.par.epoch = H.slot / s.par.epoch := Int.tdiv_eq_ediv_of_nonneg hsl.1
      have hm5 : 0 ≤ H.slot / s.par.epoch := Int.ediv_nonneg hsl.1 (by omega)
      have hm6 : H.slot / s.par.epoch ≤ 10000 := Int.le_trans (Int.ediv_le_self _ hsl.1) hsl.2
      by_cases hp : H.slot / s.par.epoch < ep
      · go_wp2
        go_quiet (fail)
        go_wp2
        go_roundw
        case rel => exact ⟨k + 1, d, by omega, by omega, by go_num, rfl, by have := HST.out; unfold Hid; rw [this]; simp [hp], drawB hbel _⟩
        case measure => simp [intOf]; omega
      · go_wp2
        go_quiet (fail)
        go_wp2
        go_roundw
        case rel => exact ⟨k + 1, m, by omega, by omega, by go_num, rfl, by have := HST.out; unfold Hid; rw [this, if_neg (by omega)], drawB hbel _⟩
        case measure => simp [intOf]; omega
    · have hkL : k = L.length := by omega
      have HE := Go.Proofs.YtpaakikgfojplaaGreat.hid (show m = lastAt s.par s.all ep id by rw [HF.out, HM.out, fold_tail_end _ _ _ _ hkL])
      have HB := Go.Proofs.YtpaakikgfojplaaGreat.hid (hb.trans (hbel.mono hb.size))
      clear HM hr2 hbel hkL
      go_wp2
      go_ret
      exact ⟨by rw [← HE.out]; rfl, HB.out⟩

end Go.Proofs.YtpaakikgfojplaaGreat

