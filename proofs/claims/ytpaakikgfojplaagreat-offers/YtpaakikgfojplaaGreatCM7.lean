import Derived.Test.YtpaakikgfojplaaGreatCM6
import Derived.Laws.CopyOwn
import Derived.Test.YtpaakikgfojplaaGreatCM5
/-
  THE WALKS of beaconref: what goes with a header: counts, running, last, stakes.
-/
namespace Go.Proofs.YtpaakikgfojplaaGreat
open Go.RowKit Num Bk
set_option linter.unusedVariables false

theorem fold_tail {α : Type} (f : α → Nat → α) (a : α) (L : List Nat) (k : Nat) (h1 : 1 ≤ k) (h : k < L.length) : (L.tail.take (k + 1 - 1)).foldl f a = f ((L.tail.take (k - 1)).foldl f a) (L.getD k 0) := by
  obtain ⟨j, rfl⟩ : ∃ j, k = j + 1 := ⟨k - 1, by omega⟩
  cases L with
  | nil => simp at h
  | cons y L =>
    have h' : j < L.length := by simpa using h
    show (L.take (j + 1)).foldl f a = f ((L.take j).foldl f a) ((y :: L).getD (j + 1) 0)
    rw [take_succ_getD L j h', List.foldl_append]
    rfl

theorem fold_tail_end {α : Type} (f : α → Nat → α) (a : α) (L : List Nat) (k : Nat) (h : k = L.length) : (L.tail.take (k - 1)).foldl f a = L.tail.foldl f a := by
  rw [List.take_of_length_le (by simp; omega)]

set_option maxHeartbeats 1600000 in
set_option maxRecDepth 1000000 in
theorem counts_any (x gs cs ga ca gk ck : Nat) (s : St) (id : Nat) (pool : Int) (w : World) (hr : RefAt w x gs cs ga ca gk ck s) (hi : Wk s) (hl : id < s.all.length) :
    Calls Tryz.prog 63 #[.pointer (some ⟨x, 0, none⟩), .int .i64 (id : Int), .int .i64 pool] w fun e w' => e = .returned (.int .i64 (countAt s.all pool id)) ∧ Below w.heap.size w w' := by
  have hll := line_length hi.tree id
  have hh := hi.hs id hl
  have hle := line_le hi.tree id
  have hne := line_ne hi.tree id
  go_enter Tryz.func63, Tryz.ntmps63
  go_wp2_with fail
  refine (line_any x gs cs ga ca gk ck s id _ hr hi hl).mono ?_
  rintro e w1 ⟨g, cap, rfl, ho, hb⟩
  have hr1 := hr.keep hb
  have hsm := hi.small
  have HF := Go.Proofs.YtpaakikgfojplaaGreat.hid (show countAt s.all pool id = (line s.all id).tail.foldl (fun n k => countS pool n (hd s.all k)) 0 from rfl)
  have HL := Go.Proofs.YtpaakikgfojplaaGreat.hid hle
  have hLb : (line s.all id).length ≤ 20001 := by omega
  clear hr hle hll hh
  generalize line s.all id = L at *
  go_wp2
  go_loopw [7, 9] (fun n i wr => ∃ (k : Nat) (m : Int), 1 ≤ k ∧ k ≤ L.length ∧ i = .int .i64 k ∧ n = .int .i64 m ∧ Hid (m = (L.tail.take (k - 1)).foldl (fun n k => countS pool n (hd s.all k)) 0) ∧ Below w1.heap.size w1 wr)
    (fun _ i _ => L.length - (intOf i).toNat)
  case atStart => exact ⟨1, 0, Nat.le_refl _, hne, rfl, rfl, by unfold Hid; simp, Below.refl _ _⟩
  case round =>
    obtain ⟨k, m, hk1, hk, rfl, rfl, HM, hbel⟩ := hrel
    have hr2 := hr1.keep hbel
    have hsz := hbel.size
    by_cases hlt : k < L.length
    · have c1 := ((row_keep ho hbel (Nat.le_refl _)).cellAt k (by omega)).trans (dcells_at L k hlt)
      have c7 := cell_of_cells (j := 7) hr2.blk rfl
      have hxl := lt_of_block hr2.blk
      have hLm : L.getD k 0 ∈ L := by
        rw [show L.getD k 0 = L[k] from by simp [List.getD, hlt]]
        exact List.getElem_mem hlt
      have hdl : L.getD k 0 < s.all.length := by have := HL.out _ hLm; omega
      have hc := hr2.hdr_at hdl
      have hst := fold_tail (fun n k => countS pool n (hd s.all k)) 0 L k hk1 hlt
      rw [← HM.out] at hst
      have HST := Go.Proofs.YtpaakikgfojplaaGreat.hid hst
      clear hst HM
      generalize L.getD k 0 = d at *
      have i1 : (0 : Int) ≤ (k : Int) := by omega
      have i2 : (k : Int) < ((L.length : Nat) : Int) := by omega
      have i3 : (0 : Int) ≤ (d : Int) := by omega
      have i4 : (d : Int) < ((s.all.length : Nat) : Int) := by omega
      have h0 := hc.c0
      have h1 := hc.c1
      have h2 := hc.c2
      have h3 := hc.c3
      have h4 := hc.c4
      have h5 := hc.c5
      have h6 := hc.c6
      generalize hd s.all d = H at *
      clear hc hr2
      go_wp2
      go_region_held3 (fun w' => w'.cell? ⟨x, 7, none⟩ = some (.slice (some ⟨ga, 0, none⟩) s.all.length ca) ∧ w'.cell? ⟨g, k, none⟩ = some (.int .i64 (d : Int)) ∧ w'.cell? ⟨ga, d * 8, none⟩ = some (.int .i64 H.slot) ∧ w'.cell? ⟨ga, d * 8 + 1, none⟩ = some (.int .i64 H.pool) ∧ w'.cell? ⟨ga, d * 8 + 2, none⟩ = some (.int .i64 H.proof) ∧ w'.cell? ⟨ga, d * 8 + 3, none⟩ = some (.int .i64 H.count) ∧ w'.cell? ⟨ga, d * 8 + 4, none⟩ = some (.int .i64 H.frm) ∧ w'.cell? ⟨ga, d * 8 + 5, none⟩ = some (.int .i64 H.dst) ∧ w'.cell? ⟨ga, d * 8 + 6, none⟩ = some (.int .i64 H.amount)) (go_keep) (fail)
      by_cases hp : H.pool = pool
      · have hpb : (H.pool == pool) = true := by simp [hp]
        go_wp2
        go_roundw
        case rel => exact ⟨k + 1, H.count, by omega, by omega, by go_num, rfl, by have := HST.out; unfold Hid; rw [this]; simp [countS, hp], (hbel.alloc hsz _).drew⟩
        case measure => simp [intOf]; omega
      · have hpb : (H.pool == pool) = false := by simp [hp]
        go_wp2
        go_roundw
        case rel => exact ⟨k + 1, m, by omega, by omega, by go_num, rfl, by have := HST.out; unfold Hid; rw [this]; simp [countS, hp], (hbel.alloc hsz _).drew⟩
        case measure => simp [intOf]; omega
    · have hkL : k = L.length := by omega
      have HE := Go.Proofs.YtpaakikgfojplaaGreat.hid (show m = countAt s.all pool id by rw [HF.out, HM.out, fold_tail_end _ _ _ _ hkL])
      have HB := Go.Proofs.YtpaakikgfojplaaGreat.hid (hb.trans (hbel.mono hb.size))
      clear HM hr2 hbel hkL
      go_wp2
      go_ret
      exact ⟨by rw [← HE.out]; rfl, HB.out⟩

set_option maxHeartbeats 1600000 in
set_option maxRecDepth 1000000 in
theorem running_any (x gs cs ga ca gk ck : Nat) (s : St) (id : Nat) (w : World) (hr : RefAt w x gs cs ga ca gk ck s) (hv : Inv s) (hl : id < s.all.length) :
    Calls Tryz.prog 56 #[.pointer (some ⟨x, 0, none⟩), .int .i64 (id : Int)] w fun e w' => e = .returned (.int .i64 (runAt s.par s.all id)) ∧ Below w.heap.size w w' := by
  have hi := hv.wk
  have hll := line_length hi.tree id
  have hh := hi.hs id hl
  have hle := line_le hi.tree id
  have hne := line_ne hi.tree id
  have e1 := hv.par.e1
  have e2 := hv.par.e2
  have n1 := hv.par.n1
  have n2 := hv.par.n2
  have c5 := cell_of_cells (j := 5) hr.blk rfl
  go_enter Tryz.func56, Tryz.ntmps56
  go_wp2_with fail
  refine (line_any x gs cs ga ca gk ck s id _ hr hi hl).mono ?_
  rintro e w1 ⟨g, cap, rfl, ho, hb⟩
  have hr1 := hr.keep hb
  have hsm := hi.small
  have HF := Go.Proofs.YtpaakikgfojplaaGreat.hid (show runAt s.par s.all id = (line s.all id).tail.foldl (fun n k => runS s.par.epoch n (hd s.all k)) s.par.nonce from rfl)
  have HL := Go.Proofs.YtpaakikgfojplaaGreat.hid hle
  have hLb : (line s.all id).length ≤ 20001 := by omega
  have HV := Go.Proofs.YtpaakikgfojplaaGreat.hid hv
  clear hr hle hll hh c5 hv
  generalize line s.all id = L at *
  go_wp2
  go_loopw [5, 7] (fun n i wr => ∃ (k : Nat) (m : Int), 1 ≤ k ∧ k ≤ L.length ∧ i = .int .i64 k ∧ n = .int .i64 m ∧ 0 ≤ m ∧ m < 65521 ∧ Hid (m = (L.tail.take (k - 1)).foldl (fun n k => runS s.par.epoch n (hd s.all k)) s.par.nonce) ∧ Below w1.heap.size w1 wr)
    (fun _ i _ => L.length - (intOf i).toNat)
  case atStart => exact ⟨1, s.par.nonce, Nat.le_refl _, hne, rfl, rfl, n1, n2, by unfold Hid; simp, Below.refl _ _⟩
  case round =>
    obtain ⟨k, m, hk1, hk, rfl, rfl, hm0, hm1, HM, hbel⟩ := hrel
    have hr2 := hr1.keep hbel
    have hsz := hbel.size
    have c1' := cell_of_cells (j := 1) hr2.blk rfl
    by_cases hlt : k < L.length
    · have c1 := ((row_keep ho hbel (Nat.le_refl _)).cellAt k (by omega)).trans (dcells_at L k hlt)
      have c7 := cell_of_cells (j := 7) hr2.blk rfl
      have hxl := lt_of_block hr2.blk
      have hLm : L.getD k 0 ∈ L := by
        rw [show L.getD k 0 = L[k] from by simp [List.getD, hlt]]
        exact List.getElem_mem hlt
      have hdl : L.getD k 0 < s.all.length := by have := HL.out _ hLm; omega
      have hc := hr2.hdr_at hdl
      have hst := fold_tail (fun n k => runS s.par.epoch n (hd s.all k)) s.par.nonce L k hk1 hlt
      rw [← HM.out] at hst
      have HST := Go.Proofs.YtpaakikgfojplaaGreat.hid hst
      clear hst HM
      generalize L.getD k 0 = d at *
      have i1 : (0 : Int) ≤ (k : Int) := by omega
      have i2 : (k : Int) < ((L.length : Nat) : Int) := by omega
      have i3 : (0 : Int) ≤ (d : Int) := by omega
      have i4 : (d : Int) < ((s.all.length : Nat) : Int) := by omega
      have h0 := hc.c0
      have h1 := hc.c1
      have h2 := hc.c2
      have h3 := hc.c3
      have h4 := hc.c4
      have h5 := hc.c5
      have h6 := hc.c6
      have hsl := slot_bounds HV.out hdl
      have hpf : 0 ≤ (hd s.all d).proof ∧ (hd s.all d).proof < 1024 := by
        rcases Nat.eq_zero_or_pos d with hd0 | hd0
        · rw [hd0]; unfold hd; rw [HV.out.zero]; decide
        · exact ⟨(HV.out.hdrs d hd0 hdl).proof0, (HV.out.hdrs d hd0 hdl).proof1⟩
      generalize hd s.all d = H at *
      clear hc hr2
      have hz : (s.par.epoch == 0) = false := by rw [beq_eq_false_iff_ne]; omega
      have hm2 := Int.emod_nonneg H.slot (show s.par.epoch ≠ 0 by omega)
      have hm3 := Int.emod_lt_of_pos H.slot (show 0 < s.par.epoch by omega)
      have hm4 : H.slot.tmod s.par.epoch = H.slot % s.par.epoch := Int.tmod_eq_emod_of_nonneg hsl.1
      have hm5 : 0 ≤ (m * 257 + H.proof + 1) % 65521 := Int.emod_nonneg _ (by omega)
      have hm6 : (m * 257 + H.proof + 1) % 65521 < 65521 := Int.emod_lt_of_pos _ (by omega)
      go_wp2
      go_region_held3 (fun w' => w'.cell? ⟨x, 7, none⟩ = some (.slice (some ⟨ga, 0, none⟩) s.all.length ca) ∧ w'.cell? ⟨g, k, none⟩ = some (.int .i64 (d : Int)) ∧ w'.cell? ⟨ga, d * 8, none⟩ = some (.int .i64 H.slot) ∧ w'.cell? ⟨ga, d * 8 + 1, none⟩ = some (.int .i64 H.pool) ∧ w'.cell? ⟨ga, d * 8 + 2, none⟩ = some (.int .i64 H.proof) ∧ w'.cell? ⟨ga, d * 8 + 3, none⟩ = some (.int .i64 H.count) ∧ w'.cell? ⟨ga, d * 8 + 4, none⟩ = some (.int .i64 H.frm) ∧ w'.cell? ⟨ga, d * 8 + 5, none⟩ = some (.int .i64 H.dst) ∧ w'.cell? ⟨ga, d * 8 + 6, none⟩ = some (.int .i64 H.amount)) (go_keep) (fail)
      by_cases hp : 3 * (H.slot % s.par.epoch) < 2 * s.par.epoch
      · go_wp2
        go_quiet (fail)
        go_wp2
        go_roundw
        case rel => exact ⟨k + 1, (m * 257 + H.proof + 1) % 65521, by omega, by omega, by go_num, rfl, hm5, hm6, by have := HST.out; unfold Hid; rw [this]; simp [runS, hp], drawB (hbel.alloc hsz _) _⟩
        case measure => simp [intOf]; omega
      · go_wp2
        go_quiet (fail)
        go_wp2
        go_roundw
        case rel => exact ⟨k + 1, m, by omega, by omega, by go_num, rfl, hm0, hm1, by have := HST.out; unfold Hid; rw [this]; unfold runS; rw [if_neg (by omega)], drawB (hbel.alloc hsz _) _⟩
        case measure => simp [intOf]; omega
    · have hkL : k = L.length := by omega
      have HE := Go.Proofs.YtpaakikgfojplaaGreat.hid (show m = runAt s.par s.all id by rw [HF.out, HM.out, fold_tail_end _ _ _ _ hkL])
      have HB := Go.Proofs.YtpaakikgfojplaaGreat.hid (hb.trans (hbel.mono hb.size))
      clear HM hr2 hbel hkL
      go_wp2
      go_ret
      exact ⟨by rw [← HE.out]; rfl, HB.out⟩

set_option maxHeartbeats 1600000 in
set_option maxRecDepth 1000000 in
theorem last_any (x gs cs ga ca gk ck : Nat) (s : St) (id : Nat) (ep : Int) (w : World) (hr : RefAt w x gs cs ga ca gk ck s) (hv : Inv s) (hl : id < s.all.length) :
    Calls Tryz.prog 57 #[.pointer (some ⟨x, 0, none⟩), .int .i64 (id : Int), .int .i64 ep] w fun e w' => e = .returned (.int .i64 ((lastAt s.par s.all ep id : Nat) : Int)) ∧ Below w.heap.size w w' := by
  have hi := hv.wk
  have hll := line_length hi.tree id
  have hh := hi.hs id hl
  have hle := line_le hi.tree id
  have hne := line_ne hi.tree id
  have e1 := hv.par.e1
  have e2 := hv.par.e2
  go_enter Tryz.func57, Tryz.ntmps57
  go_wp2_with fail
  refine (line_any x gs cs ga ca gk ck s id _ hr hi hl).mono ?_
  rintro e w1 ⟨g, cap, rfl, ho, hb⟩
  have hr1 := hr.keep hb
  have hsm := hi.small
  have HF := Go.Proofs.YtpaakikgfojplaaGreat.hid (show lastAt s.par s.all ep id = (line s.all id).tail.foldl (fun o k => if (hd s.all k).slot / s.par.epoch < ep then k else o) 0 from rfl)
  have HL := Go.Proofs.YtpaakikgfojplaaGreat.hid hle
  have hLb : (line s.all id).length ≤ 20001 := by omega
  have HV := Go.Proofs.YtpaakikgfojplaaGreat.hid hv
  clear hr hle hll hh hv
  generalize line s.all id = L at *
  go_wp2
  go_loopw [8, 9] (fun n i wr => ∃ (k m : Nat), 1 ≤ k ∧ k ≤ L.length ∧ i = .int .i64 k ∧ n = .int .i64 (m : Int) ∧ Hid (m = (L.tail.take (k - 1)).foldl (fun o k => if (hd s.all k).slot / s.par.epoch < ep then k else o) 0) ∧ Below w1.heap.size w1 wr)
    (fun _ i _ => L.length - (intOf i).toNat)
  case atStart => exact ⟨1, 0, Nat.le_refl _, hne, rfl, rfl, by unfold Hid; simp, Below.refl _ _⟩
  case round =>
    obtain ⟨k, m, hk1, hk, rfl, rfl, HM, hbel⟩ := hrel
    have hr2 := hr1.keep hbel
    have hsz := hbel.size
    have c1' := cell_of_cells (j := 1) hr2.blk rfl
    by_cases hlt : k < L.length
    · have c1 := ((row_keep ho hbel (Nat.le_refl _)).cellAt k (by omega)).trans (dcells_at L k hlt)
      have c7 := cell_of_cells (j := 7) hr2.blk rfl
      have hxl := lt_of_block hr2.blk
      have hLm : L.getD k 0 ∈ L := by
        rw [show L.getD k 0 = L[k] from by simp [List.getD, hlt]]
        exact List.getElem_mem hlt
      have hdl : L.getD k 0 < s.all.length := by have := HL.out _ hLm; omega
      have hc := hr2.hdr_at hdl
      have hst := fold_tail (fun (o : Nat) k => if (hd s.all k).slot / s.par.epoch < ep then k else o) 0 L k hk1 hlt
      rw [← HM.out] at hst
      have HST := Go.Proofs.YtpaakikgfojplaaGreat.hid hst
      clear hst HM
      generalize L.getD k 0 = d at *
      have i1 : (0 : Int) ≤ (k : Int) := by omega
      have i2 : (k : Int) < ((L.length : Nat) : Int) := by omega
      have i3 : (0 : Int) ≤ (d : Int) := by omega
      have i4 : (d : Int) < ((s.all.length : Nat) : Int) := by omega
      have h0 := hc.c0
      have h1 := hc.c1
      have h2 := hc.c2
      have h3 := hc.c3
      have h4 := hc.c4
      have h5 := hc.c5
      have h6 := hc.c6
      have hsl := slot_bounds HV.out hdl
      generalize hd s.all d = H at *
      clear hc hr2
      have hz : (s.par.epoch == 0) = false := by rw [beq_eq_false_iff_ne]; omega
      have hm4 : H.slot.tdiv s.par.epoch = H.slot / s.par.epoch := Int.tdiv_eq_ediv_of_nonneg hsl.1
      have hm5 : 0 ≤ H.slot / s.par.epoch := Int.ediv_nonneg hsl.1 (by omega)
      have hm6 : H.slot / s.par.epoch ≤ 10000 := Int.le_trans (Int.ediv_le_self _ hsl.1) hsl.2
      by_cases hp : H.slot / s.par.epoch < ep
      · go_wp2
        go_quiet (fail)
        go_wp2
        go_roundw
        case rel => exact ⟨k + 1, d, by omega, by omega, by go_num, rfl, by have := HST.out; unfold Hid; rw [this]; simp [hp], drawB hbel _⟩
        case measure => simp [intOf]; omega
      · go_wp2
        go_quiet (fail)
        go_wp2
        go_roundw
        case rel => exact ⟨k + 1, m, by omega, by omega, by go_num, rfl, by have := HST.out; unfold Hid; rw [this, if_neg (by omega)], drawB hbel _⟩
        case measure => simp [intOf]; omega
    · have hkL : k = L.length := by omega
      have HE := Go.Proofs.YtpaakikgfojplaaGreat.hid (show m = lastAt s.par s.all ep id by rw [HF.out, HM.out, fold_tail_end _ _ _ _ hkL])
      have HB := Go.Proofs.YtpaakikgfojplaaGreat.hid (hb.trans (hbel.mono hb.size))
      clear HM hr2 hbel hkL
      go_wp2
      go_ret
      exact ⟨by rw [← HE.out]; rfl, HB.out⟩

end Go.Proofs.YtpaakikgfojplaaGreat

/-
  THE WALKS of beaconref: copied; stakes.
-/
namespace Go.Proofs.YtpaakikgfojplaaGreat
open Go.RowKit Num Bk
set_option linter.unusedVariables false

theorem icells_one (l : List Int) : ∀ u ∈ icells l, u.oneCell' = true := by
  intro u hu
  obtain ⟨_, _, rfl⟩ := List.mem_map.1 hu
  rfl

theorem Tryz.size3 : (Tryz.prog.info? 3).map (·.size) = some 1 := by kernel_rfl

/-- A row that is known whole, owned whole. -/
theorem own_whole {w : World} {base g : Nat} {e : TypeId} {xs : List Value} {arr : Array Value} (h : w.heap[g]? = some (.cells arr e (0, 0))) (hb : base ≤ g) (ha : arr.toList = xs) (hm : xs.length ≤ maxLen) :
    w.ownsRow base e 1 (.slice (some ⟨g, 0, none⟩) xs.length xs.length) xs.length xs := by
  refine ⟨by omega, Or.inr ⟨g, xs.length, arr, rfl, hb, h, Nat.le_refl _, hm, ?_, ?_⟩⟩
  · rw [← ha]; simp
  · rw [ha]; simp

set_option maxHeartbeats 800000 in
set_option maxRecDepth 1000000 in
theorem copied_any (so : Option Addr) (n c : Nat) (xs : List Int) (w : World) (hn : xs.length = n) (hnone : so = none → n = 0) (hsrc : ∀ ad, so = some ad → ∀ j v, (icells xs)[j]? = some v → w.cell? (ad.add j) = some v) (hsm : n ≤ 1000000000) :
    Calls Tryz.prog 19 #[.slice so n c] w fun e w' => ∃ g, e = .returned (.slice (some ⟨g, 0, none⟩) n n) ∧ w'.ownsRow w.heap.size 3 1 (.slice (some ⟨g, 0, none⟩) n n) n (icells xs) ∧ Below w.heap.size w w' := by
  obtain ⟨i0, hi0, hz0, hz1, hz2⟩ := info_parts Tryz.info3
  have HS := Go.Proofs.YtpaakikgfojplaaGreat.hid hsrc
  have HN := Go.Proofs.YtpaakikgfojplaaGreat.hid hnone
  have HX := Go.Proofs.YtpaakikgfojplaaGreat.hid hn
  clear hsrc hnone hn
  go_enter Tryz.func19, Tryz.ntmps19
  go_wp2_with (at_make; refine wpList_make_full _ rfl (.tmp 5) (.tmp 5) 22 rfl w.heap.size 3 i0 (.int .i64 0) 1 Tryz.underlying22 hi0 hz0 hz1 _ _ _ _ n rfl rfl rfl rfl (by rw [hz2]; omega) (by unfold maxLen; omega) (Nat.le_refl _) ?_)
  intro w1 hown1 hgrow
  have hb1 : Below w.heap.size w w1 := (Below.refl _ _).grown hgrow (Nat.le_refl _) (fun k h => by cases h)
  obtain ⟨cur, hcur, hcs⟩ : ∃ cur : List Value, w1.heap[w.heap.size]? = some (.cells cur.toArray 3 (0, 0)) ∧ cur.length = n := by
    rcases hown1.2 with ⟨h', _⟩ | ⟨g', cap', arr, h', _, hg, _, _, hs, _⟩
    · simp at h'
    · simp only [Value.slice.injEq, Option.some.injEq, Addr.mk.injEq, and_true, true_and] at h'
      obtain ⟨rfl, rfl⟩ := h'
      exact ⟨arr.toList, by simpa using hg, by simpa using hs⟩
  have HS1 := Go.Proofs.YtpaakikgfojplaaGreat.hid (fun ad (h : so = some ad) j v (hv : (icells xs)[j]? = some v) => (hb1.cell (p := ad.add j) (by
    have h2 := HS.out ad h j v hv
    exact World.block_lt_of_cell? w _ h2)).trans (HS.out ad h j v hv))
  clear HS hown1 hgrow
  have HLN := Go.Proofs.YtpaakikgfojplaaGreat.hid (show (icells xs).length = n by rw [icells_length]; exact HX.out)
  have HMN := Go.Proofs.YtpaakikgfojplaaGreat.hid (show (icells xs).length = Nat.min n n by rw [HLN.out]; simp)
  have HFT := Go.Proofs.YtpaakikgfojplaaGreat.hid (show 0 + (icells xs).length ≤ cur.length by rw [HLN.out]; omega)
  have HCS := Go.Proofs.YtpaakikgfojplaaGreat.hid hcs
  clear hcs
  obtain ⟨w2, hrun, HG2, hB2⟩ : ∃ w2, (Builtin.copy_ #[22, 22] 3 #[.slice (some ⟨w.heap.size, 0, none⟩) n n, .slice so n c]).run Tryz.prog w1 = .ok (.int .i64 (n : Int)) w2 ∧
      Hid (w2.heap[w.heap.size]? = some (.cells (splice cur 0 (icells xs)).toArray 3 (0, 0))) ∧ Below w.heap.size w w2 := by
    cases e : so with
    | none =>
      have h0 := HN.out e
      have h1 := HLN.out
      have h2 : icells xs = [] := List.eq_nil_of_length_eq_zero (by omega)
      refine ⟨w1, ?_, ?_, hb1⟩
      · have := run_copy_none (P := Tryz.prog) w1 22 22 3 3 (some ⟨w.heap.size, 0, none⟩) none n n n c Tryz.underlying22 Tryz.size3 (by rw [h0]; rfl)
        rw [this, h0]; rfl
      · show _ = _
        rw [h2]; simpa [splice] using hcur
    | some ad =>
      have := run_copy_row (P := Tryz.prog) w1 22 22 3 3 w.heap.size 0 n n ad n c cur.toArray 3 (icells xs) Tryz.underlying22 Tryz.size3 hcur HMN.out (HS1.out ad e) (by simpa using HFT.out) (icells_one _)
      have e2 : goInt (icells xs).length = .int .i64 (n : Int) := by rw [HLN.out]; rfl
      rw [e2] at this
      refine ⟨_, this, ?_, below_setRow hb1 (Nat.le_refl _) _⟩
      show _ = _
      rw [setRow_heap w1 w.heap.size _ _ 3 _ hcur]
      simp [splice]
  go_wp2
  have hfin : w2.ownsRow w.heap.size 3 1 (.slice (some ⟨w.heap.size, 0, none⟩) n n) n (icells xs) := by
    have := own_whole (base := w.heap.size) (xs := icells xs) HG2.out (Nat.le_refl _) (by have h1 := HLN.out; have h2 := HCS.out; simp [splice]; omega) (by have h1 := HLN.out; unfold maxLen; omega)
    rwa [HLN.out] at this
  go_ret
  exact ⟨_, rfl, hfin, hB2⟩


theorem RefAt.src {w : World} {x gs cs ga ca gk ck : Nat} {s : St} (h : RefAt w x gs cs ga ca gk ck s) : ∀ ad, some (⟨gs, 0, none⟩ : Addr) = some ad → ∀ j v, (icells s.par.stakes)[j]? = some v → w.cell? (ad.add j) = some v := by
  intro ad e j v hv
  simp at e
  subst e
  exact h.stk.cells rfl j v hv

set_option maxHeartbeats 3200000 in
set_option maxRecDepth 1000000 in
theorem stakes_any (x gs cs ga ca gk ck : Nat) (s : St) (id : Nat) (w : World) (hr : RefAt w x gs cs ga ca gk ck s) (hv : Inv s) (hl : id < s.all.length) :
    Calls Tryz.prog 58 #[.pointer (some ⟨x, 0, none⟩), .int .i64 (id : Int)] w fun e w' => ∃ g, e = .returned (.slice (some ⟨g, 0, none⟩) s.par.stakes.length s.par.stakes.length) ∧ w'.ownsRow w.heap.size 3 1 (.slice (some ⟨g, 0, none⟩) s.par.stakes.length s.par.stakes.length) s.par.stakes.length (icells (stakesAt s.par s.all id)) ∧ Below w.heap.size w w' := by
  have hi := hv.wk
  have hll := line_length hi.tree id
  have hh := hi.hs id hl
  have hle := line_le hi.tree id
  have hne := line_ne hi.tree id
  have l1 := hv.par.l1
  have l2 := hv.par.l2
  have c6 := cell_of_cells (j := 6) hr.blk rfl
  have hlts := hr.lts
  go_enter Tryz.func58, Tryz.ntmps58
  go_wp2_with fail
  refine (copied_any (some ⟨gs, 0, none⟩) s.par.stakes.length cs s.par.stakes _ rfl (by intro e; cases e) hr.src (by omega)).mono ?_
  rintro e w0 ⟨go, rfl, hout0, hb0⟩
  have hr0 := hr.keep hb0
  have hgo := (hout0.lt go rfl)
  clear hr c6
  go_wp2_with fail
  refine (line_any x gs cs ga ca gk ck s id _ hr0 hi hl).mono ?_
  rintro e w1 ⟨g, cap, rfl, ho, hb⟩
  have hr1 := hr0.keep hb
  have hgl := ho.lt g rfl
  have hout1 := row_keep hout0 hb (Nat.le_refl _)
  have hsm := hi.small
  have HV := Go.Proofs.YtpaakikgfojplaaGreat.hid hv
  have HI := Go.Proofs.YtpaakikgfojplaaGreat.hid hi
  have HLL := Go.Proofs.YtpaakikgfojplaaGreat.hid hll
  have hs0 := hb0.size
  have hs1 := hb.size
  have HB01 := Go.Proofs.YtpaakikgfojplaaGreat.hid (hb0.trans (hb.mono hs0))
  have HF0 : Hid (∀ n, n ≤ height s.all id → ((line s.all id).tail.take n).foldl (fun t k => moveS t (hd s.all k)) s.par.stakes = stakesAt s.par s.all ((line s.all id).getD n 0)) := fun n hn => fold_take_line hi.tree _ _ id n hn
  have HLM : Hid (∀ n, n ≤ height s.all id → (line s.all id).getD n 0 < s.all.length) := fun n hn => by
    have := hle _ (line_take hi.tree id n hn).2.1; omega
  have HLP : Hid (∀ n, n < height s.all id → pa s.all ((line s.all id).getD (n + 1) 0) = (line s.all id).getD n 0 ∧ 0 < (line s.all id).getD (n + 1) 0) := fun n hn => line_pa hi.tree id n hn
  have HEND : Hid ((line s.all id).getD (height s.all id) 0 = id) := by
    show _ = _
    obtain ⟨_, h2, h3⟩ := line_take hi.tree id _ (Nat.le_refl _)
    exact line_unique hi.tree h2 (line_self hi.tree id) h3
  clear hv hll hr0 hle hb hb0 hout0 hi
  generalize line s.all id = L at *
  generalize height s.all id = ht at *
  have hLb : L.length ≤ 20001 := by have := HLL.out; omega
  go_wp2
  go_loopw [7] (fun i wr => ∃ (k : Nat) (cur : List Int), 1 ≤ k ∧ k ≤ L.length ∧ i = .int .i64 k ∧ cur.length = s.par.stakes.length ∧ Hid (cur = stakesAt s.par s.all (L.getD (k - 1) 0)) ∧ wr.ownsRow w.heap.size 3 1 (.slice (some ⟨go, 0, none⟩) s.par.stakes.length s.par.stakes.length) s.par.stakes.length (icells cur) ∧ Fr (fun b => b = go) w1 wr)
    (fun i _ => L.length - (intOf i).toNat)
  case atStart =>
    refine ⟨1, s.par.stakes, Nat.le_refl _, hne, rfl, rfl, ?_, hout1, Fr.refl _ _⟩
    show _ = _
    rw [← HF0.out (1 - 1) (by omega)]
    simp
  case round =>
    obtain ⟨k, cur, hk1, hk, rfl, hcl, HC, hout, hfr⟩ := hrel
    have hr2 := hr1.fr hfr (by omega) (by omega) (by omega) (by omega)
    have hsz := hfr.size
    by_cases hlt : k < L.length
    · have c1 := ((row_fr ho hfr (by intro q e; simp [Value.ownBlock] at e; omega)).cellAt k (by omega)).trans (dcells_at L k hlt)
      have c7 := cell_of_cells (j := 7) hr2.blk rfl
      have hxl := lt_of_block hr2.blk
      have hkh : k - 1 < ht := by have := HLL.out; omega
      have hpa := HLP.out (k - 1) hkh
      rw [show k - 1 + 1 = k by omega] at hpa
      have hdl := HLM.out k (by omega)
      have hpl := HLM.out (k - 1) (by omega)
      have hso := stakes_ok HV.out _ hpl
      have hst : moveS cur (hd s.all (L.getD k 0)) = stakesAt s.par s.all (L.getD (k + 1 - 1) 0) := by
        rw [show k + 1 - 1 = k by omega, stakesAt_step s.par HI.out.tree hpa.2, hpa.1, HC.out]
      have hok := HV.out.hdrs _ hpa.2 hdl
      have ham := hok.amount1
      rw [hpa.1, ← HC.out] at ham
      rw [← HC.out] at hso
      have hc := hr2.hdr_at hdl
      have f0 := hok.frm0
      have f1 := hok.frm1
      have d0 := hok.dst0
      have d1 := hok.dst1
      have a0 := hok.amount0
      have HST := Go.Proofs.YtpaakikgfojplaaGreat.hid hst
      clear hst hok hpa
      generalize L.getD k 0 = d at *
      have i1 : (0 : Int) ≤ (k : Int) := by omega
      have i2 : (k : Int) < ((L.length : Nat) : Int) := by omega
      have i3 : (0 : Int) ≤ (d : Int) := by omega
      have i4 : (d : Int) < ((s.all.length : Nat) : Int) := by omega
      have h0 := hc.c0
      have h1 := hc.c1
      have h2 := hc.c2
      have h3 := hc.c3
      have h4 := hc.c4
      have h5 := hc.c5
      have h6 := hc.c6
      generalize hd s.all d = H at *
      obtain ⟨sl, po, pr, co, fr, ds, am⟩ := H
      simp only at *
      obtain ⟨fN, rfl⟩ := Int.eq_ofNat_of_zero_le f0
      obtain ⟨dN, rfl⟩ := Int.eq_ofNat_of_zero_le d0
      rw [Int.toNat_natCast] at ham
      have hts := total_small HV.out.par
      have hq1 := le_sum _ hso.pos fN
      have hq2 := (nonneg_at _).1 hso.pos fN
      rw [hso.sum] at hq1
      have hfl : fN < cur.length := by omega
      have hdl2 : dN < cur.length := by omega
      have cf := (hout.cellAt fN (by omega)).trans (icells_at cur fN hfl)
      have ff := hout.frozenAt fN
      have j1 : (0 : Int) ≤ (fN : Int) := by omega
      have j2 : (fN : Int) < ((s.par.stakes.length : Nat) : Int) := by omega
      have hgw : go < wr.heap.size := own_lt hout
      clear hc hr2
      have hmv : moveS cur ⟨sl, po, pr, co, (fN : Int), (dN : Int), am⟩ = (cur.set fN (cur.getD fN 0 - am)).set dN ((cur.set fN (cur.getD fN 0 - am)).getD dN 0 + am) := by
        simp only [moveS, Int.toNat_natCast]
      have hcv2 := getD_set cur fN dN (cur.getD fN 0 - am) hfl
      have hq3 := le_sum _ hso.pos dN
      have hq4 := (nonneg_at _).1 hso.pos dN
      rw [hso.sum] at hq3
      have o1 := (hout.stored fN (.int .i64 (cur.getD fN 0 - am))).1
      rw [icells_set] at o1
      have c2 := (o1.cellAt dN (by omega)).trans (icells_at _ dN (by simpa using hdl2))
      have hv2 : 0 ≤ (cur.set fN (cur.getD fN 0 - am)).getD dN 0 ∧ (cur.set fN (cur.getD fN 0 - am)).getD dN 0 ≤ 240 := by
        rw [hcv2]; split <;> omega
      have o2 := (o1.stored dN (.int .i64 ((cur.set fN (cur.getD fN 0 - am)).getD dN 0 + am))).1
      rw [icells_set] at o2
      have hfz := o1.frozenAt dN
      have k1 : (0 : Int) ≤ (dN : Int) := by omega
      have k2 : (dN : Int) < ((s.par.stakes.length : Nat) : Int) := by omega
      rw [hmv] at HST
      generalize (cur.set fN (cur.getD fN 0 - am)).getD dN 0 = cv2 at *
      generalize cur.set fN (cur.getD fN 0 - am) = cur2 at *
      generalize cur.getD fN 0 = cv at *
      have HO2 := Go.Proofs.YtpaakikgfojplaaGreat.hid (o2.alloc (.cells #[.int .i64 sl, .int .i64 po, .int .i64 pr, .int .i64 co, .int .i64 (fN : Int), .int .i64 (dN : Int), .int .i64 am] 40))
      have HF2 := Go.Proofs.YtpaakikgfojplaaGreat.hid (((hfr.setCell (p := ⟨go, fN, none⟩) (Or.inl rfl) (.int .i64 (cv - am))).setCell (p := ⟨go, dN, none⟩) (Or.inl rfl) (.int .i64 (cv2 + am))).alloc (.cells #[.int .i64 sl, .int .i64 po, .int .i64 pr, .int .i64 co, .int .i64 (fN : Int), .int .i64 (dN : Int), .int .i64 am] 40))
      have HCL := Go.Proofs.YtpaakikgfojplaaGreat.hid (show (cur2.set dN (cv2 + am)).length = s.par.stakes.length by
        have := o2.1; simp [icells] at this; simpa using this)
      clear o1 o2 hmv hcv2 hso hq3 hq4 hfr hout hcl HC
      go_wp2
      go_region_held3 (fun w' => w'.cell? ⟨x, 7, none⟩ = some (.slice (some ⟨ga, 0, none⟩) s.all.length ca) ∧ w'.cell? ⟨g, k, none⟩ = some (.int .i64 (d : Int)) ∧ w'.cell? ⟨ga, d * 8, none⟩ = some (.int .i64 sl) ∧ w'.cell? ⟨ga, d * 8 + 1, none⟩ = some (.int .i64 po) ∧ w'.cell? ⟨ga, d * 8 + 2, none⟩ = some (.int .i64 pr) ∧ w'.cell? ⟨ga, d * 8 + 3, none⟩ = some (.int .i64 co) ∧ w'.cell? ⟨ga, d * 8 + 4, none⟩ = some (.int .i64 (fN : Int)) ∧ w'.cell? ⟨ga, d * 8 + 5, none⟩ = some (.int .i64 (dN : Int)) ∧ w'.cell? ⟨ga, d * 8 + 6, none⟩ = some (.int .i64 am)) (go_keep) (fail)
      go_wp2
      go_region
      go_wp2
      go_region
      go_wp2
      go_roundw
      case rel =>
        exact ⟨k + 1, cur2.set dN (cv2 + am), by omega, by omega, by go_num, HCL.out, HST, HO2.out, HF2.out.drew.drew.drew⟩
      case measure => simp [intOf]; omega
    · have hkL : k = L.length := by omega
      have hk2 : k - 1 = ht := by have := HLL.out; omega
      have he : cur = stakesAt s.par s.all id := by rw [HC.out, hk2, HEND.out]
      have HE := Go.Proofs.YtpaakikgfojplaaGreat.hid he
      have HO := Go.Proofs.YtpaakikgfojplaaGreat.hid hout
      have HB := Go.Proofs.YtpaakikgfojplaaGreat.hid (HB01.out.trans (hfr.below (B := w.heap.size) (by omega) (by intro q hq; subst hq; exact hgo.1)))
      clear hr2 hfr hkL he hout HC
      go_wp2
      go_ret
      refine ⟨go, rfl, ?_, HB.out⟩
      rw [← HE.out]
      exact HO.out
end Go.Proofs.YtpaakikgfojplaaGreat

