import Derived.Test.YtpaakikgfojplaaGreatCM7
/-
  THE WALKS of beaconref: Stake, Count, Draw, Turn.
-/
namespace Go.Proofs.YtpaakikgfojplaaGreat
open Go.RowKit Num Bk
set_option linter.unusedVariables false

theorem missing_vals (s : St) (id : Int) : missing s id = 0 ∨ missing s id = 2 ∨ missing s id = 3 := by
  unfold missing; split
  · exact Or.inl rfl
  · split
    · exact Or.inr (Or.inl rfl)
    · exact Or.inr (Or.inr rfl)

/-- What Stake and Count answer. -/
def askErr (s : St) (id pool : Int) : Int := if missing s id ≠ 0 then missing s id else if poolOk s pool = false then 5 else 0
def stakeV (s : St) (id pool : Int) : Int := if askErr s id pool = 0 then (stakesAt s.par s.all id.toNat).getD pool.toNat 0 else 0
def countV (s : St) (id pool : Int) : Int := if askErr s id pool = 0 then countAt s.all pool id.toNat else 0

set_option maxHeartbeats 1600000 in
set_option maxRecDepth 1000000 in
theorem stake_any (x gs cs ga ca gk ck : Nat) (s : St) (id pool : Int) (w : World) (hr : RefAt w x gs cs ga ca gk ck s) (hv : Inv s) :
    Calls Tryz.prog 25 #[.pointer (some ⟨x, 0, none⟩), .int .i64 id, .int .i64 pool] w fun e w' => e = .returned (.tuple #[.int .i64 (stakeV s id pool), .int .i64 (askErr s id pool)]) ∧ Below w.heap.size w w' := by
  have hi := hv.wk
  go_enter Tryz.func25, Tryz.ntmps25
  go_wp2_with fail
  refine (missing_any x gs cs ga ca gk ck s id _ hr hi).mono ?_
  rintro e w1 ⟨rfl, hb1⟩
  have hr1 := hr.keep hb1
  go_wp2_with fail
  refine (pool_any x gs cs ga ca gk ck s pool _ hr1).mono ?_
  rintro e w2 ⟨rfl, rfl⟩
  by_cases hm : missing s id = 0
  · obtain ⟨k, hk, rfl⟩ := missing_zero hm
    have hkl := inv_lt hv hk
    rw [hm]
    cases hp : poolOk s pool
    · have HE := Go.Proofs.YtpaakikgfojplaaGreat.hid (show askErr s (k : Int) pool = 5 by unfold askErr; rw [if_neg (by simp [hm]), if_pos hp])
      have HV := Go.Proofs.YtpaakikgfojplaaGreat.hid (show stakeV s (k : Int) pool = 0 by unfold stakeV; rw [HE.out]; rfl)
      clear hm hp hr hr1
      go_wp2
      go_ret2
      exact ⟨by rw [HE.out, HV.out]; rfl, hb1⟩
    · have HE := Go.Proofs.YtpaakikgfojplaaGreat.hid (show askErr s (k : Int) pool = 0 by unfold askErr; rw [if_neg (by simp [hm]), if_neg (by simp [hp])])
      have HV := Go.Proofs.YtpaakikgfojplaaGreat.hid (show stakeV s (k : Int) pool = (stakesAt s.par s.all k).getD pool.toNat 0 by unfold stakeV; rw [HE.out]; simp)
      simp [poolOk] at hp
      obtain ⟨pN, rfl⟩ := Int.eq_ofNat_of_zero_le hp.1
      have hsz := hb1.size
      clear hm hr
      go_wp2_with fail
      refine (stakes_any x gs cs ga ca gk ck s k _ hr1 hv hkl).mono ?_
      rintro e w2 ⟨g, rfl, ho, hb2⟩
      have hlen := (stakes_ok hv k hkl).len
      have c1 := (ho.cellAt pN (by omega)).trans (icells_at _ pN (by omega))
      have HB := Go.Proofs.YtpaakikgfojplaaGreat.hid (hb1.trans (hb2.mono hsz))
      rw [Int.toNat_natCast] at HV
      generalize (stakesAt s.par s.all k).getD pN 0 = cv at *
      clear ho hb2 hb1 hr1 hlen
      go_wp2
      go_ret2
      exact ⟨by rw [HE.out, HV.out]; rfl, HB.out⟩
  · have HE := Go.Proofs.YtpaakikgfojplaaGreat.hid (show askErr s id pool = missing s id by unfold askErr; rw [if_pos (by simpa using hm)])
    have HV := Go.Proofs.YtpaakikgfojplaaGreat.hid (show stakeV s id pool = 0 by unfold stakeV; rw [HE.out, if_neg hm])
    have hb : (missing s id != 0) = true := by simpa using hm
    clear hr hr1
    generalize missing s id = mm at *
    go_wp2
    go_ret2
    exact ⟨by rw [HE.out, HV.out]; rfl, hb1⟩

set_option maxHeartbeats 1600000 in
set_option maxRecDepth 1000000 in
theorem count_any (x gs cs ga ca gk ck : Nat) (s : St) (id pool : Int) (w : World) (hr : RefAt w x gs cs ga ca gk ck s) (hv : Inv s) :
    Calls Tryz.prog 27 #[.pointer (some ⟨x, 0, none⟩), .int .i64 id, .int .i64 pool] w fun e w' => e = .returned (.tuple #[.int .i64 (countV s id pool), .int .i64 (askErr s id pool)]) ∧ Below w.heap.size w w' := by
  have hi := hv.wk
  go_enter Tryz.func27, Tryz.ntmps27
  go_wp2_with fail
  refine (missing_any x gs cs ga ca gk ck s id _ hr hi).mono ?_
  rintro e w1 ⟨rfl, hb1⟩
  have hr1 := hr.keep hb1
  go_wp2_with fail
  refine (pool_any x gs cs ga ca gk ck s pool _ hr1).mono ?_
  rintro e w2 ⟨rfl, rfl⟩
  by_cases hm : missing s id = 0
  · obtain ⟨k, hk, rfl⟩ := missing_zero hm
    have hkl := inv_lt hv hk
    rw [hm]
    cases hp : poolOk s pool
    · have HE := Go.Proofs.YtpaakikgfojplaaGreat.hid (show askErr s (k : Int) pool = 5 by unfold askErr; rw [if_neg (by simp [hm]), if_pos hp])
      have HV := Go.Proofs.YtpaakikgfojplaaGreat.hid (show countV s (k : Int) pool = 0 by unfold countV; rw [HE.out]; rfl)
      clear hm hp hr hr1
      go_wp2
      go_ret2
      exact ⟨by rw [HE.out, HV.out]; rfl, hb1⟩
    · have HE := Go.Proofs.YtpaakikgfojplaaGreat.hid (show askErr s (k : Int) pool = 0 by unfold askErr; rw [if_neg (by simp [hm]), if_neg (by simp [hp])])
      have HV := Go.Proofs.YtpaakikgfojplaaGreat.hid (show countV s (k : Int) pool = countAt s.all pool k by unfold countV; rw [HE.out]; simp)
      have hsz := hb1.size
      clear hm hr hp
      go_wp2_with fail
      refine (counts_any x gs cs ga ca gk ck s k pool _ hr1 hi hkl).mono ?_
      rintro e w2 ⟨rfl, hb2⟩
      have HB := Go.Proofs.YtpaakikgfojplaaGreat.hid (hb1.trans (hb2.mono hsz))
      clear hb2 hb1 hr1
      go_wp2
      go_ret2
      exact ⟨by rw [HE.out, HV.out]; rfl, HB.out⟩
  · have HE := Go.Proofs.YtpaakikgfojplaaGreat.hid (show askErr s id pool = missing s id by unfold askErr; rw [if_pos (by simpa using hm)])
    have HV := Go.Proofs.YtpaakikgfojplaaGreat.hid (show countV s id pool = 0 by unfold countV; rw [HE.out, if_neg hm])
    have hb : (missing s id != 0) = true := by simpa using hm
    clear hr hr1
    generalize missing s id = mm at *
    go_wp2
    go_ret2
    exact ⟨by rw [HE.out, HV.out]; rfl, hb1⟩

set_option maxHeartbeats 400000 in
theorem refdraw_any (nonce slot pool : Int) (w : World) (h1 : 0 ≤ nonce) (h2 : nonce < 65521) (h3 : 0 ≤ slot) (h4 : slot ≤ 10000) (h5 : 0 ≤ pool) (h6 : pool < 6) :
    Calls Tryz.prog 59 #[.int .i64 nonce, .int .i64 slot, .int .i64 pool] w fun e w' => e = .returned (.tuple #[.int .i64 (drawN nonce slot pool), .int .i64 0]) ∧ w = w' := by
  have HD := Go.Proofs.YtpaakikgfojplaaGreat.hid (show drawN nonce slot pool = ((nonce * 4099 + slot * 769 + pool * 97 + 12345) % 65521 * ((nonce * 4099 + slot * 769 + pool * 97 + 12345) % 65521)) % 65521 % 1024 from rfl)
  have hb1 := Int.emod_nonneg (nonce * 4099 + slot * 769 + pool * 97 + 12345) (show (65521 : Int) ≠ 0 by omega)
  have hb2 := Int.emod_lt_of_pos (nonce * 4099 + slot * 769 + pool * 97 + 12345) (show (0 : Int) < 65521 by omega)
  have hb3 : 0 ≤ (nonce * 4099 + slot * 769 + pool * 97 + 12345) % 65521 * ((nonce * 4099 + slot * 769 + pool * 97 + 12345) % 65521) := Int.mul_nonneg hb1 hb1
  have hb4 : (nonce * 4099 + slot * 769 + pool * 97 + 12345) % 65521 * ((nonce * 4099 + slot * 769 + pool * 97 + 12345) % 65521) ≤ 65520 * 65520 := Int.mul_le_mul (by omega) (by omega) hb1 (by omega)
  go_enter Tryz.func59, Tryz.ntmps59
  go_wp2
  go_ret2
  exact ⟨by rw [HD.out]; rfl, rfl⟩

theorem ref_int (p s t a b : Int) (w : World) (h0 : 0 ≤ p) (h1 : p ≤ 1023) (h2 : 1 ≤ t) (h3 : t ≤ 240) (h4 : 0 ≤ s) (h5 : s ≤ t) (h6 : b ≤ 20) (h7 : 1 ≤ a) (h8 : a < b) :
    Calls Tryz.prog 60 #[.int .i64 p, .int .i64 s, .int .i64 t, .int .i64 a, .int .i64 b] w fun e w' => e = .returned (.tuple #[.bool (leads p.toNat s.toNat t.toNat a.toNat b.toNat), .int .i64 0]) ∧ Below w.heap.size w w' := by
  obtain ⟨p, rfl⟩ := Int.eq_ofNat_of_zero_le h0
  obtain ⟨s, rfl⟩ := Int.eq_ofNat_of_zero_le h4
  obtain ⟨t, rfl⟩ := Int.eq_ofNat_of_zero_le (show 0 ≤ t by omega)
  obtain ⟨a, rfl⟩ := Int.eq_ofNat_of_zero_le (show 0 ≤ a by omega)
  obtain ⟨b, rfl⟩ := Int.eq_ofNat_of_zero_le (show 0 ≤ b by omega)
  simp only [Int.toNat_natCast]
  exact ref_yes p s t a b w (by omega) (by omega) (by omega) (by omega) (by omega) (by omega) (by omega)


def turnV (s : St) (id slot pool : Int) : Value :=
  if turnErr s id slot pool = 0 then .agg #[.int .i64 (nonceAt s id.toNat slot), .int .i64 (proofAt s id.toNat slot pool), .int .i64 (stakeAt s id.toNat slot pool), .bool (leadsAt s id.toNat slot pool)]
  else .agg #[.int .i64 0, .int .i64 0, .int .i64 0, .bool false]

theorem sum_take (l : List Int) (k : Nat) (h : k < l.length) : (l.take (k + 1)).sum = (l.take k).sum + l.getD k 0 := by
  rw [List.take_succ_eq_append_getElem h, List.sum_append]
  simp [List.getD, h]

theorem sum_take_le (l : List Int) (h : ∀ x ∈ l, 0 ≤ x) (k : Nat) : 0 ≤ (l.take k).sum ∧ (l.take k).sum ≤ l.sum := by
  have e : l.sum = (l.take k).sum + (l.drop k).sum := by rw [← List.sum_append, List.take_append_drop]
  have h1 := le_sum (l.take k) (fun x hx => h x (List.mem_of_mem_take hx)) (l.take k).length
  have h2 := le_sum (l.drop k) (fun x hx => h x (List.mem_of_mem_drop hx)) (l.drop k).length
  simp [List.getD] at h1 h2
  omega

set_option maxHeartbeats 6400000 in
set_option maxRecDepth 1000000 in
theorem turn_yes (x gs cs ga ca gk ck : Nat) (s : St) (k : Nat) (slot : Int) (pN : Nat) (w : World) (hr : RefAt w x gs cs ga ca gk ck s) (hv : Inv s) (hm : missing s (k : Int) = 0) (hk : k ∈ s.keep) (hs : slotOk s k slot = true) (hp : pN < s.par.stakes.length) :
    Calls Tryz.prog 23 #[.pointer (some ⟨x, 0, none⟩), .int .i64 (k : Int), .int .i64 slot, .int .i64 (pN : Int)] w fun e w' => e = .returned (.tuple #[.agg #[.int .i64 (nonceAt s k slot), .int .i64 (proofAt s k slot pN), .int .i64 (stakeAt s k slot pN), .bool (leadsAt s k slot pN)], .int .i64 0]) ∧ Below w.heap.size w w' := by
  have hi := hv.wk
  have hkl := inv_lt hv hk
  have hpo : poolOk s (pN : Int) = true := by simp [poolOk]; omega
  have e1 := hv.par.e1
  have e2 := hv.par.e2
  have l2 := hv.par.l2
  have hsl : 0 ≤ slot ∧ slot ≤ 10000 := by simp [slotOk] at hs; omega
  go_enter Tryz.func23, Tryz.ntmps23
  go_wp2_with fail
  refine (missing_any x gs cs ga ca gk ck s (k : Int) _ (hr.keep ((Below.refl _ _).alloc (Nat.le_refl _) _)) hi).mono ?_
  rintro e w1 ⟨rfl, hb1⟩
  rw [hm]
  generalize hA : w.alloc (.cells #[.int .i64 0, .int .i64 0, .int .i64 0, .bool false] 77) = A at *
  have hsA : A.heap.size = w.heap.size + 1 := by rw [← hA]; simp
  have hbA : Below w.heap.size w A := by rw [← hA]; exact (Below.refl _ _).alloc (Nat.le_refl _) _
  have hAR : A.heap[w.heap.size]? = some (.cells #[.int .i64 0, .int .i64 0, .int .i64 0, .bool false] 77 (0, 0)) := by rw [← hA]; exact heap_alloc_new w _
  clear hA
  have hr1 := hr.keep (hbA.trans (hb1.mono (by omega)))
  have hs1 := hb1.size
  go_wp2_with fail
  refine (slots_any x gs cs ga ca gk ck s k slot _ hr1 hi hkl).mono ?_
  rintro e w2 ⟨rfl, rfl⟩
  rw [hs]
  go_wp2_with fail
  refine (pool_any x gs cs ga ca gk ck s pN _ hr1).mono ?_
  rintro e w2 ⟨rfl, rfl⟩
  rw [hpo]
  have c1 := cell_of_cells (j := 1) hr1.blk rfl
  have hz : (s.par.epoch == 0) = false := by rw [beq_eq_false_iff_ne]; omega
  have hm4 : slot.tdiv s.par.epoch = slot / s.par.epoch := Int.tdiv_eq_ediv_of_nonneg hsl.1
  have hm5 : 0 ≤ slot / s.par.epoch := Int.ediv_nonneg hsl.1 (by omega)
  have hm6 : slot / s.par.epoch ≤ 10000 := Int.le_trans (Int.ediv_le_self _ hsl.1) hsl.2
  have HLD := Go.Proofs.YtpaakikgfojplaaGreat.hid (show leadsAt s k slot pN = leads (proofAt s k slot pN).toNat (stakeAt s k slot pN).toNat (total s.par).toNat s.par.a.toNat s.par.b.toNat from rfl)
  have HPR := Go.Proofs.YtpaakikgfojplaaGreat.hid (show proofAt s k slot pN = drawN (nonceAt s k slot) slot pN from rfl)
  have hnc := run_bounds hv _ (last_lt hv (slot / s.par.epoch) hkl)
  have hnc2 : runAt s.par s.all (lastAt s.par s.all (slot / s.par.epoch) k) = nonceAt s k slot := rfl
  rw [hnc2] at hnc
  clear hr
  go_wp2_with fail
  refine (last_any x gs cs ga ca gk ck s k _ _ hr1 hv hkl).mono ?_
  rintro e w2 ⟨rfl, hb2⟩
  have hr2 := hr1.keep hb2
  have hs2 := hb2.size
  clear hr1 c1
  go_wp2_with fail
  refine (running_any x gs cs ga ca gk ck s _ _ hr2 hv (last_lt hv _ hkl)).mono ?_
  rintro e w3 ⟨rfl, hb3⟩
  rw [hnc2]
  have hr3 := hr2.keep hb3
  have hs3 := hb3.size
  clear hr2 hnc2
  go_wp2_with fail
  refine (last_any x gs cs ga ca gk ck s k _ _ hr3 hv hkl).mono ?_
  rintro e w4 ⟨rfl, hb4⟩
  have hr4 := hr3.keep hb4
  have hs4 := hb4.size
  have hl4 := last_lt hv (slot / s.par.epoch - 1) hkl
  have hso := stakes_ok hv _ hl4
  clear hr3
  go_wp2_with fail
  refine (stakes_any x gs cs ga ca gk ck s _ _ hr4 hv hl4).mono ?_
  rintro e w5 ⟨g, rfl, ho, hb5⟩
  have hr5 := hr4.keep hb5
  have hs5 := hb5.size
  have hst : (stakesAt s.par s.all (lastAt s.par s.all (slot / s.par.epoch - 1) k)).getD pN 0 = stakeAt s k slot pN := by
    unfold stakeAt oldStakes; rw [Int.toNat_natCast]
  have HB5 : Below A.heap.size A w5 := hb1.trans ((hb2.mono hs1).trans ((hb3.mono (by omega)).trans ((hb4.mono (by omega)).trans (hb5.mono (by omega)))))
  have hs5A : A.heap.size ≤ w5.heap.size := HB5.size
  have hsb := le_sum _ hso.pos pN
  have hsb0 := (nonneg_at _).1 hso.pos pN
  rw [hst] at hsb hsb0
  have hts := total_small hv.par
  rw [hso.sum] at hsb
  have htk := sum_take_le _ hso.pos
  have hstp := sum_take (stakesAt s.par s.all (lastAt s.par s.all (slot / s.par.epoch - 1) k))
  have hsum := hso.sum
  have hlen := hso.len
  have hat := fun j h => (ho.cellAt j (by omega)).trans (icells_at (stakesAt s.par s.all (lastAt s.par s.all (slot / s.par.epoch - 1) k)) j h)
  have HBA := Go.Proofs.YtpaakikgfojplaaGreat.hid hbA
  have HAR := Go.Proofs.YtpaakikgfojplaaGreat.hid hAR
  have HTK := Go.Proofs.YtpaakikgfojplaaGreat.hid htk
  have HSTP := Go.Proofs.YtpaakikgfojplaaGreat.hid hstp
  have HSUM := Go.Proofs.YtpaakikgfojplaaGreat.hid hsum
  have HST := Go.Proofs.YtpaakikgfojplaaGreat.hid hst
  have HAT := Go.Proofs.YtpaakikgfojplaaGreat.hid hat
  have HV := Go.Proofs.YtpaakikgfojplaaGreat.hid hv
  have HLEN := Go.Proofs.YtpaakikgfojplaaGreat.hid hlen
  have hxl := hr5.lts
  have hgl := own_lt ho
  clear hb1 hb2 hb3 hb4 hb5 hr4 hso hst htk hstp hsum hat hbA hAR hlen hs hm hpo hk
  generalize stakesAt s.par s.all (lastAt s.par s.all (slot / s.par.epoch - 1) k) = q at *
  go_wp2
  go_loop [16, 17] (fun t i => ∃ (j : Nat) (m : Int), j ≤ s.par.stakes.length ∧ i = .int .i64 j ∧ t = .int .i64 m ∧ 0 ≤ m ∧ m ≤ 240 ∧ Hid (m = (q.take j).sum)) (fun _ i => s.par.stakes.length - (intOf i).toNat)
  case atStart => exact ⟨0, 0, Nat.zero_le _, rfl, rfl, by omega, by omega, by unfold Hid; simp⟩
  case round =>
    obtain ⟨j, m, hj, rfl, rfl, hm0, hm1, HM⟩ := hrel
    by_cases hlt : j < s.par.stakes.length
    · have hlq : j < q.length := by have := HLEN.out; omega
      have cj := HAT.out j hlq
      have hs1 := HSTP.out j hlq
      have hb := HTK.out (j + 1)
      rw [hs1, ← HM.out] at hb
      rw [← HM.out] at hs1
      have hsm := HSUM.out
      rw [hsm] at hb
      have HS1 := Go.Proofs.YtpaakikgfojplaaGreat.hid hs1
      clear hs1 HM hsm
      generalize q.getD j 0 = qv at *
      go_wp2
      go_round
      case rel => exact ⟨j + 1, m + qv, by omega, by go_num, rfl, hb.1, by omega, by have := HS1.out; unfold Hid; omega⟩
      case measure => simp [intOf]; omega
    · have hmt : m = total s.par := by
        rw [HM.out, List.take_of_length_le (by have := HLEN.out; omega)]; exact HSUM.out
      subst hmt
      have cp := HAT.out pN (by have := HLEN.out; omega)
      rw [HST.out] at cp
      clear HM HAT HSTP HTK
      go_wp2_with fail
      refine (refdraw_any _ slot pN _ hnc.1 hnc.2 hsl.1 hsl.2 (by omega) (by omega)).mono ?_
      rintro e w6 ⟨rfl, rfl⟩
      rw [← HPR.out]
      have hpb : 0 ≤ proofAt s k slot pN ∧ proofAt s k slot pN < 1024 := by rw [HPR.out]; exact drawN_bounds _ _ _
      have c3 := cell_of_cells (j := 3) hr5.blk rfl
      have c4 := cell_of_cells (j := 4) hr5.blk rfl
      have pa1 := HV.out.par.a1
      have pa2 := HV.out.par.a2
      have pb2 := HV.out.par.b2
      have hxs := hxl.1
      have i1 : (0 : Int) ≤ (pN : Int) := by omega
      have i2 : (pN : Int) < ((s.par.stakes.length : Nat) : Int) := by omega
      clear hr5 ho hxl
      generalize hPF : proofAt s k slot pN = PF at *
      generalize hSK : stakeAt s k slot pN = SK at *
      generalize hNC : nonceAt s k slot = NC at *
      have HPF := Go.Proofs.YtpaakikgfojplaaGreat.hid hPF
      have HSK := Go.Proofs.YtpaakikgfojplaaGreat.hid hSK
      have HNC := Go.Proofs.YtpaakikgfojplaaGreat.hid hNC
      clear hPF hSK hNC
      go_wp2
      go_region_held3 (fun w' => w'.cell? ⟨x, 3, none⟩ = some (.int .i64 s.par.a) ∧ w'.cell? ⟨x, 4, none⟩ = some (.int .i64 s.par.b) ∧ w'.cell? ⟨g, pN, none⟩ = some (.int .i64 SK)) (go_keep) ((go_at_call 60; refine (ref_int PF SK (total s.par) s.par.a s.par.b _ (by omega) (by omega) (by omega) (by omega) (by omega) (by omega) (by omega) (by omega) (by omega)).mono ?_; rintro e w7 ⟨rfl, hb7⟩; have k3 := (hb7.cell (p := ⟨x, 3, none⟩) (by exact hxs)).trans (by exact c3); have k4 := (hb7.cell (p := ⟨x, 4, none⟩) (by exact hxs)).trans (by exact c4); have k5 := (hb7.cell (p := ⟨g, pN, none⟩) (by exact hgl)).trans (by exact cp)))
      rw [← HLD.out]
      have hs7 := hb7.size
      have HB7 := Go.Proofs.YtpaakikgfojplaaGreat.hid (HB5.drew.trans (hb7.mono (by exact hs5A)))
      have hR7 : w7.heap[w.heap.size]? = some (.cells #[.int .i64 0, .int .i64 0, .int .i64 0, .bool false] 77 (0, 0)) := by
        rw [HB7.out.block _ (by omega)]; exact HAR.out
      have r0 := cell_of_cells (j := 0) hR7 rfl
      have r1 := cell_of_cells (j := 1) hR7 rfl
      have r2 := cell_of_cells (j := 2) hR7 rfl
      have r3 := cell_of_cells (j := 3) hR7 rfl
      have q0 := free_of_cells (j := 0) hR7
      have q1 := free_of_cells (j := 1) hR7
      have q2 := free_of_cells (j := 2) hR7
      have q3 := free_of_cells (j := 3) hR7
      clear hb7
      have HFIN := Go.Proofs.YtpaakikgfojplaaGreat.hid (HBA.out.trans (HB7.out.mono (by omega)))
      generalize hLL : leadsAt s k slot pN = LL at *
      have HLL := Go.Proofs.YtpaakikgfojplaaGreat.hid hLL
      clear hLL
      go_wp2
      refine bodyPost_ret (v := .tuple #[.agg #[.int .i64 NC, .int .i64 PF, .int .i64 SK, .bool LL], .int .i64 0]) (by simp [results, Tryz.results23, go_sem, r0, r1, r2, r3]) rfl ⟨by rw [HPF.out, HSK.out, HNC.out, HLL.out], ?_⟩
      exact (((HFIN.out.setCell (by exact Nat.le_refl _) _).setCell (by exact Nat.le_refl _) _).setCell (by exact Nat.le_refl _) _).setCell (by exact Nat.le_refl _) _
end Go.Proofs.YtpaakikgfojplaaGreat

