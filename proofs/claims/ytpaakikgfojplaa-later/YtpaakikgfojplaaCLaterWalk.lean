import Derived.Test.YtpaakikgfojplaaCMovedWalk
import Derived.Test.YtpaakikgfojplaaCM26
/-
  THE WALK of the law Later, under what the program's chain owes.
-/
namespace Go.Proofs.Ytpaakikgfojplaa
open Go.RowKit Num Bk
set_option linter.unusedVariables false

theorem i64_div {v : Int} (h : I64 v) : I64 (v.tdiv 7) := by
  obtain ⟨h1, h2⟩ := h
  rcases Int.le_total 0 v with h | h
  · rw [Int.tdiv_eq_ediv_of_nonneg h]
    exact ⟨by omega, by omega⟩
  · have e : v.tdiv 7 = -((-v) / 7) := by
      rw [← Int.tdiv_eq_ediv_of_nonneg (show 0 ≤ -v by omega), Int.neg_tdiv]; omega
    rw [e]
    exact ⟨by omega, by omega⟩
set_option maxHeartbeats 400000 in
theorem bdraw_is (nonce slot pool : Int) (w : World) (h1 : 0 ≤ nonce) (h2 : nonce < 65521) (h3 : 0 ≤ slot) (h4 : slot ≤ 10000) (h5 : 0 ≤ pool) (h6 : pool < 6) :
    Calls Try.prog 14 #[.int .i64 nonce, .int .i64 slot, .int .i64 pool] w fun e w' => e = .returned (.tuple #[.int .i64 (drawN nonce slot pool), .int .i64 0]) ∧ w = w' := by
  go_enter Try.func14, Try.ntmps14
  go_wp2_with fail
  refine (proof_is nonce slot pool w h1 h2 h3 h4 h5 h6).mono ?_
  rintro e w1 ⟨rfl, rfl⟩
  go_wp2
  go_ret2
  exact ⟨rfl, rfl⟩

theorem turn_four {s : St} {id : Nat} (hk : id ∈ s.keep) {slot pool : Int} (h : 10000 < slot) : turnErr s (id : Int) slot pool = 4 ∧ turnV s (id : Int) slot pool = .agg #[.int .i64 0, .int .i64 0, .int .i64 0, .bool false] := by
  have e : turnErr s (id : Int) slot pool = 4 := by
    unfold turnErr
    rw [if_neg (by simp [missing_keep hk]), if_pos]
    simp only [slotOk, Bool.and_eq_false_iff, decide_eq_false_iff_not]
    omega
  refine ⟨e, ?_⟩
  unfold turnV
  rw [e, if_neg (by decide)]
theorem turn_vals {s : St} {id : Nat} {slot pool : Int} (h : turnErr s (id : Int) slot pool = 0) : turnV s (id : Int) slot pool = .agg #[.int .i64 (nonceAt s id slot), .int .i64 (proofAt s id slot pool), .int .i64 (stakeAt s id slot pool), .bool (leadsAt s id slot pool)] := by
  unfold turnV
  rw [if_pos h, Int.toNat_natCast]

theorem drawn {w : World} (n : Nat) : Below w.heap.size w (w.drewN n) := drawB (Below.refl _ _) n

set_option maxHeartbeats 12800000 in
set_option maxRecDepth 1000000 in
theorem later_any {Rep : World → Nat → (Nat → Prop) → St → Prop} (P : PSpec Rep) (a : Option Addr) (cap : Nat) (z : List Int) (a2 : Option Addr) (cap2 : Nat) (l : List Stp) (w : World) (hz : RawAt w a z) (hl : StepsAt w a2 l) (hlm : l.length ≤ maxLen) (which : Int) (hwh : I64 which) (a3 : Option Addr) (cap4 : Nat) (z3 : List Int) (hz3 : RawAt w a3 z3) (hz3m : z3.length ≤ maxLen) :
    Calls Try.prog 10 #[.slice a z.length cap, .slice a2 l.length cap2, .int .i64 which, .slice a3 z3.length cap4] w fun e w' => e = .returned (.bool true) ∧ Below w.heap.size w w' := by
  have HZ3 := Go.Proofs.Ytpaakikgfojplaa.hid hz3
  have hz3n : z3.length ≤ 9223372036854775807 := by unfold maxLen at hz3m; omega
  clear hz3 hz3m
  go_enter Try.func10, Try.ntmps10
  go_wp2_with fail
  refine (played_any P a cap z a2 cap2 l _ hz hl hlm).mono ?_
  rintro e w1 ⟨b, xc, gs, cs, ga, ca, F, rfl, hN⟩
  clear hz hl hlm
  generalize playS (Bk.start (parOf z)) l = s at *
  have hv := hN.1.inv
  have hbk := hN.1.book
  have c7 := cell_of_cells (j := 7) hbk.blk rfl
  have hn2 := hv.par.l2
  have hn1 := hv.par.l1
  have hpos : ∀ x ∈ s.par.stakes, 0 ≤ x := fun x hx => (hv.par.s1 x hx).1
  have hts := total_small hv.par
  have HSA := Go.Proofs.Ytpaakikgfojplaa.hid (sumTo_all s.par.stakes)
  have HST : Hid (total s.par = s.par.stakes.sum) := rfl
  have HSB := Go.Proofs.Ytpaakikgfojplaa.hid (fun k => sumTo_bounds s.par.stakes hpos k)
  have HSU := Go.Proofs.Ytpaakikgfojplaa.hid (fun k h => sumTo_succ s.par.stakes k h)
  have HSK := Go.Proofs.Ytpaakikgfojplaa.hid (fun k (h : k < s.par.stakes.length) => (hbk.stk.cellAt k (by omega)).trans (icells_at s.par.stakes k h))
  have HHN := Go.Proofs.Ytpaakikgfojplaa.hid hN
  clear hN hbk hpos
  generalize hSL : s.par.stakes.length = n at *
  generalize hTT : s.par.stakes.sum = T at *
  have hTb : 1 ≤ T ∧ T ≤ 240 := by have := HST.out; omega
  clear hts
  generalize hSM : (fun k => sumTo s.par.stakes k) = SM at *
  have hSMk : ∀ k, sumTo s.par.stakes k = SM k := fun k => by rw [← hSM]
  simp only [hSMk] at HSA HSB HSU
  have HSZ : Hid (SM 0 = 0) := by unfold Hid; rw [← hSM]; simp [sumTo]
  clear hSM hSMk
  go_wp2
  go_loopw [10, 11] (fun t i wr => ∃ k : Nat, k ≤ n ∧ i = .int .i64 k ∧ t = .int .i64 (SM k) ∧ wr = w1)
    (fun _ i _ => n - (intOf i).toNat)
  case atStart => exact ⟨0, Nat.zero_le _, rfl, by rw [HSZ.out], rfl⟩
  case round =>
    obtain ⟨k, hk, rfl, rfl, rfl⟩ := hrel
    by_cases hlt : k < n
    · have hlt' : (k : Int) < (n : Int) := by omega
      have ck := HSK.out k hlt
      have hb1 := HSB.out k
      have hb2 := HSB.out (k + 1)
      have hsu := HSU.out k hlt
      rw [hsu] at hb2
      have HSUK := Go.Proofs.Ytpaakikgfojplaa.hid hsu
      clear hsu
      generalize s.par.stakes.getD k 0 = v at *
      go_wp2
      go_roundw
      case rel => exact ⟨k + 1, by omega, by go_num, by rw [HSUK.out], by first | rfl | trivial⟩
      case measure => simp [intOf]; omega
    · have hke : k = n := by omega
      subst hke
      rw [HSA.out]
      go_wp2_with fail
      refine (bkept_any b xc gs cs ga ca s _ HHN.out.1.book hv).mono ?_
      rintro e w2 ⟨g, cap3, rfl, hown, hb2⟩
      have hgl := hown.lt g (by simp [Value.ownBlock])
      have hM : Mid Rep w w2 b xc gs cs ga ca F s g cap3 s.keep := ⟨HHN.out.below P hb2, row_weak hown (Nat.zero_le _), fun h => by have := P.lt HHN.out.1.rep _ h; omega⟩
      have hlen := hv.wk.kl
      have hsmall := hv.wk.small
      have hkne := hv.wk.kne
      have HPB := Go.Proofs.Ytpaakikgfojplaa.hid (pickI_bounds which (s.keep.length : Int) (by omega))
      have HOWN := Go.Proofs.Ytpaakikgfojplaa.hid (fun q (h : q < s.keep.length) => (hM.own.cellAt q (by omega)).trans (dcells_at s.keep q h))
      have HNW := Go.Proofs.Ytpaakikgfojplaa.hid hM.new
      clear hM hown hb2 HHN c7 HSK HSA HSU HSB HSZ hgl
      go_wp2_with fail
      refine (pick_is which (s.keep.length : Int) _ hwh (by omega) (by omega)).mono ?_
      rintro e w3 ⟨rfl, rfl⟩
      obtain ⟨q, hq⟩ : ∃ q : Nat, pickI which (s.keep.length : Int) = (q : Int) := ⟨(pickI which (s.keep.length : Int)).toNat, by have := HPB.out; omega⟩
      have hql : q < s.keep.length := by have := HPB.out; omega
      rw [hq]
      have cq := HOWN.out q hql
      have hdm : s.keep.getD q 0 ∈ s.keep := by
        rw [show s.keep.getD q 0 = s.keep[q] from by simp [List.getD, hql]]
        exact List.getElem_mem hql
      have hdl := inv_lt hv hdm
      have i1 : (0 : Int) ≤ (q : Int) := by omega
      have i2 : (q : Int) < (s.keep.length : Int) := by omega
      clear HOWN HPB hq
      generalize s.keep.getD q 0 = d at *
      go_wp2
      go_loopw [14] (fun i wr => ∃ (j : Nat) (F : Nat → Prop), j ≤ z3.length ∧ i = .int .i64 j ∧ Hid (New Rep w wr b xc gs cs ga ca F s)) (fun i _ => z3.length - (intOf i).toNat)
      case atStart => exact ⟨0, F, Nat.zero_le _, rfl, HNW⟩
      case round =>
        clear cq HNW F
        obtain ⟨j, F, hj, rfl, HN⟩ := hrel
        by_cases hlt : j < z3.length
        · obtain ⟨xa, rfl, hc, hI⟩ := (HZ3.out.keep HN.out.2.1) j hlt
          generalize z3.getD j 0 = v at *
          have hbk := HN.out.1.book
          have hep1 := hv.par.e1
          have hep2 := hv.par.e2
          have hbb : 0 ≤ beginsAt s d ∧ beginsAt s d ≤ 10001 := by
            have := slot_bounds hv hdl
            unfold beginsAt
            split <;> omega
          have hpb := pickI_bounds v (4 * s.par.epoch) (by omega)
          have c2 := cell_of_cells (j := 2) hbk.blk rfl
          have c7 := cell_of_cells (j := 7) hbk.blk rfl
          have hw1 : IntKind.i64.wrap (4 * s.par.epoch) = 4 * s.par.epoch := IntWalk.i64_in _ ⟨by omega, by omega⟩
          have hw2 : IntKind.i64.wrap (beginsAt s d + pickI v (4 * s.par.epoch)) = beginsAt s d + pickI v (4 * s.par.epoch) := IntWalk.i64_in _ ⟨by omega, by omega⟩
          have j1 : (0 : Int) ≤ (j : Int) := by omega
          have j2 : (j : Int) < (z3.length : Int) := by omega
          go_wp2
          go_quiet ((first | (go_at_call 27; exact quiet_eq (begins_is b xc gs cs ga ca s d _ (hbk.drewN _) hv hdl)) | (go_at_call 20; exact quiet_eq (pick_is v (4 * s.par.epoch) _ hI (by omega) (by omega)))))
          have HN1 := Go.Proofs.Ytpaakikgfojplaa.hid (HN.out.below P (drawn nq))
          have hc1 : (wr.drewN nq).cell? (xa.add j) = some (.int .i64 v) := hc
          clear c2 c7 hbk hc HN hw1 hw2
          generalize wr.drewN nq = W1 at *
          have hSB : beginsAt s d ≤ beginsAt s d + pickI v (4 * s.par.epoch) ∧ beginsAt s d + pickI v (4 * s.par.epoch) ≤ 10201 := by omega
          clear hpb
          generalize beginsAt s d + pickI v (4 * s.par.epoch) = SL at *
          have hI7 := i64_div hI
          have hw3 : IntKind.i64.wrap (v.tdiv 7) = v.tdiv 7 := IntWalk.i64_in _ ⟨hI7.1, hI7.2⟩
          have hbk := HN1.out.1.book
          have c7 := cell_of_cells (j := 7) hbk.blk rfl
          rw [hSL] at c7
          have hpb := pickI_bounds (v.tdiv 7) (k : Int) (by omega)
          go_wp2
          go_quiet ((go_at_call 20; exact quiet_eq (pick_is (v.tdiv 7) (k : Int) _ hI7 (by omega) (by omega))))
          have HN2 := Go.Proofs.Ytpaakikgfojplaa.hid (HN1.out.below P (drawn nq))
          clear c7 hbk hc1 HN1 hw3 hI7 hI
          generalize W1.drewN nq = W2 at *
          obtain ⟨pl, hpl⟩ : ∃ pl : Nat, pickI (v.tdiv 7) (k : Int) = (pl : Int) := ⟨(pickI (v.tdiv 7) (k : Int)).toNat, by omega⟩
          rw [hpl] at hpb ⊢
          have hplk : pl < k := by omega
          clear hpl
          have hbk := HN2.out.1.book
          have c0 := cell_of_cells (j := 0) hbk.blk rfl
          go_wp2_with fail
          refine (P.turn W2 xc F s (d : Int) SL (pl : Int) HN2.out.1.rep hv (i64_of (by omega) (by omega)) (i64_of (by omega) (by omega)) (i64_of (by omega) (by omega))).mono ?_
          rintro e W3 ⟨rfl, F3, hr3, hf3, hn3⟩
          have HN3 := Go.Proofs.Ytpaakikgfojplaa.hid (HN2.out.left hr3 hf3 hn3)
          clear c0 hbk HN2 hr3 hf3 hn3
          by_cases hbig : 10000 < SL
          · obtain ⟨t1, t2⟩ := turn_four (s := s) hdm (pool := (pl : Int)) hbig
            rw [t1, t2]
            clear t1 t2
            have HNA := Go.Proofs.Ytpaakikgfojplaa.hid (fun o => HN3.out.below P ((Below.refl W3.heap.size W3).alloc (Nat.le_refl _) o))
            go_wp2
            go_roundw
            case rel => exact ⟨j + 1, F3, by omega, by go_num, HNA.out _⟩
            case measure => simp [intOf]; omega
          · have t1 := turn_zero hv hdm (slot := SL) (pool := (pl : Int)) hSB.1 (by omega) (by omega) (by unfold np; omega)
            have t2 := turn_vals t1
            rw [t1, t2]
            clear t1 t2
            have hS0 : 0 ≤ SL := by omega
            have hz : (s.par.epoch == 0) = false := by rw [beq_eq_false_iff_ne]; omega
            have hq : SL.tdiv s.par.epoch = SL / s.par.epoch := Int.tdiv_eq_ediv_of_nonneg hS0
            have hq1 : 0 ≤ SL / s.par.epoch := Int.ediv_nonneg hS0 (by omega)
            have hq2 : SL / s.par.epoch ≤ SL := Int.ediv_le_self _ hS0
            have HNC : Hid (nonceAt s d SL = runAt s.par s.all (lastAt s.par s.all (SL / s.par.epoch) d)) := rfl
            have HSK2 : Hid (stakeAt s d SL (pl : Int) = stakeOf s (lastAt s.par s.all (SL / s.par.epoch - 1) d) pl) := by
              show _ = _
              unfold stakeAt stakeOf oldStakes
              rw [Int.toNat_natCast]
            have HPF : Hid (proofAt s d SL (pl : Int) = drawN (nonceAt s d SL) SL (pl : Int)) := rfl
            have HLL : Hid (leadsAt s d SL (pl : Int) = leads (proofAt s d SL (pl : Int)).toNat (stakeAt s d SL (pl : Int)).toNat (total s.par).toNat s.par.a.toNat s.par.b.toNat) := rfl
            have hl1 := last_lt hv (SL / s.par.epoch) hdl
            have hl2 := last_lt hv (SL / s.par.epoch - 1) hdl
            have hnb := run_bounds hv _ hl1
            have hsb := stake_bounds hv hl2 pl
            have hpfb : 0 ≤ proofAt s d SL (pl : Int) ∧ proofAt s d SL (pl : Int) < 1024 := drawN_bounds _ _ _
            rw [← HNC.out] at hnb
            have hsb' : 0 ≤ stakeAt s d SL (pl : Int) ∧ stakeAt s d SL (pl : Int) ≤ total s.par := by rw [HSK2.out]; exact hsb
            clear hsb
            generalize hNC : nonceAt s d SL = NC at *
            generalize hPF : proofAt s d SL (pl : Int) = PF at *
            generalize hSK : stakeAt s d SL (pl : Int) = SK at *
            generalize hLL : leadsAt s d SL (pl : Int) = LL at *
            go_upto_region 20 with fail
            generalize hW4 : W3.alloc (.cells #[.int .i64 NC, .int .i64 PF, .int .i64 SK, .bool LL] 55) = W4 at *
            obtain ⟨hs4, hb4, hT4⟩ := below_of hW4
            clear hW4
            have HN4 := Go.Proofs.Ytpaakikgfojplaa.hid (HN3.out.below P hb4)
            clear HN3 hb4
            generalize hTB : W3.heap.size = TB at *
            have c2 := cell_of_cells (j := 2) HN4.out.1.book.blk rfl
            have hTl : TB < W4.heap.size := lt_of_block hT4
            go_wp2_with fail
            refine (ahead_any b xc gs cs ga ca s d (SL / s.par.epoch) W4 HN4.out.1.book hv hdl).mono ?_
            rintro e W5 ⟨rfl, hb5⟩
            have HN5 := Go.Proofs.Ytpaakikgfojplaa.hid (HN4.out.below P hb5)
            have hT5 : W5.heap[TB]? = _ := (hb5.block _ hTl).trans hT4
            clear c2 HN4 hT4 hb5
            go_wp2_with fail
            refine (brunning_any b xc gs cs ga ca s _ W5 HN5.out.1.book hv hl1).mono ?_
            rintro e W6 ⟨rfl, hb6⟩
            rw [← HNC.out]
            have HN6 := Go.Proofs.Ytpaakikgfojplaa.hid (HN5.out.below P hb6)
            have hT6 : W6.heap[TB]? = _ := (hb6.block _ (lt_of_block hT5)).trans hT5
            clear HN5 hT5 hb6
            go_wp2_with fail
            refine (ahead_any b xc gs cs ga ca s d (SL / s.par.epoch - 1) W6 HN6.out.1.book hv hdl).mono ?_
            rintro e W7 ⟨rfl, hb7⟩
            have HN7 := Go.Proofs.Ytpaakikgfojplaa.hid (HN6.out.below P hb7)
            have hT7 : W7.heap[TB]? = _ := (hb7.block _ (lt_of_block hT6)).trans hT6
            clear HN6 hT6 hb7
            go_wp2_with fail
            refine (bstake_any b xc gs cs ga ca s _ pl W7 HN7.out.1.book hv hl2 (by omega)).mono ?_
            rintro e W8 ⟨rfl, hb8⟩
            rw [← HSK2.out]
            have HN8 := Go.Proofs.Ytpaakikgfojplaa.hid (HN7.out.below P hb8)
            have hT8 : W8.heap[TB]? = _ := (hb8.block _ (lt_of_block hT7)).trans hT7
            clear HN7 hT7 hb8
            go_wp2_with fail
            refine (bdraw_is NC SL (pl : Int) W8 hnb.1 hnb.2 hS0 (by omega) (by omega) (by omega)).mono ?_
            rintro e W9 ⟨rfl, rfl⟩
            rw [← HPF.out]
            have hbk := HN8.out.1.book
            have c4 := cell_of_cells (j := 4) hbk.blk rfl
            have c5 := cell_of_cells (j := 5) hbk.blk rfl
            have hbl : b < W8.heap.size := lt_of_block hbk.blk
            have pa1 := hv.par.a1
            have pa2 := hv.par.a2
            have pb2 := hv.par.b2
            have hst := HST.out
            rw [hst] at hsb' HLL
            clear hbk
            go_wp2
            go_region_held3 (fun w' => w'.cell? ⟨b, 4, none⟩ = some (.int .i64 s.par.a) ∧ w'.cell? ⟨b, 5, none⟩ = some (.int .i64 s.par.b)) (go_keep) ((go_at_call 12; refine (lead_int PF SK T s.par.a s.par.b _ (by omega) (by omega) (by omega) (by omega) (by omega) (by omega) (by omega) (by omega) (by omega)).mono ?_; rintro e WA ⟨rfl, hbA⟩; have k4 := (hbA.cell (p := ⟨b, 4, none⟩) (by exact hbl)).trans (by exact c4); have k5 := (hbA.cell (p := ⟨b, 5, none⟩) (by exact hbl)).trans (by exact c5)))
            rw [← HLL.out]
            have HNA := Go.Proofs.Ytpaakikgfojplaa.hid (HN8.out.below P (show Below W8.heap.size W8 WA from ⟨hbA.os, hbA.tape, hbA.output, hbA.size, hbA.block⟩))
            have hTA : WA.heap[TB]? = _ := (hbA.block _ (lt_of_block hT8)).trans hT8
            have r0 := cell_of_cells (j := 0) hTA rfl
            have r1 := cell_of_cells (j := 1) hTA rfl
            have r2 := cell_of_cells (j := 2) hTA rfl
            have r3 := cell_of_cells (j := 3) hTA rfl
            clear c4 c5 hT8 hTA hbA HN8
            go_wp2
            go_roundw
            case rel => exact ⟨j + 1, F3, by omega, by go_num, HNA⟩
            case measure => simp [intOf]; omega
        · have HB := Go.Proofs.Ytpaakikgfojplaa.hid HN.out.2.1
          go_wp2
          go_ret
          exact ⟨rfl, HB.out⟩

end Go.Proofs.Ytpaakikgfojplaa

