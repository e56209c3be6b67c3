import Derived.Test.YtpaakikgfojplaaCM20
/-
  THE WALK of the law Moved, under what the program's chain owes.
-/
namespace Go.Proofs.Ytpaakikgfojplaa
open Go.RowKit Num Bk
set_option linter.unusedVariables false

theorem New.below {Rep : World → Nat → (Nat → Prop) → St → Prop} (P : PSpec Rep) {w wr w' : World} {b xc gs cs ga ca : Nat} {F : Nat → Prop} {s : St} (h : New Rep w wr b xc gs cs ga ca F s) (hb : Below wr.heap.size wr w') : New Rep w w' b xc gs cs ga ca F s :=
  ⟨h.1.keep P hb, h.2.1.trans (hb.mono h.2.1.size), h.2.2⟩

theorem New.left {Rep : World → Nat → (Nat → Prop) → St → Prop} {w wr w' : World} {b xc gs cs ga ca : Nat} {F F1 : Nat → Prop} {s : St} (h : New Rep w wr b xc gs cs ga ca F s) (r1 : Rep w' xc F1 s) (f1 : Fr F wr w') (n1 : ∀ k, F1 k → F k ∨ wr.heap.size ≤ k) : New Rep w w' b xc gs cs ga ca F1 s := by
  obtain ⟨hB, hb, hF, h3⟩ := h
  have hs := hb.size
  refine ⟨hB.left r1 f1 n1, below_fr hb f1 hF, fun k hk => ?_, h3⟩
  rcases n1 k hk with h | h
  · exact hF k h
  · omega

/-- The book, the chain, and a list of its own beside them. -/
structure Mid (Rep : World → Nat → (Nat → Prop) → St → Prop) (w wr : World) (b xc gs cs ga ca : Nat) (F : Nat → Prop) (s : St) (g cap : Nat) (l : List Nat) : Prop where
  new : New Rep w wr b xc gs cs ga ca F s
  own : wr.ownsRow 0 3 1 (.slice (some ⟨g, 0, none⟩) l.length cap) l.length (dcells l)
  out : ¬ F g

theorem Mid.below {Rep : World → Nat → (Nat → Prop) → St → Prop} (P : PSpec Rep) {w wr w' : World} {b xc gs cs ga ca g cap : Nat} {F : Nat → Prop} {s : St} {l : List Nat} (h : Mid Rep w wr b xc gs cs ga ca F s g cap l) (hb : Below wr.heap.size wr w') : Mid Rep w w' b xc gs cs ga ca F s g cap l :=
  ⟨h.new.below P hb, row_keep h.own hb (Nat.le_refl _), h.out⟩

theorem Mid.left {Rep : World → Nat → (Nat → Prop) → St → Prop} {w wr w' : World} {b xc gs cs ga ca g cap : Nat} {F : Nat → Prop} {s : St} {l : List Nat} (h : Mid Rep w wr b xc gs cs ga ca F s g cap l) (hL : Left Rep wr w' xc F s) : ∃ F', Mid Rep w w' b xc gs cs ga ca F' s g cap l := by
  obtain ⟨F1, r1, f1, n1⟩ := hL
  have hgl := own_lt h.own
  exact ⟨F1, h.new.left r1 f1 n1, row_fr h.own f1 (by intro k e; simp [Value.ownBlock] at e; subst e; exact h.out), fun h1 => (n1 g h1).elim h.out (fun h => by omega)⟩

theorem ask_zero {s : St} {id : Nat} (hk : id ∈ s.keep) {pool : Nat} (hp : pool < s.par.stakes.length) : askErr s (id : Int) (pool : Int) = 0 := by
  unfold askErr
  rw [if_neg (by simp [missing_keep hk]), if_neg]
  have : poolOk s (pool : Int) = true := by simp [poolOk]; omega
  simp [this]
theorem ask_five {s : St} {id : Nat} (hk : id ∈ s.keep) {pool : Int} (hp : pool < 0 ∨ (s.par.stakes.length : Int) ≤ pool) : askErr s (id : Int) pool = 5 := by
  unfold askErr
  rw [if_neg (by simp [missing_keep hk]), if_pos]
  simp only [poolOk, Bool.and_eq_false_iff, decide_eq_false_iff_not]
  omega
theorem stakeV_is {s : St} {id : Nat} (hk : id ∈ s.keep) {pool : Nat} (hp : pool < s.par.stakes.length) : stakeV s (id : Int) (pool : Int) = stakeOf s id pool := by
  unfold stakeV stakeOf
  rw [if_pos (ask_zero hk hp), Int.toNat_natCast, Int.toNat_natCast]
theorem countV_is {s : St} {id : Nat} (hk : id ∈ s.keep) {pool : Nat} (hp : pool < s.par.stakes.length) : countV s (id : Int) (pool : Int) = countAt s.all (pool : Int) id := by
  unfold countV
  rw [if_pos (ask_zero hk hp), Int.toNat_natCast]

/-- The sum of the first k. -/
def sumTo (l : List Int) (k : Nat) : Int := (l.take k).sum
theorem sumTo_succ (l : List Int) (k : Nat) (h : k < l.length) : sumTo l (k + 1) = sumTo l k + l.getD k 0 := by
  unfold sumTo
  rw [List.take_add_one, List.sum_append, List.getElem?_eq_getElem h]
  simp [List.getD, h]
theorem sumTo_all (l : List Int) : sumTo l l.length = l.sum := by unfold sumTo; simp
theorem sumTo_bounds (l : List Int) (h : ∀ x ∈ l, 0 ≤ x) (k : Nat) : 0 ≤ sumTo l k ∧ sumTo l k ≤ l.sum := by
  unfold sumTo
  have e := List.take_append_drop k l
  have h1 : l.sum = (l.take k).sum + (l.drop k).sum := by rw [← List.sum_append, e]
  have h2 := sum_nonneg (l.take k) (fun x hx => h x (List.mem_of_mem_take hx))
  have h3 := sum_nonneg (l.drop k) (fun x hx => h x (List.mem_of_mem_drop hx))
  omega

theorem mid_stake {Rep : World → Nat → (Nat → Prop) → St → Prop} (P : PSpec Rep) {w wr W : World} {b xc gs cs ga ca g cap : Nat} {F : Nat → Prop} {s : St} {l : List Nat} (h : Mid Rep w wr b xc gs cs ga ca F s g cap l) (hb : Below wr.heap.size wr W) (id pool : Int) (h1 : I64 id) (h2 : I64 pool) :
    Calls Try.prog 23 #[.pointer (some ⟨xc, 0, none⟩), .int .i64 id, .int .i64 pool] W fun e w' => e = .returned (.tuple #[.int .i64 (stakeV s id pool), .int .i64 (askErr s id pool)]) ∧ ∃ F', Mid Rep w w' b xc gs cs ga ca F' s g cap l :=
  (P.stake W xc F s id pool (h.below P hb).new.1.rep h.new.1.inv h1 h2).mono (fun _ _ ⟨e, hL⟩ => ⟨e, (h.below P hb).left hL⟩)

theorem mid_count {Rep : World → Nat → (Nat → Prop) → St → Prop} (P : PSpec Rep) {w wr W : World} {b xc gs cs ga ca g cap : Nat} {F : Nat → Prop} {s : St} {l : List Nat} (h : Mid Rep w wr b xc gs cs ga ca F s g cap l) (hb : Below wr.heap.size wr W) (id pool : Int) (h1 : I64 id) (h2 : I64 pool) :
    Calls Try.prog 24 #[.pointer (some ⟨xc, 0, none⟩), .int .i64 id, .int .i64 pool] W fun e w' => e = .returned (.tuple #[.int .i64 (countV s id pool), .int .i64 (askErr s id pool)]) ∧ ∃ F', Mid Rep w w' b xc gs cs ga ca F' s g cap l :=
  (P.count W xc F s id pool (h.below P hb).new.1.rep h.new.1.inv h1 h2).mono (fun _ _ ⟨e, hL⟩ => ⟨e, (h.below P hb).left hL⟩)

set_option maxHeartbeats 12800000 in
set_option maxRecDepth 1000000 in
theorem moved_any {Rep : World → Nat → (Nat → Prop) → St → Prop} (P : PSpec Rep) (a : Option Addr) (cap : Nat) (z : List Int) (a2 : Option Addr) (cap2 : Nat) (l : List Stp) (w : World) (hz : RawAt w a z) (hl : StepsAt w a2 l) (hlm : l.length ≤ maxLen) :
    Calls Try.prog 9 #[.slice a z.length cap, .slice a2 l.length cap2] w fun e w' => e = .returned (.bool true) ∧ Below w.heap.size w w' := by
  go_enter Try.func9, Try.ntmps9
  go_wp2_with fail
  refine (played_any P a cap z a2 cap2 l _ hz hl hlm).mono ?_
  rintro e w1 ⟨b, xc, gs, cs, ga, ca, F, rfl, hN⟩
  clear hz hl hlm
  generalize playS (Bk.start (parOf z)) l = s at *
  have hv := hN.1.inv
  have hbk := hN.1.book
  have c7 := cell_of_cells (j := 7) hbk.blk rfl
  have hn2 := hv.par.l2
  have hn1 := hv.par.l1
  have hpos : ∀ x ∈ s.par.stakes, 0 ≤ x := fun x hx => (hv.par.s1 x hx).1
  have hts := total_small hv.par
  have HSA := Go.Proofs.Ytpaakikgfojplaa.hid (sumTo_all s.par.stakes)
  have HST : Hid (total s.par = s.par.stakes.sum) := rfl
  have HSB := Go.Proofs.Ytpaakikgfojplaa.hid (fun k => sumTo_bounds s.par.stakes hpos k)
  have HSU := Go.Proofs.Ytpaakikgfojplaa.hid (fun k h => sumTo_succ s.par.stakes k h)
  have HSK := Go.Proofs.Ytpaakikgfojplaa.hid (fun k (h : k < s.par.stakes.length) => (hbk.stk.cellAt k (by omega)).trans (icells_at s.par.stakes k h))
  have HHN := Go.Proofs.Ytpaakikgfojplaa.hid hN
  clear hN hbk hpos
  generalize hSL : s.par.stakes.length = n at *
  generalize hTT : s.par.stakes.sum = T at *
  have hTb : 1 ≤ T ∧ T ≤ 240 := by have := HST.out; omega
  clear hts
  generalize hSM : (fun k => sumTo s.par.stakes k) = SM at *
  have hSMk : ∀ k, sumTo s.par.stakes k = SM k := fun k => by rw [← hSM]
  simp only [hSMk] at HSA HSB HSU
  have HSZ : Hid (SM 0 = 0) := by unfold Hid; rw [← hSM]; simp [sumTo]
  clear hSM hSMk
  go_wp2
  go_loopw [6, 7] (fun t i wr => ∃ k : Nat, k ≤ n ∧ i = .int .i64 k ∧ t = .int .i64 (SM k) ∧ wr = w1)
    (fun _ i _ => n - (intOf i).toNat)
  case atStart => exact ⟨0, Nat.zero_le _, rfl, by rw [HSZ.out], rfl⟩
  case round =>
    obtain ⟨k, hk, rfl, rfl, rfl⟩ := hrel
    by_cases hlt : k < n
    · have hlt' : (k : Int) < (n : Int) := by omega
      have ck := HSK.out k hlt
      have hb1 := HSB.out k
      have hb2 := HSB.out (k + 1)
      have hsu := HSU.out k hlt
      rw [hsu] at hb2
      have HSUK := Go.Proofs.Ytpaakikgfojplaa.hid hsu
      clear hsu
      generalize s.par.stakes.getD k 0 = v at *
      go_wp2
      go_roundw
      case rel => exact ⟨k + 1, by omega, by go_num, by rw [HSUK.out], by first | rfl | trivial⟩
      case measure => simp [intOf]; omega
    · have hke : k = n := by omega
      subst hke
      rw [HSA.out]
      go_wp2_with fail
      refine (bkept_any b xc gs cs ga ca s _ HHN.out.1.book hv).mono ?_
      rintro e w2 ⟨g, cap3, rfl, hown, hb2⟩
      have hgl := hown.lt g (by simp [Value.ownBlock])
      have hM : Mid Rep w w2 b xc gs cs ga ca F s g cap3 s.keep := ⟨HHN.out.below P hb2, row_weak hown (Nat.zero_le _), fun h => by have := P.lt HHN.out.1.rep _ h; omega⟩
      have HM := Go.Proofs.Ytpaakikgfojplaa.hid hM
      have hkl := hv.wk.kl
      have hsm := hv.wk.small
      have HKL := Go.Proofs.Ytpaakikgfojplaa.hid (fun d (h : d ∈ s.keep) => inv_lt hv h)
      clear hM hown hb2 HHN c7 HSK HSA HSU HSB HSZ hgl
      have HSO := Go.Proofs.Ytpaakikgfojplaa.hid (fun d (h : d < s.all.length) => stakes_ok hv d h)
      have HCB := Go.Proofs.Ytpaakikgfojplaa.hid (fun (pool : Int) d (h : d < s.all.length) => count_bounds hv pool d h)
      have HHS := Go.Proofs.Ytpaakikgfojplaa.hid (fun d (h : d < s.all.length) => height_small hv h)
      have HM0 := HM
      clear HM
      go_wp2
      go_loopw [9] (fun i wr => ∃ (j : Nat) (F : Nat → Prop), j ≤ s.keep.length ∧ i = .int .i64 j ∧ Hid (Mid Rep w wr b xc gs cs ga ca F s g cap3 s.keep))
        (fun i _ => s.keep.length - (intOf i).toNat)
      case atStart => exact ⟨0, F, Nat.zero_le _, rfl, HM0⟩
      case round =>
        clear HM0 F
        obtain ⟨j, F, hj, rfl, HM⟩ := hrel
        generalize wr = wo at *
        by_cases hlt : j < s.keep.length
        · have hlt' : (j : Int) < (s.keep.length : Int) := by omega
          have hdm : s.keep.getD j 0 ∈ s.keep := by
            rw [show s.keep.getD j 0 = s.keep[j] from by simp [List.getD, hlt]]
            exact List.getElem_mem hlt
          have hdl := HKL.out _ hdm
          have HCK := Go.Proofs.Ytpaakikgfojplaa.hid (fun (W : World) (F' : Nat → Prop) (h : Mid Rep w W b xc gs cs ga ca F' s g cap3 s.keep) => (h.own.cellAt j (by omega)).trans (dcells_at s.keep j hlt))
          have HC := Go.Proofs.Ytpaakikgfojplaa.hid (fun (W : World) (F' : Nat → Prop) (h : Mid Rep w W b xc gs cs ga ca F' s g cap3 s.keep) => h.new.1.book.blk)
          have HKV := Go.Proofs.Ytpaakikgfojplaa.hid (fun (q : Nat) (h : q < k) => (⟨ask_zero hdm (by omega), stakeV_is hdm (by omega), countV_is hdm (by omega)⟩ : askErr s ((s.keep.getD j 0 : Nat) : Int) (q : Int) = 0 ∧ stakeV s ((s.keep.getD j 0 : Nat) : Int) (q : Int) = stakeOf s (s.keep.getD j 0) q ∧ countV s ((s.keep.getD j 0 : Nat) : Int) (q : Int) = countAt s.all (q : Int) (s.keep.getD j 0)))
          have HA5 := Go.Proofs.Ytpaakikgfojplaa.hid (⟨ask_five hdm (Or.inr (by omega)), ask_five hdm (Or.inl (by omega))⟩ : askErr s ((s.keep.getD j 0 : Nat) : Int) (k : Int) = 5 ∧ askErr s ((s.keep.getD j 0 : Nat) : Int) (-1) = 5)
          generalize s.keep.getD j 0 = d at *
          have hso := HSO.out d hdl
          have c7 := cell_of_cells (j := 7) (HC.out _ _ HM.out) rfl
          have hsp := fun q => sumTo_bounds (stakesAt s.par s.all d) hso.pos q
          have HSP := Go.Proofs.Ytpaakikgfojplaa.hid hsp
          have HSL2 := Go.Proofs.Ytpaakikgfojplaa.hid hso.len
          have HSS := Go.Proofs.Ytpaakikgfojplaa.hid hso.sum
          have HSU2 := Go.Proofs.Ytpaakikgfojplaa.hid (fun q h => sumTo_succ (stakesAt s.par s.all d) q h)
          have HSA2 := Go.Proofs.Ytpaakikgfojplaa.hid (sumTo_all (stakesAt s.par s.all d))
          have HSZ2 : Hid (sumTo (stakesAt s.par s.all d) 0 = 0) := by unfold Hid; simp [sumTo]
          have HGD : Hid (∀ q, (stakesAt s.par s.all d).getD q 0 = stakeOf s d q) := fun q => rfl
          have hhs := HHS.out d hdl
          clear hso hsp
          go_wp2
          go_loopw [10, 11] (fun t q wi => ∃ (m : Nat) (F' : Nat → Prop), m ≤ k ∧ q = .int .i64 m ∧ t = .int .i64 (sumTo (stakesAt s.par s.all d) m) ∧ Hid (Mid Rep w wi b xc gs cs ga ca F' s g cap3 s.keep))
            (fun _ q _ => k - (intOf q).toNat)
          case atStart => exact ⟨0, F, Nat.zero_le _, rfl, by rw [HSZ2.out], HM⟩
          case round =>
            clear c7
            obtain ⟨m, F', hm, rfl, rfl, HM1⟩ := hrel
            have c7 := cell_of_cells (j := 7) (HC.out _ _ HM1.out) rfl
            have c0 := cell_of_cells (j := 0) (HC.out _ _ HM1.out) rfl
            have ck := HCK.out _ _ HM1.out
            by_cases hlt2 : m < k
            · have hlt2' : (m : Int) < (k : Int) := by omega
              obtain ⟨hk0, hks, hkc⟩ := HKV.out m hlt2
              have HK0 := Go.Proofs.Ytpaakikgfojplaa.hid hk0
              have HKS := Go.Proofs.Ytpaakikgfojplaa.hid hks
              have HKC := Go.Proofs.Ytpaakikgfojplaa.hid hkc
              clear hk0 hks hkc
              go_wp2_with fail
              go_region_held3 (fun w' => w'.cell? ⟨b, 0, none⟩ = some (.pointer (some ⟨xc, 0, none⟩)) ∧ w'.cell? ⟨g, j, none⟩ = some (.int .i64 (d : Int))) (go_keep) ((go_at_call 23; refine (mid_stake P HM1.out (by first | exact Below.refl _ _ | exact (Below.refl _ _).drew | exact (Below.refl _ _).drew.drew) (d : Int) (m : Int) (i64_of (by omega) (by omega)) (i64_of (by omega) (by omega))).mono ?_; rintro e wq2 ⟨rfl, HM2F, HM2H⟩; have k0 := cell_of_cells (j := 0) (HC.out _ _ HM2H) rfl; have kk := HCK.out _ _ HM2H))
              have HM2 := Go.Proofs.Ytpaakikgfojplaa.hid HM2H
              clear HM2H k0 kk
              clear c7 c0 ck
              have c0 := cell_of_cells (j := 0) (HC.out _ _ HM2.out) rfl
              have ck := HCK.out _ _ HM2.out
              go_wp2_with fail
              go_region_held3 (fun w' => w'.cell? ⟨b, 0, none⟩ = some (.pointer (some ⟨xc, 0, none⟩)) ∧ w'.cell? ⟨g, j, none⟩ = some (.int .i64 (d : Int))) (go_keep) ((go_at_call 24; refine (mid_count P HM2.out (by first | exact Below.refl _ _ | exact (Below.refl _ _).drew | exact (Below.refl _ _).drew.drew) (d : Int) (m : Int) (i64_of (by omega) (by omega)) (i64_of (by omega) (by omega))).mono ?_; rintro e wq3 ⟨rfl, HM3F, HM3H⟩; have k0 := cell_of_cells (j := 0) (HC.out _ _ HM3H) rfl; have kk := HCK.out _ _ HM3H))
              have HM3 := Go.Proofs.Ytpaakikgfojplaa.hid HM3H
              clear HM3H k0 kk
              clear c0 ck
              have ck := HCK.out _ _ HM3.out
              go_wp2_with fail
              refine (bstake_any b xc gs cs ga ca s d m _ HM3.out.new.1.book hv hdl (by omega)).mono ?_
              rintro e w4 ⟨rfl, hb4⟩
              have HM4 := Go.Proofs.Ytpaakikgfojplaa.hid (HM3.out.below P hb4)
              clear ck hb4
              have ck := HCK.out _ _ HM4.out
              go_wp2_with fail
              refine (bcount_any b xc gs cs ga ca s d (m : Int) _ HM4.out.new.1.book hv hdl).mono ?_
              rintro e w5 ⟨rfl, hb5⟩
              have HM5 := Go.Proofs.Ytpaakikgfojplaa.hid (HM4.out.below P hb5)
              clear ck hb5
              have hsu := HSU2.out m (by rw [HSL2.out, hSL]; exact hlt2)
              rw [HGD.out m] at hsu
              have hb1 := HSP.out m
              have hb2 := HSP.out (m + 1)
              have hgp := stake_bounds hv hdl m
              have hgp' : 0 ≤ stakeOf s d m := hgp.1
              rw [HSS.out, HST.out] at hb1 hb2
              rw [hsu] at hb2
              have HSUM := Go.Proofs.Ytpaakikgfojplaa.hid hsu
              rw [HK0.out, HKS.out, HKC.out]
              clear hsu hgp
              generalize countAt s.all (m : Int) d = cn at *
              generalize stakeOf s d m = sk at *
              generalize sumTo (stakesAt s.par s.all d) m = sm at *
              go_wp2
              go_roundw
              case rel => exact ⟨m + 1, _, by omega, by go_num, by rw [HSUM.out], HM5⟩
              case measure => simp [intOf]; omega
            · have hme : m = k := by omega
              subst hme
              have hSAT : sumTo (stakesAt s.par s.all d) m = T := by
                have h1 := HSA2.out
                rw [HSL2.out, hSL] at h1
                rw [h1, HSS.out, HST.out]
              rw [hSAT]
              go_wp2_with fail
              go_region_held3 (fun w' => w'.cell? ⟨b, 0, none⟩ = some (.pointer (some ⟨xc, 0, none⟩)) ∧ w'.cell? ⟨g, j, none⟩ = some (.int .i64 (d : Int)) ∧ w'.cell? ⟨b, 7, none⟩ = some (.slice (some ⟨gs, 0, none⟩) m cs)) (go_keep) ((go_at_call 23; refine (mid_stake P HM1.out (by first | exact Below.refl _ _ | exact (Below.refl _ _).drew | exact (Below.refl _ _).drew.drew) (d : Int) (m : Int) (i64_of (by omega) (by omega)) (i64_of (by omega) (by omega))).mono ?_; rintro e wq2 ⟨rfl, HM2F, HM2H⟩; have k0 := cell_of_cells (j := 0) (HC.out _ _ HM2H) rfl; have kk := HCK.out _ _ HM2H; have k7 := cell_of_cells (j := 7) (HC.out _ _ HM2H) rfl))
              have HM2 := Go.Proofs.Ytpaakikgfojplaa.hid HM2H
              clear HM2H k0 kk k7
              clear c7 c0 ck
              have c0 := cell_of_cells (j := 0) (HC.out _ _ HM2.out) rfl
              have ck := HCK.out _ _ HM2.out
              go_wp2_with fail
              go_region_held3 (fun w' => w'.cell? ⟨b, 0, none⟩ = some (.pointer (some ⟨xc, 0, none⟩)) ∧ w'.cell? ⟨g, j, none⟩ = some (.int .i64 (d : Int))) (go_keep) ((go_at_call 24; refine (mid_count P HM2.out (by first | exact Below.refl _ _ | exact (Below.refl _ _).drew | exact (Below.refl _ _).drew.drew) (d : Int) (-1) (i64_of (by omega) (by omega)) (i64_of (by omega) (by omega))).mono ?_; rintro e wq3 ⟨rfl, HM3F, HM3H⟩; have k0 := cell_of_cells (j := 0) (HC.out _ _ HM3H) rfl; have kk := HCK.out _ _ HM3H))
              have HM3 := Go.Proofs.Ytpaakikgfojplaa.hid HM3H
              clear HM3H k0 kk
              rw [HA5.out.1, HA5.out.2]
              clear c0 ck
              go_wp2
              go_roundw
              case rel => exact ⟨j + 1, _, by omega, by go_num, HM3⟩
              case measure => simp [intOf]; omega
        · go_wp2
          go_ret
          exact ⟨rfl, HM.out.new.2.1⟩
end Go.Proofs.Ytpaakikgfojplaa

