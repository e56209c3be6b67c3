import Derived.Test.YtpaakikgfojplaaGreatCM13
/-
  THE WALKS of beaconref: refused.
-/
namespace Go.Proofs.YtpaakikgfojplaaGreat
open Go.RowKit Num Bk
set_option linter.unusedVariables false

set_option maxHeartbeats 6400000 in
set_option maxRecDepth 1000000 in
theorem refused_any (x gs cs ga ca gk ck : Nat) (s : St) (parent : Int) (h : Hdr) (w : World) (hr : RefAt w x gs cs ga ca gk ck s) (hv : Inv s) :
    Calls Tryz.prog 48 #[.pointer (some ⟨x, 0, none⟩), .int .i64 parent, hdrV h] w fun e w' => e = .returned (.int .i64 (refused s parent h)) ∧ Below w.heap.size w w' := by
  have hi := hv.wk
  obtain ⟨a0, a1, a2, a3, a4, a5, a6⟩ := h
  have hre : refused s parent ⟨a0, a1, a2, a3, a4, a5, a6⟩ = if turnErr s parent a0 a1 ≠ 0 then turnErr s parent a0 a1
      else if a3 ≠ countAt s.all a1 parent.toNat ∧ a3 ≠ countAt s.all a1 parent.toNat + 1 then 6
      else if poolOk s a4 = false ∨ poolOk s a5 = false then 7
      else if a6 < 0 ∨ (stakesAt s.par s.all parent.toNat).getD a4.toNat 0 < a6 then 7
      else if a2 ≠ proofAt s parent.toNat a0 a1 then 8
      else if leadsAt s parent.toNat a0 a1 = false then 9
      else if 0 < there s parent ⟨a0, a1, a2, a3, a4, a5, a6⟩ then 10
      else 0 := rfl
  unfold hdrV
  go_enter Tryz.func48, Tryz.ntmps48
  go_wp2_with fail
  generalize hA : w.alloc (.cells #[.int .i64 a0, .int .i64 a1, .int .i64 a2, .int .i64 a3, .int .i64 a4, .int .i64 a5, .int .i64 a6] 40) = A at *
  obtain ⟨hsA, hbA, hAR⟩ := below_zero hA
  clear hA
  have hrA := hr.keep hbA
  clear hr
  refine (turn_any x gs cs ga ca gk ck s parent a0 a1 _ hrA hv).mono ?_
  rintro e w1 ⟨rfl, hb1⟩
  have hr1 := hrA.keep hb1
  have hs1 := hb1.size
  clear hrA
  have hA1 : w1.heap[w.heap.size]? = some (.cells #[.int .i64 a0, .int .i64 a1, .int .i64 a2, .int .i64 a3, .int .i64 a4, .int .i64 a5, .int .i64 a6] 40 (0, 0)) := by
    rw [hb1.block _ (by omega)]; exact hAR
  have hbw1 := hbA.trans (hb1.mono (by omega))
  by_cases het : turnErr s parent a0 a1 = 0
  · obtain ⟨k, pN, rfl, rfl, hk, hm, hs, hp⟩ := turn_ok hv het
    have hkl := inv_lt hv hk
    rw [if_neg (by simpa using het)] at hre
    rw [Int.toNat_natCast] at hre
    have htv : turnV s (k : Int) a0 (pN : Int) = .agg #[.int .i64 (nonceAt s k a0), .int .i64 (proofAt s k a0 pN), .int .i64 (stakeAt s k a0 pN), .bool (leadsAt s k a0 pN)] := by unfold turnV; rw [if_pos het, Int.toNat_natCast]
    rw [htv, het]
    clear htv het hs hm
    generalize nonceAt s k a0 = NC at *
    generalize proofAt s k a0 pN = PF at *
    generalize stakeAt s k a0 pN = SK at *
    generalize leadsAt s k a0 pN = LL at *
    have p0 := cell_of_cells (j := 0) hA1 rfl
    have p1 := cell_of_cells (j := 1) hA1 rfl
    have p2 := cell_of_cells (j := 2) hA1 rfl
    have p3 := cell_of_cells (j := 3) hA1 rfl
    have p4 := cell_of_cells (j := 4) hA1 rfl
    have p5 := cell_of_cells (j := 5) hA1 rfl
    have p6 := cell_of_cells (j := 6) hA1 rfl
    have hws1 : w.heap.size < w1.heap.size := by omega
    clear hb1 hAR
    go_wp2_with fail
    generalize hB : w1.alloc (.cells #[.int .i64 NC, .int .i64 PF, .int .i64 SK, .bool LL] 77) = B at *
    obtain ⟨hsB, hbB, hBR⟩ := below_zero hB
    clear hB p0 p1 p2 p3 p4 p5 p6
    have hrB := hr1.keep hbB
    clear hr1
    refine (counts_any x gs cs ga ca gk ck s k (pN : Int) _ hrB hi hkl).mono ?_
    rintro e w2 ⟨rfl, hb2⟩
    have hr2 := hrB.keep hb2
    have hs2 := hb2.size
    have hcb := count_bounds hv (pN : Int) k hkl
    have hhs := height_small hv hkl
    have hA2 : w2.heap[w.heap.size]? = some (.cells #[.int .i64 a0, .int .i64 (pN : Int), .int .i64 a2, .int .i64 a3, .int .i64 a4, .int .i64 a5, .int .i64 a6] 40 (0, 0)) := by
      rw [hb2.block _ (by omega), hbB.block _ hws1]; exact hA1
    have hB2 : w2.heap[w1.heap.size]? = some (.cells #[.int .i64 NC, .int .i64 PF, .int .i64 SK, .bool LL] 77 (0, 0)) := by
      rw [hb2.block _ (by omega)]; exact hBR
    have hbw2 := hbw1.trans ((hbB.mono (by omega)).trans (hb2.mono (by omega)))
    clear hrB hA1 hb2 hbB hBR hbw1
    have p0 := cell_of_cells (j := 0) hA2 rfl
    have p1 := cell_of_cells (j := 1) hA2 rfl
    have p2 := cell_of_cells (j := 2) hA2 rfl
    have p3 := cell_of_cells (j := 3) hA2 rfl
    have p4 := cell_of_cells (j := 4) hA2 rfl
    have p5 := cell_of_cells (j := 5) hA2 rfl
    have p6 := cell_of_cells (j := 6) hA2 rfl
    generalize countAt s.all (pN : Int) k = cn at *
    have hq1 : 0 ≤ cn := hcb.1
    have hq2 : cn ≤ 10001 := by omega
    by_cases y1 : a3 ≠ cn ∧ a3 ≠ cn + 1
    · rw [if_pos y1] at hre
      have HRE := Go.Proofs.YtpaakikgfojplaaGreat.hid hre
      have z1 : (a3 != cn) = true := by simpa using y1.1
      have z2 : (a3 != cn + 1) = true := by simpa using y1.2
      clear hre hr2 y1
      go_wp2
      go_ret
      exact ⟨by rw [HRE.out]; rfl, hbw2⟩
    · rw [if_neg y1] at hre
      have key : ∀ (K : Prop), ((a3 != cn) = false → K) → ((a3 != cn) = true → (a3 != cn + 1) = false → K) → K := by
        intro K h1 h2
        by_cases e1 : a3 = cn
        · exact h1 (by simp [e1])
        · exact h2 (by simpa using e1) (by simp; omega)
      refine key _ (fun z1 => ?_) (fun z1 z2 => ?_)
      all_goals
        clear key y1
        go_wp2_with fail
        refine (pool_any x gs cs ga ca gk ck s a4 _ hr2).mono ?_
        rintro e w3 ⟨rfl, rfl⟩
        go_wp2_with fail
        refine (pool_any x gs cs ga ca gk ck s a5 _ hr2).mono ?_
        rintro e w3 ⟨rfl, rfl⟩
        by_cases y2 : poolOk s a4 = false ∨ poolOk s a5 = false
        · rw [if_pos y2] at hre
          have HRE := Go.Proofs.YtpaakikgfojplaaGreat.hid hre
          clear hre hr2
          generalize poolOk s a4 = u4 at *
          generalize poolOk s a5 = u5 at *
          cases u4
          · clear y2
            go_wp2
            go_ret
            exact ⟨by rw [HRE.out]; rfl, hbw2⟩
          · have e5 : u5 = false := by simpa using y2
            subst e5
            clear y2
            go_wp2
            go_ret
            exact ⟨by rw [HRE.out]; rfl, hbw2⟩
        · rw [if_neg y2] at hre
          have e4 : poolOk s a4 = true := by cases e : poolOk s a4 <;> simp_all
          have e5 : poolOk s a5 = true := by cases e : poolOk s a5 <;> simp_all
          rw [e4, e5]
          simp [poolOk] at e4
          obtain ⟨fN, rfl⟩ := Int.eq_ofNat_of_zero_le e4.1
          clear y2 e5
          go_wp2_with fail
          refine (stakes_any x gs cs ga ca gk ck s k _ hr2 hv hkl).mono ?_
          rintro e w3 ⟨g, rfl, ho, hb3⟩
          have hr3 := hr2.keep hb3
          have hs3 := hb3.size
          have hlen := (stakes_ok hv k hkl).len
          have cf := (ho.cellAt fN (by omega)).trans (icells_at _ fN (by omega))
          have hA3 : w3.heap[w.heap.size]? = some (.cells #[.int .i64 a0, .int .i64 (pN : Int), .int .i64 a2, .int .i64 a3, .int .i64 (fN : Int), .int .i64 a5, .int .i64 a6] 40 (0, 0)) := by
            rw [hb3.block _ (by omega)]; exact hA2
          have hB3 : w3.heap[w1.heap.size]? = some (.cells #[.int .i64 NC, .int .i64 PF, .int .i64 SK, .bool LL] 77 (0, 0)) := by
            rw [hb3.block _ (by omega)]; exact hB2
          have hbw3 := hbw2.trans (hb3.mono (by omega))
          clear hr2 hA2 hB2 hb3 hbw2 ho hlen p0 p1 p2 p3 p4 p5 p6
          have p0 := cell_of_cells (j := 0) hA3 rfl
          have p1 := cell_of_cells (j := 1) hA3 rfl
          have p2 := cell_of_cells (j := 2) hA3 rfl
          have p3 := cell_of_cells (j := 3) hA3 rfl
          have p4 := cell_of_cells (j := 4) hA3 rfl
          have p5 := cell_of_cells (j := 5) hA3 rfl
          have p6 := cell_of_cells (j := 6) hA3 rfl
          have t0 := cell_of_cells (j := 0) hB3 rfl
          have t1 := cell_of_cells (j := 1) hB3 rfl
          have t2 := cell_of_cells (j := 2) hB3 rfl
          have t3 := cell_of_cells (j := 3) hB3 rfl
          rw [Int.toNat_natCast] at hre
          generalize (stakesAt s.par s.all k).getD fN 0 = cv at *
          have j1 : (0 : Int) ≤ (fN : Int) := by omega
          have j2 : (fN : Int) < ((s.par.stakes.length : Nat) : Int) := by omega
          by_cases y3 : a6 < 0
          · rw [if_pos (Or.inl y3)] at hre
            have HRE := Go.Proofs.YtpaakikgfojplaaGreat.hid hre
            clear hre hr3
            have y3' : decide (a6 < 0) = true := by simpa using y3
            go_wp2
            go_quiet (fail)
            go_wp2
            go_ret
            exact ⟨by rw [HRE.out]; rfl, by repeat (first | exact hbw3 | refine drawB ?_ _)⟩
          · have y3' : decide (a6 < 0) = false := by simpa using y3
            by_cases y4 : cv < a6
            · rw [if_pos (Or.inr y4)] at hre
              have HRE := Go.Proofs.YtpaakikgfojplaaGreat.hid hre
              clear hre hr3
              go_wp2
              go_quiet (fail)
              go_wp2
              go_ret
              exact ⟨by rw [HRE.out]; rfl, by repeat (first | exact hbw3 | refine drawB ?_ _)⟩
            · rw [if_neg (by omega)] at hre
              by_cases y5 : a2 ≠ PF
              · rw [if_pos y5] at hre
                have HRE := Go.Proofs.YtpaakikgfojplaaGreat.hid hre
                have y5' : (a2 != PF) = true := by simpa using y5
                clear hre hr3 y5
                go_wp2
                go_quiet (fail)
                go_wp2
                go_ret
                exact ⟨by rw [HRE.out]; rfl, by repeat (first | exact hbw3 | refine drawB ?_ _)⟩
              · rw [if_neg y5] at hre
                have y5' : (a2 != PF) = false := by simpa using y5
                cases LL
                · rw [if_pos rfl] at hre
                  have HRE := Go.Proofs.YtpaakikgfojplaaGreat.hid hre
                  clear hre hr3 y5
                  go_wp2
                  go_quiet (fail)
                  go_wp2
                  go_ret
                  exact ⟨by rw [HRE.out]; rfl, by repeat (first | exact hbw3 | refine drawB ?_ _)⟩
                · rw [if_neg (by simp)] at hre
                  clear y5
                  go_wp2
                  go_quiet (fail)
                  go_wp2_with fail
                  have hr4 := hr3.keep (drawB (Below.refl w3.heap.size w3) nq)
                  refine (there_any x gs cs ga ca gk ck s (k : Int) ⟨a0, (pN : Int), a2, a3, (fN : Int), a5, a6⟩ _ hr4 hi).mono ?_
                  rintro e w5 ⟨rfl, hb5⟩
                  have HB5 := Go.Proofs.YtpaakikgfojplaaGreat.hid ((drawB hbw3 nq).trans (hb5.mono (by have := hbw3.size; exact this)))
                  clear hr3 hr4 hb5
                  generalize there s (k : Int) ⟨a0, (pN : Int), a2, a3, (fN : Int), a5, a6⟩ = th at *
                  by_cases y6 : 0 < th
                  · rw [if_pos y6] at hre
                    have HRE := Go.Proofs.YtpaakikgfojplaaGreat.hid hre
                    clear hre
                    go_wp2
                    go_ret
                    exact ⟨by rw [HRE.out]; rfl, HB5.out⟩
                  · rw [if_neg y6] at hre
                    have HRE := Go.Proofs.YtpaakikgfojplaaGreat.hid hre
                    clear hre
                    go_wp2
                    go_ret
                    exact ⟨by rw [HRE.out]; rfl, HB5.out⟩
  · rw [if_pos (by simpa using het)] at hre
    have HRE := Go.Proofs.YtpaakikgfojplaaGreat.hid hre
    have hb : (turnErr s parent a0 a1 != 0) = true := by simpa using het
    have htv : turnV s parent a0 a1 = .agg #[.int .i64 0, .int .i64 0, .int .i64 0, .bool false] := by unfold turnV; rw [if_neg het]
    rw [htv]
    have HB := Go.Proofs.YtpaakikgfojplaaGreat.hid (hbw1.alloc (by omega) (.cells #[.int .i64 0, .int .i64 0, .int .i64 0, .bool false] 77))
    clear hre htv hr1 hb1
    generalize turnErr s parent a0 a1 = te at *
    go_wp2
    go_ret
    exact ⟨by rw [HRE.out]; rfl, HB.out⟩
end Go.Proofs.YtpaakikgfojplaaGreat

