import Derived.Test.YtpaakikgfojplabCM21
import Derived.Test.YtpaakikgfojplabCM23
/-
  THE WALK of the law Rooted (the top promise), under what the program's chain owes.
-/
namespace Go.Proofs.Ytpaakikgfojplab
open Go.RowKit Num Bk
set_option linter.unusedVariables false

theorem Mid.apart {Rep : World → Nat → (Nat → Prop) → St → Prop} {w wr : World} {b xc gs cs ga ca g cap : Nat} {F : Nat → Prop} {s : St} {l : List Nat} (h : Mid Rep w wr b xc gs cs ga ca F s g cap l) : g ≠ b ∧ g ≠ ga := by
  obtain ⟨c1, h1, _⟩ := row_block h.own
  obtain ⟨c2, h2, _⟩ := row_block h.new.1.book.all
  exact ⟨block_ne h1 h.new.1.book.blk (by decide), block_ne h1 h2 (by decide)⟩

theorem Mid.went {Rep : World → Nat → (Nat → Prop) → St → Prop} {w wr w' : World} {b xc gs cs ga ca g cap : Nat} {F : Nat → Prop} {s s' : St} {l : List Nat} (h : Mid Rep w wr b xc gs cs ga ca F s g cap l) (hW : Went Rep wr w' b xc gs cs ga F s') : ∃ ga' ca' F', Mid Rep w w' b xc gs cs ga' ca' F' s' g cap l := by
  have hap := h.apart
  have hgl := own_lt h.own
  obtain ⟨hB, hb, hF, h1, h2, h3⟩ := h.new
  obtain ⟨F', ga', ca', hB', hfr, hn, hg⟩ := hW
  have hs := hb.size
  refine ⟨ga', ca', F', ⟨hB', below_fr hb hfr (fun i hi => ?_), fun k hk => ?_, h1, h2, ?_⟩, row_fr h.own hfr ?_, ?_⟩
  · rcases hi with hi | hi | hi
    · exact hF i hi
    · omega
    · omega
  · rcases hn k hk with h | h
    · exact hF k h
    · omega
  · rcases hg with h | h <;> omega
  · intro k e
    simp [Value.ownBlock] at e
    subst e
    rintro (h' | h' | h')
    · exact h.out h'
    · exact hap.1 h'
    · exact hap.2 h'
  · intro hk
    rcases hn g hk with h' | h'
    · exact h.out h'
    · omega

theorem last_tip {s : St} (hi : Inv s) : 1 ≤ (line s.all (tip s)).length ∧ (line s.all (tip s)).getD ((line s.all (tip s)).length - 1) 0 = tip s := by
  have hl := line_length hi.tree (tip s)
  refine ⟨by omega, ?_⟩
  obtain ⟨_, h2, h3⟩ := line_take hi.tree (tip s) (height s.all (tip s)) (Nat.le_refl _)
  rw [show (line s.all (tip s)).length - 1 = height s.all (tip s) by omega]
  exact line_unique hi.tree h2 (line_self hi.tree _) h3

set_option maxHeartbeats 12800000 in
set_option maxRecDepth 1000000 in
theorem rooted_any {Rep : World → Nat → (Nat → Prop) → St → Prop} (P : PSpec Rep) (a : Option Addr) (cap : Nat) (z : List Int) (a2 : Option Addr) (cap2 : Nat) (l : List Stp) (w : World) (hz : RawAt w a z) (hl : StepsAt w a2 l) (hlm : l.length ≤ maxLen) :
    Calls Try.prog 3 #[.slice a z.length cap, .slice a2 l.length cap2] w fun e w' => e = .returned (.bool true) ∧ Below w.heap.size w w' := by
  have hlm' : l.length ≤ 9223372036854775807 := by unfold maxLen at hlm; omega
  clear hlm
  go_enter Try.func3, Try.ntmps3
  go_wp2_with fail
  refine (opened_any P a cap z _ hz).mono ?_
  rintro e w1 ⟨b, xc, gs, cs, ga0, ca0, F0, rfl, hN0⟩
  have hv0 := hN0.1.inv
  generalize hS : Bk.start (parOf z) = s0 at *
  have HL := Go.Proofs.Ytpaakikgfojplab.hid hl
  clear hz hl
  have c0 := cell_of_cells (j := 0) hN0.1.book.blk rfl
  go_wp2_with fail
  refine (P.path w1 xc F0 s0 hN0.1.rep hv0).mono ?_
  rintro e w2 ⟨g2, k2, rfl, ho2, hb2⟩
  have hM2 : Mid Rep w w2 b xc gs cs ga0 ca0 F0 s0 g2 k2 (line s0.all (tip s0)) := ⟨hN0.below P hb2, row_weak ho2 (Nat.zero_le _), fun h => by
    have h1 := P.lt hN0.1.rep _ h
    have h2 := (ho2.lt g2 (by simp [Value.ownBlock])).1
    omega⟩
  clear c0 hN0 ho2 hb2
  have c0 := cell_of_cells (j := 0) hM2.new.1.book.blk rfl
  go_wp2_with fail
  refine (P.final w2 xc F0 s0 hM2.new.1.rep hv0).mono ?_
  rintro e w3 ⟨rfl, hb3⟩
  have HM3 := Go.Proofs.Ytpaakikgfojplab.hid (hM2.below P hb3)
  clear c0 hM2 hb3 hv0
  generalize hlen : l.length = n at *
  go_wp2
  go_loopw [6, 7, 8] (fun u v i wr => ∃ (k ga ca gw cw : Nat) (F : Nat → Prop) (s : St) (A : List Nat) (f : Nat), k ≤ n ∧ i = .int .i64 k ∧ u = .slice (some ⟨gw, 0, none⟩) A.length cw ∧ v = .int .i64 (f : Int) ∧ Hid (s = playS s0 (l.take k) ∧ A = line s.all (tip s) ∧ f = fin s) ∧ Hid (Mid Rep w wr b xc gs cs ga ca F s gw cw A))
    (fun _ _ i _ => n - (intOf i).toNat)
  case atStart => exact ⟨0, ga0, ca0, g2, k2, F0, s0, line s0.all (tip s0), fin s0, Nat.zero_le _, rfl, rfl, rfl, ⟨rfl, rfl, rfl⟩, HM3⟩
  case round =>
    clear HM3
    obtain ⟨k, ga, ca, gw, cw, F, s, A, f, hk, rfl, rfl, rfl, HE, HM⟩ := hrel
    have hv := HM.out.new.1.inv
    by_cases hlt : k < n
    · have hlt' : (k : Int) < (n : Int) := by omega
      obtain ⟨o, ho⟩ : ∃ o, l[k]? = some o := ⟨l[k]'(by omega), List.getElem?_eq_getElem (by omega)⟩
      obtain ⟨x, rfl, q0, q1, q2, q3, hI⟩ := (HL.out.keep HM.out.new.2.1) k o ho
      have HST := Go.Proofs.Ytpaakikgfojplab.hid (playS_take s0 l k o ho)
      rw [← HE.out.1] at HST
      clear ho
      have c8 := cell_of_cells (j := 8) HM.out.new.1.book.blk rfl
      have hsm := hv.wk.small
      go_wp2_with fail
      refine (step_any P b xc gs cs ga ca s F o _ HM.out.new.1 hI).mono ?_
      rintro e w2 ⟨rfl, hW⟩
      obtain ⟨ga', ca', F', hM2⟩ := HM.out.went hW
      have hg := grow_step hv o
      clear hW HM q0 q1 q2 q3 c8
      generalize stepS s o = s2 at *
      have hv2 := hg.inv
      have hsm2 := hv2.wk.small
      have hlA := line_length hv.tree (tip s)
      have hlB := line_length hv2.tree (tip s2)
      have hhA := height_small hv (inv_lt hv hv.tipin)
      have hhB := height_small hv2 (inv_lt hv2 hv2.tipin)
      have hAl : A.length ≤ 20000 := by rw [HE.out.2.1]; omega
      have hlt2 := last_tip hv2
      have HX : Hid (∀ m, Same A (line s2.all (tip s2)) m → (A.length : Int) - m ≤ s2.par.depth) := by
        intro m h
        rw [HE.out.2.1] at h ⊢
        rw [hg.par]
        exact same_deep hv hg h
      have HY : Hid (∀ m, Same A (line s2.all (tip s2)) m → (m = A.length ∧ m = (line s2.all (tip s2)).length) ∨ (tip s2 = s.all.length ∧ s2.all.length = s.all.length + 1 ∧ (line s2.all (tip s2)).length = A.length + 1)) := by
        intro m h
        rcases hg.tip with e | e
        · left
          exact same_line h (by rw [HE.out.2.1]; exact e)
        · right
          rw [HE.out.2.1]; exact e
      have HF1 : Hid (has (line s2.all (tip s2)) (f : Int) = true) := by
        show _ = _
        rw [has_nat, HE.out.2.2]; exact hg.fin
      have HF2 : Hid (has (line s2.all (tip s2)) (fin s2 : Int) = true) := by
        show _ = _
        rw [has_nat]; exact fin_tip hv2
      have hBl : (line s2.all (tip s2)).length ≤ 20000 := by omega
      have hd1 := hv2.par.d1
      have hd2 := hv2.par.d2
      clear hlA hlB hhA hhB hg HE
      have c0 := cell_of_cells (j := 0) hM2.new.1.book.blk rfl
      go_wp2_with fail
      refine (P.path w2 xc F' s2 hM2.new.1.rep hv2).mono ?_
      rintro e w3 ⟨g3, k3, rfl, ho3, hb3⟩
      have hg3 := (ho3.lt g3 (by simp [Value.ownBlock])).1
      have hnF : ¬ F' g3 := fun h => by have := P.lt hM2.new.1.rep _ h; omega
      have hM3 := hM2.below P hb3
      clear c0 hM2 hb3
      have c0 := cell_of_cells (j := 0) hM3.new.1.book.blk rfl
      go_wp2_with fail
      refine (P.final w3 xc F' s2 hM3.new.1.rep hv2).mono ?_
      rintro e w4 ⟨rfl, hb4⟩
      have hM4 := hM3.below P hb4
      have ho4 := row_keep ho3 hb4 (Nat.le_refl _)
      clear c0 hM3 hb4 ho3
      have c0 := cell_of_cells (j := 0) hM4.new.1.book.blk rfl
      go_wp2_with fail
      refine (P.tip w4 xc F' s2 hM4.new.1.rep hv2).mono ?_
      rintro e w5 ⟨rfl, hb5⟩
      have hM5 := hM4.below P hb5
      have ho5 := row_keep ho4 hb5 (Nat.le_refl _)
      have hM6 : Mid Rep w w5 b xc gs cs ga' ca' F' s2 g3 k3 (line s2.all (tip s2)) := ⟨hM5.new, row_weak ho5 (Nat.zero_le _), hnF⟩
      have HOA := Go.Proofs.Ytpaakikgfojplab.hid hM5.own
      have HM6 := Go.Proofs.Ytpaakikgfojplab.hid hM6
      clear c0 hM4 hb5 ho4 hM5 ho5 hM6
      generalize hLB : line s2.all (tip s2) = B at *
      generalize hTB : tip s2 = tp at *
      generalize hFB : fin s2 = fn at *
      have HEB : Hid (s2 = playS s0 (l.take (k + 1)) ∧ B = line s2.all (tip s2) ∧ fn = fin s2) := ⟨HST.out.symm, by rw [hTB, hLB], hFB.symm⟩
      clear HST
      obtain ⟨hBp, hBt⟩ := hlt2
      obtain ⟨mB, hmB⟩ : ∃ mB, B.length = mB + 1 := ⟨B.length - 1, by omega⟩
      have HBT : Hid (B.getD mB 0 = tp) := by
        show _ = _
        rw [← hBt, hmB, Nat.add_sub_cancel]
      have HMB := Go.Proofs.Ytpaakikgfojplab.hid hmB
      clear hBt hmB hv hv2
      go_wp2
      go_loopw [14] (fun i wi => ∃ m : Nat, m ≤ A.length ∧ m ≤ B.length ∧ i = .int .i64 m ∧ Hid (A.take m = B.take m) ∧ Below w5.heap.size w5 wi) (fun i _ => A.length - (intOf i).toNat)
      case atStart => exact ⟨0, Nat.zero_le _, Nat.zero_le _, rfl, rfl, Below.refl _ _⟩
      case round =>
        obtain ⟨m, hmA, hmB', rfl, HTK, hbel⟩ := hrel
        have hMi := HM6.out.below P hbel
        have hoA := row_keep HOA.out hbel (Nat.le_refl _)
        have HMi := Go.Proofs.Ytpaakikgfojplab.hid (fun n => hMi.below P (drawB (Below.refl _ _) n))
        have i1 : (0 : Int) ≤ (m : Int) := by omega
        by_cases h1 : m < A.length
        · have h1' : (m : Int) < ((A.length : Nat) : Int) := by omega
          by_cases h2 : m < B.length
          · have h2' : (m : Int) < ((B.length : Nat) : Int) := by omega
            have cAA := (hoA.cellAt m (by omega)).trans (dcells_at A m h1)
            have cBB := (hMi.own.cellAt m (by omega)).trans (dcells_at B m h2)
            by_cases h3 : A.getD m 0 = B.getD m 0
            · have h3b : (((A.getD m 0 : Nat) : Int) == ((B.getD m 0 : Nat) : Int)) = true := by rw [h3]; exact beq_self_eq_true _
              have HT2 : Hid (A.take (m + 1) = B.take (m + 1)) := by
                unfold Hid
                rw [take_succ_getD A m h1, take_succ_getD B m h2, HTK.out, h3]
              clear HTK h3
              generalize A.getD m 0 = da at *
              generalize B.getD m 0 = db at *
              clear hoA hMi HMi
              go_wp2
              go_quiet (fail)
              go_wp2
              go_roundw
              case rel => exact ⟨m + 1, by omega, by omega, by go_num, HT2, drawB hbel _⟩
              case measure => simp [intOf]; omega
            · have h3b : (((A.getD m 0 : Nat) : Int) == ((B.getD m 0 : Nat) : Int)) = false := by
                rw [beq_eq_false_iff_ne]; omega
              have hsame : Same A B m := ⟨hmA, hmB', HTK.out, Or.inr (Or.inr h3)⟩
              clear HTK h3
              generalize A.getD m 0 = da at *
              generalize B.getD m 0 = db at *
              have hdp := HX.out m hsame
              have HYM := Go.Proofs.Ytpaakikgfojplab.hid (HY.out m hsame)
              have hF1 := HF1.out
              have hF2 := HF2.out
              have HCL : Hid (∀ n, (wr.drewN n).cell? ⟨g3, mB, none⟩ = some (.int .i64 (tp : Int))) := fun n => by
                have h := ((HMi.out n).own.cellAt mB (by have := HMB.out; omega)).trans (dcells_at B mB (by have := HMB.out; omega))
                rw [HBT.out] at h
                exact h
              have HOW := Go.Proofs.Ytpaakikgfojplab.hid (fun n => (HMi.out n).own)
              have HBK := Go.Proofs.Ytpaakikgfojplab.hid (fun n => (HMi.out n).new.1.book.blk)
              clear hsame hoA hMi HX HY HF1 HF2
              go_wp2
              go_quiet (fail)
              have cl := HCL.out nq
              have c1 := cell_of_cells (j := 1) (HBK.out nq) rfl
              have c8 := cell_of_cells (j := 8) (HBK.out nq) rfl
              go_wp2_with fail
              refine (bhas_any 0 g3 k3 B (f : Int) _ (HOW.out _) (by omega)).mono ?_
              rintro e wx ⟨rfl, rfl⟩
              rw [hF1]
              go_wp2_with fail
              refine (bhas_any 0 g3 k3 B (fn : Int) _ (HOW.out _) (by omega)).mono ?_
              rintro e wx ⟨rfl, rfl⟩
              rw [hF2]
              clear hF1 hF2
              rw [HMB.out]
              have hmm := HMB.out
              have hmb : mB ≤ 20000 := by omega
              have imb : (0 : Int) ≤ (mB : Int) := by omega
              by_cases hfull : m = A.length ∧ m = B.length
              · exact absurd hfull (by omega)
              · obtain ⟨e1, e2, e3⟩ : tp = s.all.length ∧ s2.all.length = s.all.length + 1 ∧ B.length = A.length + 1 := HYM.out.resolve_left hfull
                have f0 : ((mB : Int) + 1 == 0) = false := by rw [beq_eq_false_iff_ne]; omega
                have f1 : ((tp : Int) != ((s.all.length : Nat) : Int)) = false := by simp; omega
                have f2 : (((s2.all.length : Nat) : Int) != ((s.all.length : Nat) : Int) + 1) = false := by simp; omega
                have f3 : ((mB : Int) + 1 != ((A.length : Nat) : Int) + 1) = false := by simp; omega
                have f4 : ((m : Int) == (mB : Int) + 1) = false := by rw [beq_eq_false_iff_ne]; omega
                have f5 : ((m : Int) == ((A.length : Nat) : Int)) = false := by rw [beq_eq_false_iff_ne]; omega
                clear HYM hmm
                go_wp2
                go_roundw
                case rel => exact ⟨k + 1, ga', ca', g3, k3, F', s2, B, fn, by omega, by go_num, by rw [HMB.out], rfl, HEB, HMi.out _⟩
                case measure => simp [intOf]; omega
          · have h2' : decide ((m : Int) < ((B.length : Nat) : Int)) = false := by simp; omega
            have hsame : Same A B m := ⟨hmA, hmB', HTK.out, Or.inr (Or.inl (by omega))⟩
            clear HTK
            have hdp := HX.out m hsame
            have HYM := Go.Proofs.Ytpaakikgfojplab.hid (HY.out m hsame)
            have hF1 := HF1.out
            have hF2 := HF2.out
            have HCL : Hid (∀ n, (wr.drewN n).cell? ⟨g3, mB, none⟩ = some (.int .i64 (tp : Int))) := fun n => by
              have h := ((HMi.out n).own.cellAt mB (by have := HMB.out; omega)).trans (dcells_at B mB (by have := HMB.out; omega))
              rw [HBT.out] at h
              exact h
            have HOW := Go.Proofs.Ytpaakikgfojplab.hid (fun n => (HMi.out n).own)
            have HBK := Go.Proofs.Ytpaakikgfojplab.hid (fun n => (HMi.out n).new.1.book.blk)
            clear hsame hoA hMi HX HY HF1 HF2
            go_wp2
            go_quiet (fail)
            have cl := HCL.out nq
            have c1 := cell_of_cells (j := 1) (HBK.out nq) rfl
            have c8 := cell_of_cells (j := 8) (HBK.out nq) rfl
            go_wp2_with fail
            refine (bhas_any 0 g3 k3 B (f : Int) _ (HOW.out _) (by omega)).mono ?_
            rintro e wx ⟨rfl, rfl⟩
            rw [hF1]
            go_wp2_with fail
            refine (bhas_any 0 g3 k3 B (fn : Int) _ (HOW.out _) (by omega)).mono ?_
            rintro e wx ⟨rfl, rfl⟩
            rw [hF2]
            clear hF1 hF2
            rw [HMB.out]
            have hmm := HMB.out
            have hmb : mB ≤ 20000 := by omega
            have imb : (0 : Int) ≤ (mB : Int) := by omega
            by_cases hfull : m = A.length ∧ m = B.length
            · obtain ⟨e1, e2⟩ := hfull
              have f0 : ((mB : Int) + 1 == 0) = false := by rw [beq_eq_false_iff_ne]; omega
              have f1 : ((m : Int) == ((A.length : Nat) : Int)) = true := by simp; omega
              have f2 : ((m : Int) == (mB : Int) + 1) = true := by simp; omega
              clear HYM e1 e2 hmm
              go_wp2
              go_roundw
              case rel => exact ⟨k + 1, ga', ca', g3, k3, F', s2, B, fn, by omega, by go_num, by rw [HMB.out], rfl, HEB, HMi.out _⟩
              case measure => simp [intOf]; omega
            · obtain ⟨e1, e2, e3⟩ : tp = s.all.length ∧ s2.all.length = s.all.length + 1 ∧ B.length = A.length + 1 := HYM.out.resolve_left hfull
              exfalso; omega
        · have h1' : decide ((m : Int) < ((A.length : Nat) : Int)) = false := by simp; omega
          have hsame : Same A B m := ⟨hmA, hmB', HTK.out, Or.inl (by omega)⟩
          clear HTK
          have hdp := HX.out m hsame
          have HYM := Go.Proofs.Ytpaakikgfojplab.hid (HY.out m hsame)
          have hF1 := HF1.out
          have hF2 := HF2.out
          have HCL : Hid (∀ n, (wr.drewN n).cell? ⟨g3, mB, none⟩ = some (.int .i64 (tp : Int))) := fun n => by
            have h := ((HMi.out n).own.cellAt mB (by have := HMB.out; omega)).trans (dcells_at B mB (by have := HMB.out; omega))
            rw [HBT.out] at h
            exact h
          have HOW := Go.Proofs.Ytpaakikgfojplab.hid (fun n => (HMi.out n).own)
          have HBK := Go.Proofs.Ytpaakikgfojplab.hid (fun n => (HMi.out n).new.1.book.blk)
          clear hsame hoA hMi HX HY HF1 HF2
          go_wp2
          go_quiet (fail)
          have cl := HCL.out nq
          have c1 := cell_of_cells (j := 1) (HBK.out nq) rfl
          have c8 := cell_of_cells (j := 8) (HBK.out nq) rfl
          go_wp2_with fail
          refine (bhas_any 0 g3 k3 B (f : Int) _ (HOW.out _) (by omega)).mono ?_
          rintro e wx ⟨rfl, rfl⟩
          rw [hF1]
          go_wp2_with fail
          refine (bhas_any 0 g3 k3 B (fn : Int) _ (HOW.out _) (by omega)).mono ?_
          rintro e wx ⟨rfl, rfl⟩
          rw [hF2]
          clear hF1 hF2
          rw [HMB.out]
          have hmm := HMB.out
          have hmb : mB ≤ 20000 := by omega
          have imb : (0 : Int) ≤ (mB : Int) := by omega
          by_cases hfull : m = A.length ∧ m = B.length
          · obtain ⟨e1, e2⟩ := hfull
            have f0 : ((mB : Int) + 1 == 0) = false := by rw [beq_eq_false_iff_ne]; omega
            have f1 : ((m : Int) == ((A.length : Nat) : Int)) = true := by simp; omega
            have f2 : ((m : Int) == (mB : Int) + 1) = true := by simp; omega
            clear HYM e1 e2 hmm
            go_wp2
            go_roundw
            case rel => exact ⟨k + 1, ga', ca', g3, k3, F', s2, B, fn, by omega, by go_num, by rw [HMB.out], rfl, HEB, HMi.out _⟩
            case measure => simp [intOf]; omega
          · obtain ⟨e1, e2, e3⟩ : tp = s.all.length ∧ s2.all.length = s.all.length + 1 ∧ B.length = A.length + 1 := HYM.out.resolve_left hfull
            have f0 : ((mB : Int) + 1 == 0) = false := by rw [beq_eq_false_iff_ne]; omega
            have f1 : ((tp : Int) != ((s.all.length : Nat) : Int)) = false := by simp; omega
            have f2 : (((s2.all.length : Nat) : Int) != ((s.all.length : Nat) : Int) + 1) = false := by simp; omega
            have f3 : ((mB : Int) + 1 != ((A.length : Nat) : Int) + 1) = false := by simp; omega
            have f4 : ((m : Int) == (mB : Int) + 1) = false := by rw [beq_eq_false_iff_ne]; omega
            have f5 : ((m : Int) == ((A.length : Nat) : Int)) = true := by simp; omega
            clear HYM hmm
            go_wp2
            go_roundw
            case rel => exact ⟨k + 1, ga', ca', g3, k3, F', s2, B, fn, by omega, by go_num, by rw [HMB.out], rfl, HEB, HMi.out _⟩
            case measure => simp [intOf]; omega
    · have HFE := Go.Proofs.Ytpaakikgfojplab.hid HE.out.2.2
      go_wp2_with fail
      refine (bfinal_any b xc gs cs ga ca s _ HM.out.new.1.book hv).mono ?_
      rintro e w2 ⟨rfl, hb2⟩
      have HB2 := Go.Proofs.Ytpaakikgfojplab.hid (HM.out.new.2.1.trans (hb2.mono HM.out.new.2.1.size))
      rw [← HFE.out]
      clear HM HE HFE hb2
      go_wp2
      go_ret
      exact ⟨by simp, HB2.out⟩

end Go.Proofs.Ytpaakikgfojplab

