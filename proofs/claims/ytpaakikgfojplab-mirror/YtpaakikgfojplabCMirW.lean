import Derived.Test.YtpaakikgfojplabCM25
/-
  THE WALK of the law Mirror, under what the program's chain owes.
-/
namespace Go.Proofs.Ytpaakikgfojplab
open Go.RowKit Num Bk
set_option linter.unusedVariables false

theorem _root_.Go.Proofs.Ytpaakikgfojplab.Bk.Sim.all_in {s t : St} {L : List Nat} (h : Sim s t L) {n : Nat} (hn : s.all.length = n) (hl : L.length = n) (i : Nat) (hi : i < n) : i ∈ L := by
  refine Classical.byContradiction (fun hc => ?_)
  have hnd : (i :: L).Nodup := List.nodup_cons.2 ⟨hc, h.nodup⟩
  have h2 := nodup_le hnd (m := List.range s.all.length) (fun x hx => by
    rcases List.mem_cons.1 hx with hx | hx
    · subst hx; exact List.mem_range.2 (by omega)
    · exact List.mem_range.2 (h.lt x hx))
  simp at h2
  omega

theorem play_par (l : List Stp) : ∀ s : St, (playS s l).par = s.par := by
  induction l with
  | nil => intro s; rfl
  | cons o l ih =>
    intro s
    show (playS (stepS s o) l).par = s.par
    rw [ih]
    unfold stepS
    split
    · rfl
    · unfold offer
      split <;> rfl

set_option maxHeartbeats 12800000 in
set_option maxRecDepth 1000000 in
theorem mirror_any {Rep : World → Nat → (Nat → Prop) → St → Prop} (P : PSpec Rep) (a : Option Addr) (cap : Nat) (z : List Int) (a2 : Option Addr) (cap2 : Nat) (l : List Stp) (a3 : Option Addr) (cap3 : Nat) (z3 : List Int) (w : World) (hz : RawAt w a z) (hl : StepsAt w a2 l) (hlm : l.length ≤ maxLen) (hz3 : RawAt w a3 z3) :
    Calls Try.prog 5 #[.slice a z.length cap, .slice a2 l.length cap2, .slice a3 z3.length cap3] w fun e w' => e = .returned (.bool true) ∧ Below w.heap.size w w' := by
  obtain ⟨i0, hi0, hz0, hz1, hz2⟩ := info_parts Try.info3
  have HZ3 := Go.Proofs.Ytpaakikgfojplab.hid hz3
  have HZ := Go.Proofs.Ytpaakikgfojplab.hid hz
  clear hz3
  go_enter Try.func5, Try.ntmps5
  go_wp2_with fail
  refine (played_any P a cap z a2 cap2 l _ hz hl hlm).mono ?_
  rintro e w1 ⟨b, xc, gs, cs, ga, ca, F, rfl, hN⟩
  have HFP := Go.Proofs.Ytpaakikgfojplab.hid (fair_play (parOf z) (parOf_ok z) l).1
  have HPP : Hid ((playS (Bk.start (parOf z)) l).par = parOf z) := by unfold Hid; rw [play_par]; rfl
  clear hz hl hlm
  generalize playS (Bk.start (parOf z)) l = s at *
  have hv := hN.1.inv
  have hsm := hv.wk.small
  have hfl := fin_lt hv
  go_wp2_with fail
  refine (bfinal_any b xc gs cs ga ca s _ hN.1.book hv).mono ?_
  rintro e w2 ⟨rfl, hb2⟩
  have hN2 := hN.below P hb2
  clear hN hb2
  by_cases hf0 : 0 < fin s
  · have hf0' : (0 : Int) < ((fin s : Nat) : Int) := by omega
    go_wp2_with fail
    refine (tells_any P b xc gs cs ga ca s F _ hN2.1).mono ?_
    rintro e w3 ⟨rfl, hb3⟩
    have HR := Go.Proofs.Ytpaakikgfojplab.hid (hN2.2.1.trans (hb3.mono hN2.2.1.size))
    go_wp2
    go_ret
    exact ⟨rfl, HR.out⟩
  · have hz0' : fin s = 0 := by omega
    have HF0 := Go.Proofs.Ytpaakikgfojplab.hid hz0'
    have hf0' : ¬ (0 : Int) < ((fin s : Nat) : Int) := by omega
    go_wp2_with fail
    refine (opened_any P a cap z _ (HZ.out.keep hN2.2.1)).mono ?_
    rintro e w3 ⟨d, xd, gs2, cs2, ga2, ca2, G, rfl, hD⟩
    have HT3 := Go.Proofs.Ytpaakikgfojplab.hid (two_of P hN2 hD)
    have HS3 : Hid (Sim s (Bk.start (parOf z)) [0]) := sim_start hv _ hD.1.inv (by rw [HPP.out]; rfl) rfl
    clear hN2 hD HZ HPP
    generalize Bk.start (parOf z) = t0 at *
    have c8 := cell_of_cells (j := 8) HT3.out.new.1.book.blk rfl
    have hln := hv.len
    generalize hnn : s.all.length = n at *
    go_wp2_with (at_make; refine wpList_make_full _ rfl (.tmp 41) (.tmp 41) 22 rfl w3.heap.size 3 i0 (.int .i64 0) 1 Try.underlying22 hi0 hz0 hz1 _ _ _ _ n rfl rfl rfl rfl (by rw [hz2]; omega) (by unfold maxLen; omega) (Nat.le_refl _) ?_)
    intro w4 hown4 hgrow
    have hb4 : Below w3.heap.size w3 w4 := (Below.refl _ _).grown hgrow (Nat.le_refl _) (fun k h => by cases h)
    have HX4 : Hid (TwoL Rep w w4 b xc gs cs ga ca F s d xd G t0 w3.heap.size n (toAt [0] n)) := by
      refine ⟨HT3.out.below P hb4, ?_, fun h => ?_, fun h => ?_⟩
      · rw [toAt_len, toAt_start]
        have e : (madeCells #[Value.int IntKind.i64 0] n).toList = dcells (List.replicate n 0) := by
          rw [toList_madeCells_one]
          simp [dcells]
        rw [e] at hown4
        exact row_weak hown4 (Nat.zero_le _)
      · have := P.lt HT3.out.new.1.rep _ h; omega
      · have := P.lt HT3.out.rep _ h; omega
    have HG3 := Go.Proofs.Ytpaakikgfojplab.hid (show w.heap.size ≤ w3.heap.size ∧ b < w3.heap.size ∧ gs < w3.heap.size ∧ ga < w3.heap.size ∧ d < w3.heap.size from ⟨HT3.out.new.2.1.size, HT3.out.new.1.book.lts.1, HT3.out.new.1.book.lts.2.1, HT3.out.new.1.book.lts.2.2, HT3.out.dat.lt⟩)
    clear c8 hown4 hgrow hb4 HT3
    generalize hgt : w3.heap.size = gt at *
    clear hgt w3
    go_wp2
    go_loopw [11] (fun i wr => ∃ (k : Nat) (F G : Nat → Prop) (t : St) (L : List Nat), k ≤ n ∧ 1 ≤ k ∧ i = .int .i64 k ∧ Hid (k = L.length ∧ Sim s t L) ∧ Hid (TwoL Rep w wr b xc gs cs ga ca F s d xd G t gt n (toAt L n)))
      (fun i _ => n - (intOf i).toNat)
    case atStart => exact ⟨1, F, G, t0, [0], by omega, Nat.le_refl _, rfl, ⟨rfl, HS3.out⟩, HX4⟩
    case round =>
      clear HX4 HS3 F G t0
      obtain ⟨k, F, G, t, L, hk, hk1, rfl, HS, HX⟩ := hrel
      generalize wr = wo at *
      have c8 := cell_of_cells (j := 8) HX.out.two.new.1.book.blk rfl
      rw [hnn] at c8
      by_cases hlt : k < n
      · have hlt' : (k : Int) < (n : Int) := by omega
        have HOS := Go.Proofs.Ytpaakikgfojplab.hid (fun m (h : 0 < m) => openL_succ s L m h)
        have HTA := Go.Proofs.Ytpaakikgfojplab.hid (fun (W : World) (hb : Below wo.heap.size wo W) (i : Nat) (h : i < n) => ((row_keep HX.out.own hb (Nat.le_refl _)).cellAt i (by rw [toAt_len]; omega)).trans ((dcells_at (toAt L n) i (by rw [toAt_len]; exact h)).trans (by rw [toAt_at L h])))
        have HBK := Go.Proofs.Ytpaakikgfojplab.hid (fun (W : World) (hb : Below wo.heap.size wo W) => HX.out.two.new.1.book.keep hb)
        have HTR := Go.Proofs.Ytpaakikgfojplab.hid (fun i (h : 0 < i) => hv.tree i h)
        go_wp2
        go_loopw [12, 13] (fun op i wi => ∃ (m : Nat) (os : List Nat), 1 ≤ m ∧ m ≤ n ∧ i = .int .i64 m ∧ os.length ≤ m ∧ Hid (os = openL s L m) ∧ wi.ownsRow wo.heap.size 3 1 op os.length (dcells os) ∧ Below wo.heap.size wo wi)
          (fun _ i _ => n - (intOf i).toNat)
        case atStart => exact ⟨1, [], Nat.le_refl _, by omega, rfl, by simp, by unfold Hid; rw [openL_one], World.ownsRow_nil _ _ _ _, Below.refl _ _⟩
        case round =>
          clear c8
          obtain ⟨m, os, hm1, hm, rfl, hosl, HO, hout, hbel⟩ := hrel
          have hbk := HBK.out _ hbel
          have c8 := cell_of_cells (j := 8) hbk.blk rfl
          rw [hnn] at c8
          by_cases hltm : m < n
          · have hltm' : (m : Int) < (n : Int) := by omega
            have hpc := hbk.par_at (i := m) (by omega)
            have htm := HTR.out m (by omega)
            have ct := HTA.out _ hbel m hltm
            have cp := HTA.out _ hbel (pa s.all m) (by omega)
            have hos := HOS.out m (by omega)
            rw [← HO.out] at hos
            unfold openB at hos
            have HOU := Go.Proofs.Ytpaakikgfojplab.hid hos
            clear hos hbk HO
            generalize pa s.all m = pm at *
            have hpm : (pm : Int) < (n : Int) := by omega
            generalize toN L m = tm at *
            generalize toN L pm = tp at *
            have hszb := hbel.size
            by_cases b1 : tm = 0
            · subst b1
              by_cases b2 : pm = 0
              · subst b2
                go_wp2_with (at_builtin; refine wpList_append_lies _ rfl (.tmp 85) (.tmp 87) 22 rfl wo.heap.size 3 i0 (.int .i64 0) 1 8 Try.underlying22 hi0 hz0 hz1 hz2 rfl (by omega) _ os.length (dcells os) rfl (hout.alloc _) ⟨wr.heap.size, 0, none⟩ 1 1 [.int .i64 (m : Int)] rfl rfl (cell_one_new _ _ _) (one_int _) (by omega) (by unfold maxLen; omega) (by omega) (by simp; omega) (wr.heap.size + 1) (by simp) ?_)
                intro gq capq wq hownq hgrowq hatq hltq
                have hrow := fun k (e : Value.ownBlock u12 = some k) => (hout.lt k e).1
                have HB := Go.Proofs.Ytpaakikgfojplab.hid ((hbel.alloc (by omega) _).grown hgrowq (by simp; omega) hrow)
                have HO := Go.Proofs.Ytpaakikgfojplab.hid hownq
                clear hownq hgrowq hatq hbel hout hrow ct cp hpc c8
                go_wp2
                go_roundw
                case rel =>
                  refine ⟨m + 1, os ++ [m], by omega, by omega, by go_num, by simp; omega, by have := HOU.out; unfold Hid; rw [this]; simp <;> omega, ?_, HB.out⟩
                  rw [List.length_append, dcells_append]
                  exact HO.out
                case measure => simp [intOf]; omega
              · have b2' : ¬ (pm : Int) = 0 := by omega
                by_cases b3 : 0 < tp
                · have b3' : (0 : Int) < (tp : Int) := by omega
                  go_wp2_with (at_builtin; refine wpList_append_lies _ rfl (.tmp 85) (.tmp 87) 22 rfl wo.heap.size 3 i0 (.int .i64 0) 1 8 Try.underlying22 hi0 hz0 hz1 hz2 rfl (by omega) _ os.length (dcells os) rfl (hout.alloc _) ⟨wr.heap.size, 0, none⟩ 1 1 [.int .i64 (m : Int)] rfl rfl (cell_one_new _ _ _) (one_int _) (by omega) (by unfold maxLen; omega) (by omega) (by simp; omega) (wr.heap.size + 1) (by simp) ?_)
                  intro gq capq wq hownq hgrowq hatq hltq
                  have hrow := fun k (e : Value.ownBlock u12 = some k) => (hout.lt k e).1
                  have HB := Go.Proofs.Ytpaakikgfojplab.hid ((hbel.alloc (by omega) _).grown hgrowq (by simp; omega) hrow)
                  have HO := Go.Proofs.Ytpaakikgfojplab.hid hownq
                  clear hownq hgrowq hatq hbel hout hrow ct cp hpc c8
                  go_wp2
                  go_roundw
                  case rel =>
                    refine ⟨m + 1, os ++ [m], by omega, by omega, by go_num, by simp; omega, by have := HOU.out; unfold Hid; rw [this]; simp <;> omega, ?_, HB.out⟩
                    rw [List.length_append, dcells_append]
                    exact HO.out
                  case measure => simp [intOf]; omega
                · have e3 : tp = 0 := by omega
                  subst e3
                  go_wp2
                  go_roundw
                  case rel => exact ⟨m + 1, os, by omega, by omega, by go_num, by omega, by have := HOU.out; unfold Hid; rw [this]; simp <;> omega, hout, hbel⟩
                  case measure => simp [intOf]; omega
            · have b1' : ¬ (tm : Int) = 0 := by omega
              go_wp2
              go_roundw
              case rel => exact ⟨m + 1, os, by omega, by omega, by go_num, by omega, by have := HOU.out; unfold Hid; rw [this]; simp <;> omega, hout, hbel⟩
              case measure => simp [intOf]; omega
          · have hmn : m = n := by omega
            subst hmn
            have hop : 0 < os.length := by
              rw [HO.out, ← hnn]
              exact openL_pos hv HS.out.2 (by rw [← HS.out.1, hnn]; exact hlt)
            have hn40 : m ≤ 40 := by
              have h1 := hv.full
              have h2 := hv.par.r2
              rw [keep_len hv HF0.out, hnn] at h1
              omega
            obtain ⟨go, co, rfl, _, _⟩ := hout.form hop
            obtain ⟨j, rfl⟩ : ∃ j, k = j + 1 := ⟨k - 1, by omega⟩
            have HW2 := Go.Proofs.Ytpaakikgfojplab.hid (HX.out.two.new.2.1.trans (hbel.mono HX.out.two.new.2.1.size))
            have hvI := rawI HZ3.out j
            have hkj : IntKind.i64.wrap (((j + 1 : Nat) : Int) - 1) = (j : Int) := by rw [show (((j + 1 : Nat) : Int) - 1) = (j : Int) by omega]; exact IntWalk.i64_in _ ⟨by omega, by omega⟩
            have HPB := Go.Proofs.Ytpaakikgfojplab.hid (pickI_bounds (z3.getD j 0) (os.length : Int) (by omega))
            go_wp2_with fail
            refine (nth_any a3 cap3 z3 j _ (HZ3.out.keep HW2.out) (by omega)).mono ?_
            rintro e wx ⟨rfl, rfl⟩
            go_wp2_with fail
            refine (pick_is (z3.getD j 0) (os.length : Int) _ hvI (by omega) (by omega)).mono ?_
            rintro e wx ⟨rfl, rfl⟩
            obtain ⟨q, hq⟩ : ∃ q : Nat, pickI (z3.getD j 0) (os.length : Int) = (q : Int) := ⟨(pickI (z3.getD j 0) (os.length : Int)).toNat, by have := HPB.out; omega⟩
            have hql : q < os.length := by have := HPB.out; omega
            rw [hq]
            have cq := (hout.cellAt q (by omega)).trans (dcells_at os q hql)
            have hdm : os.getD q 0 ∈ openL s L m := by
              rw [← HO.out, show os.getD q 0 = os[q] from by simp [List.getD, hql]]
              exact List.getElem_mem hql
            obtain ⟨d0, d1, d2, d3⟩ := openL_mem HS.out.2 hdm
            have HST := Go.Proofs.Ytpaakikgfojplab.hid (HS.out.2.step hv HFP.out HF0.out (by rw [hnn]; exact d1) d2 d3)
            have HX2 := Go.Proofs.Ytpaakikgfojplab.hid (HX.out.below P hbel)
            have i1 : (0 : Int) ≤ (q : Int) := by omega
            have i2 : (q : Int) < (os.length : Int) := by omega
            have ct := HTA.out _ hbel (pa s.all (os.getD q 0)) (by have := HTR.out _ d0; omega)
            rw [toN_mem d3] at ct
            clear hdm HPB hq hvI
            generalize os.getD q 0 = id at *
            have hpl := HTR.out id d0
            have HSS : Hid (∀ W G' t', TwoL Rep w W b xc gs cs ga ca F s d xd G' t' gt m (toAt L m) → W.cell? ⟨d, 0, none⟩ = some (.pointer (some ⟨xd, 0, none⟩)) ∧ W.cell? ⟨b, 8, none⟩ = some (.slice (some ⟨ga, 0, none⟩) m ca) ∧ W.cell? ⟨gt, pa s.all id, none⟩ = some (.int .i64 ((L.idxOf (pa s.all id) : Nat) : Int)) ∧ W.cell? ⟨ga, id * 8 + 7, none⟩ = some (.int .i64 ((pa s.all id : Nat) : Int)) ∧ W.cell? ⟨ga, id * 8, none⟩ = some (.int .i64 (hd s.all id).slot) ∧ W.cell? ⟨ga, id * 8 + 1, none⟩ = some (.int .i64 (hd s.all id).pool) ∧ W.cell? ⟨ga, id * 8 + 2, none⟩ = some (.int .i64 (hd s.all id).proof) ∧ W.cell? ⟨ga, id * 8 + 3, none⟩ = some (.int .i64 (hd s.all id).count) ∧ W.cell? ⟨ga, id * 8 + 4, none⟩ = some (.int .i64 (hd s.all id).frm) ∧ W.cell? ⟨ga, id * 8 + 5, none⟩ = some (.int .i64 (hd s.all id).dst) ∧ W.cell? ⟨ga, id * 8 + 6, none⟩ = some (.int .i64 (hd s.all id).amount)) := by
              intro W G' t' hx
              have hh := hx.two.new.1.book.hdr_at (i := id) (by omega)
              have c8 := cell_of_cells (j := 8) hx.two.new.1.book.blk rfl
              rw [hnn] at c8
              have e1 := (hx.own.cellAt (pa s.all id) (by rw [toAt_len]; omega)).trans ((dcells_at (toAt L m) (pa s.all id) (by rw [toAt_len]; omega)).trans (by rw [toAt_at L (by omega), toN_mem d3]))
              exact ⟨hx.two.dat.cell, c8, e1, hx.two.new.1.book.par_at (i := id) (by omega), hh.c0, hh.c1, hh.c2, hh.c3, hh.c4, hh.c5, hh.c6⟩
            have hil : L.idxOf (pa s.all id) < L.length := List.idxOf_lt_length_of_mem d3
            have hHI : HdrI (hd s.all id) := hdr_i hv d0 (by omega)
            have hsl : t.all.length = j + 1 := HS.out.2.len.trans HS.out.1.symm
            have hoid : offerId t ((L.idxOf (pa s.all id) : Nat) : Int) (hd s.all id) = ((j + 1 : Nat) : Int) := by unfold offerId; rw [if_pos HST.out.1, hsl]
            have hofs : offer t ((L.idxOf (pa s.all id) : Nat) : Int) (hd s.all id) = taken t (L.idxOf (pa s.all id)) (hd s.all id) := by unfold offer; rw [if_pos HST.out.1, Int.toNat_natCast]
            have HOF := Go.Proofs.Ytpaakikgfojplab.hid (fun (W : World) (hb : Below wr.heap.size wr W) => (P.offer W xd G t ((L.idxOf (pa s.all id) : Nat) : Int) (hd s.all id) (HX2.out.below P hb).two.rep HX2.out.two.inv (i64_of (by omega) (by have := HS.out.1; omega)) hHI).mono (fun _ _ ⟨h1, h2⟩ => And.intro h1 (Left.from h2 hb)))
            rw [hoid, HST.out.1, hofs] at HOF
            have HL1 := Go.Proofs.Ytpaakikgfojplab.hid (show j + 1 = L.length from HS.out.1)
            have HD2 := Go.Proofs.Ytpaakikgfojplab.hid d2
            have HD3 := Go.Proofs.Ytpaakikgfojplab.hid d3
            have HS2 := Go.Proofs.Ytpaakikgfojplab.hid HST.out.2
            clear hHI hsl hoid hofs HST ct
            generalize hTT : taken t (L.idxOf (pa s.all id)) (hd s.all id) = tt at *
            generalize hHH : hd s.all id = hx at *
            obtain ⟨x0, x1, x2, x3, x4, x5, x6⟩ := hx
            unfold hdrV at HOF
            generalize L.idxOf (pa s.all id) = pq at *
            generalize pa s.all id = pid at *
            clear hTT hHH
            simp only at HSS
            obtain ⟨cd, c8', ct, hpc, hh0, hh1, hh2, hh3, hh4, hh5, hh6⟩ := HSS.out _ _ _ HX2.out
            have p1 : (0 : Int) ≤ (pid : Int) := by omega
            have p2 : (pid : Int) < (m : Int) := by omega
            have p3 : (0 : Int) ≤ (id : Int) := by omega
            have p4 : (id : Int) < (m : Int) := by omega
            go_upto_region 22 with fail
            go_region_held3 (fun w' => w'.cell? ⟨d, 0, none⟩ = some (.pointer (some ⟨xd, 0, none⟩)) ∧ w'.cell? ⟨b, 8, none⟩ = some (.slice (some ⟨ga, 0, none⟩) m ca) ∧ w'.cell? ⟨gt, pid, none⟩ = some (.int .i64 ((pq : Nat) : Int)) ∧ w'.cell? ⟨ga, id * 8 + 7, none⟩ = some (.int .i64 ((pid : Nat) : Int)) ∧ w'.cell? ⟨ga, id * 8, none⟩ = some (.int .i64 x0) ∧ w'.cell? ⟨ga, id * 8 + 1, none⟩ = some (.int .i64 x1) ∧ w'.cell? ⟨ga, id * 8 + 2, none⟩ = some (.int .i64 x2) ∧ w'.cell? ⟨ga, id * 8 + 3, none⟩ = some (.int .i64 x3) ∧ w'.cell? ⟨ga, id * 8 + 4, none⟩ = some (.int .i64 x4) ∧ w'.cell? ⟨ga, id * 8 + 5, none⟩ = some (.int .i64 x5) ∧ w'.cell? ⟨ga, id * 8 + 6, none⟩ = some (.int .i64 x6)) (go_keep) ((go_at_call 21; refine (HOF.out _ (by first | exact Below.refl _ _ | exact (Below.refl _ _).drew | exact (Below.refl _ _).drew.drew)).mono ?_; rintro e w6 ⟨rfl, hL6⟩; obtain ⟨G7, hX7⟩ := HX2.out.second P HS2.out.inv hL6; obtain ⟨q0, q1, q2, q3, q4, q5, q6, q7, q8, q9, q10⟩ := HSS.out _ _ _ hX7))
            all_goals
              have hidn : id < (toAt L m).length := by rw [toAt_len]; exact d1
              have cs7 := (hX7.own.cellAt id (by omega)).trans (dcells_at (toAt L m) id hidn)
              have fz7 := hX7.own.frozenAt id
              have i3 : (0 : Int) ≤ (id : Int) := by omega
              have i4 : (id : Int) < (m : Int) := by omega
              have HX8 := Go.Proofs.Ytpaakikgfojplab.hid (hX7.put P HG3.out.1 HG3.out.2.1 HG3.out.2.2.1 HG3.out.2.2.2.1 HG3.out.2.2.2.2 id (j + 1))
              have hset : (toAt L m).set id (j + 1) = toAt (L ++ [id]) m := by rw [toAt_set HD2.out d1, HL1.out]
              rw [hset] at HX8
              clear hL6 hX7 HX2 HOF hh0 hh1 hh2 hh3 hh4 hh5 hh6 cd hpc ct cq c8 c8' hout hset q0 q1 q2 q3 q4 q5 q6 q7 q8 q9 q10
              generalize (toAt L m).getD id 0 = old at *
              go_wp2
              go_roundw
              case rel => exact ⟨j + 2, F, G7, tt, L ++ [id], by omega, by omega, by go_num, ⟨by simp; have := HL1.out; omega, HS2.out⟩, HX8⟩
              case measure => simp [intOf]; omega
      · have hke : k = n := by omega
        subst hke
        have HLK := Go.Proofs.Ytpaakikgfojplab.hid (fun i (h : i < k) => like_of hv HF0.out HS.out.2 (HS.out.2.all_in hnn HS.out.1.symm i h))
        have HTN := Go.Proofs.Ytpaakikgfojplab.hid (fun i (h : i < k) => toN_mem (HS.out.2.all_in hnn HS.out.1.symm i h))
        have HTL := Go.Proofs.Ytpaakikgfojplab.hid HS.out.2.len
        have HIX := Go.Proofs.Ytpaakikgfojplab.hid (fun i (h : i < k) => List.idxOf_lt_length_of_mem (HS.out.2.all_in hnn HS.out.1.symm i h))
        have HTP := Go.Proofs.Ytpaakikgfojplab.hid (HS.out.2.tip hv (by rw [hnn, ← HS.out.1]))
        go_wp2
        go_loopw [18] (fun i wi => ∃ (j : Nat) (F G : Nat → Prop), j ≤ k ∧ i = .int .i64 j ∧ Hid (TwoL Rep w wi b xc gs cs ga ca F s d xd G t gt k (toAt L k))) (fun i _ => k - (intOf i).toNat)
        case atStart => exact ⟨0, F, G, Nat.zero_le _, rfl, HX⟩
        case round =>
          clear HX F G c8
          obtain ⟨j, F, G, hj, rfl, HX⟩ := hrel
          have c8 := cell_of_cells (j := 8) HX.out.two.new.1.book.blk rfl
          rw [hnn] at c8
          by_cases hltj : j < k
          · have hltj' : (j : Int) < (k : Int) := by omega
            have ct := ((HX.out.own.cellAt j (by rw [toAt_len]; omega)).trans ((dcells_at (toAt L k) j (by rw [toAt_len]; exact hltj)).trans (by rw [toAt_at L hltj, HTN.out j hltj])))
            have hix := HIX.out j hltj
            have hlk := HLK.out j hltj
            have hil : L.idxOf j < t.all.length := by rw [HTL.out]; exact hix
            generalize L.idxOf j = q at *
            go_wp2_with fail
            refine (alike_any P HX.out j q (by omega) hil hlk).mono ?_
            rintro e wn ⟨rfl, F', G', hX'⟩
            have HX' := Go.Proofs.Ytpaakikgfojplab.hid hX'
            clear hX' hlk ct c8
            go_wp2
            go_roundw
            case rel => exact ⟨j + 1, F', G', by omega, by go_num, HX'⟩
            case measure => simp [intOf]; omega
          · have hje : ¬ (j : Int) < (k : Int) := by omega
            have c0 := cell_of_cells (j := 0) HX.out.two.new.1.book.blk rfl
            go_wp2_with fail
            refine (P.path _ xc F s HX.out.two.new.1.rep hv).mono ?_
            rintro e wp ⟨g1, k1, rfl, ho1, hb1⟩
            have hX1 := HX.out.below P hb1
            clear c8 c0 HX ho1 hb1
            have c0 := hX1.two.dat.cell
            go_wp2_with fail
            refine (P.path _ xd G t hX1.two.rep hX1.two.inv).mono ?_
            rintro e wq ⟨g2, k2, rfl, ho2, hb2⟩
            have HX2 := Go.Proofs.Ytpaakikgfojplab.hid (hX1.below P hb2)
            have hlen : (line t.all (tip t)).length = (line s.all (tip s)).length := by
              rw [line_length hX1.two.inv.tree, line_length hv.tree, HTP.out]
            rw [hlen]
            clear c0 hX1 ho2 hb2 hlen
            generalize (line s.all (tip s)).length = ll at *
            go_wp2
            go_ret
            exact ⟨rfl, HX2.out.two.new.2.1⟩

end Go.Proofs.Ytpaakikgfojplab

