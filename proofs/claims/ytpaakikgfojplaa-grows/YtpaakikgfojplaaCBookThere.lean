import Derived.Test.YtpaakikgfojplaaCM11
/-
  THE WALKS of the statements' book: there, wanted, came.
-/
namespace Go.Proofs.Ytpaakikgfojplaa
open Go.RowKit Num Bk
set_option linter.unusedVariables false
attribute [local go_sem ↓] run_eql_hdr Go.wp_at_zero Go.wp_at_succ

set_option maxHeartbeats 3200000 in
set_option maxRecDepth 1000000 in
theorem bthere_any (b xc gs cs ga ca : Nat) (s : St) (parent : Int) (h : Hdr) (w : World) (hr : BookAt w b xc gs cs ga ca s) (hv : Inv s) :
    Calls Try.prog 77 #[.pointer (some ⟨b, 0, none⟩), .int .i64 parent, hdrV h] w fun e w' => e = .returned (.int .i64 ((there s parent h : Nat) : Int)) ∧ Below w.heap.size w w' := by
  have hi := hv.wk
  have hkl := hi.kl
  have hsm := hi.small
  obtain ⟨a0, a1, a2, a3, a4, a5, a6⟩ := h
  have HT := Go.Proofs.Ytpaakikgfojplaa.hid (there_eq s parent ⟨a0, a1, a2, a3, a4, a5, a6⟩)
  have HP := Go.Proofs.Ytpaakikgfojplaa.hid (fun k => show isIt s parent ⟨a0, a1, a2, a3, a4, a5, a6⟩ k = (decide (0 < k) && ((pa s.all k : Int) == parent) && eqH (hd s.all k) ⟨a0, a1, a2, a3, a4, a5, a6⟩) from rfl)
  generalize isIt s parent ⟨a0, a1, a2, a3, a4, a5, a6⟩ = P at *
  unfold hdrV
  go_enter Try.func77, Try.ntmps77
  go_wp2_with fail
  generalize hA : w.alloc (.cells #[.int .i64 a0, .int .i64 a1, .int .i64 a2, .int .i64 a3, .int .i64 a4, .int .i64 a5, .int .i64 a6] 30) = A at *
  obtain ⟨hsA, hbA, hAR⟩ := below_zero hA
  clear hA
  have hrA := hr.keep hbA
  clear hr
  refine (bkept_any b xc gs cs ga ca s _ hrA hv).mono ?_
  rintro e w1 ⟨g, cap, rfl, ho, hb1⟩
  have hr1 := hrA.keep hb1
  have hs1 := hb1.size
  have hA1 : w1.heap[w.heap.size]? = some (.cells #[.int .i64 a0, .int .i64 a1, .int .i64 a2, .int .i64 a3, .int .i64 a4, .int .i64 a5, .int .i64 a6] 30 (0, 0)) := by
    rw [hb1.block _ (by omega)]; exact hAR
  have hgl := own_lt ho
  have hbw := hbA.trans (hb1.mono (by omega))
  clear hrA hb1 hAR hbA
  go_wp2
  go_loopw [8] (fun i wr => ∃ k : Nat, k ≤ s.keep.length ∧ i = .int .i64 k ∧ Hid ((s.keep.take k).find? P = none) ∧ Below w1.heap.size w1 wr)
    (fun i _ => s.keep.length - (intOf i).toNat)
  case atStart => exact ⟨0, Nat.zero_le _, rfl, by unfold Hid; simp, Below.refl _ _⟩
  case round =>
    obtain ⟨k, hk, rfl, HN, hbel⟩ := hrel
    have hrr := hr1.keep hbel
    have hsz := hbel.size
    by_cases hlt : k < s.keep.length
    · have c8 := cell_of_cells (j := 8) hrr.blk rfl
      have ck2 := ((row_keep ho hbel (Nat.le_refl _)).cellAt k (by omega)).trans (dcells_at s.keep k hlt)
      have hft := find_take P s.keep k hlt
      have hdm : s.keep.getD k 0 ∈ s.keep := by
        rw [show s.keep.getD k 0 = s.keep[k] from by simp [List.getD, hlt]]
        exact List.getElem_mem hlt
      have hdl := hi.klt _ hdm
      have hPd := HP.out (s.keep.getD k 0)
      rw [HN.out] at hft
      have hc := hrr.hdr_at hdl
      have hpar := hrr.par_at hdl
      have hlts := hrr.lts
      have hA2 : wr.heap[w.heap.size]? = some (.cells #[.int .i64 a0, .int .i64 a1, .int .i64 a2, .int .i64 a3, .int .i64 a4, .int .i64 a5, .int .i64 a6] 30 (0, 0)) := by
        rw [hbel.block _ (by omega)]; exact hA1
      have p0 := cell_of_cells (j := 0) hA2 rfl
      have p1 := cell_of_cells (j := 1) hA2 rfl
      have p2 := cell_of_cells (j := 2) hA2 rfl
      have p3 := cell_of_cells (j := 3) hA2 rfl
      have p4 := cell_of_cells (j := 4) hA2 rfl
      have p5 := cell_of_cells (j := 5) hA2 rfl
      have p6 := cell_of_cells (j := 6) hA2 rfl
      have HFT := Go.Proofs.Ytpaakikgfojplaa.hid hft
      clear hft HN hdm
      generalize s.keep.getD k 0 = d at *
      have h0 := hc.c0
      have h1 := hc.c1
      have h2 := hc.c2
      have h3 := hc.c3
      have h4 := hc.c4
      have h5 := hc.c5
      have h6 := hc.c6
      generalize hd s.all d = H at *
      generalize pa s.all d = pd at *
      obtain ⟨b0, b1, b2, b3, b4, b5, b6⟩ := H
      simp only at *
      have i1 : (0 : Int) ≤ (k : Int) := by omega
      have i2 : (k : Int) < ((s.keep.length : Nat) : Int) := by omega
      have i3 : (0 : Int) ≤ (d : Int) := by omega
      have i4 : (d : Int) < ((s.all.length : Nat) : Int) := by omega
      have hwl : w.heap.size < wr.heap.size := by omega
      have hgl2 : g < wr.heap.size := by omega
      have hl1 := hlts.1
      have hl2 := hlts.2.2
      clear hc hrr hA2 hlts
      go_wp2
      go_region_held3 (fun w' => w'.cell? ⟨b, 8, none⟩ = some (.slice (some ⟨ga, 0, none⟩) s.all.length ca) ∧ w'.cell? ⟨g, k, none⟩ = some (.int .i64 (d : Int)) ∧ w'.cell? ⟨ga, d * 8, none⟩ = some (.int .i64 b0) ∧ w'.cell? ⟨ga, d * 8 + 1, none⟩ = some (.int .i64 b1) ∧ w'.cell? ⟨ga, d * 8 + 2, none⟩ = some (.int .i64 b2) ∧ w'.cell? ⟨ga, d * 8 + 3, none⟩ = some (.int .i64 b3) ∧ w'.cell? ⟨ga, d * 8 + 4, none⟩ = some (.int .i64 b4) ∧ w'.cell? ⟨ga, d * 8 + 5, none⟩ = some (.int .i64 b5) ∧ w'.cell? ⟨ga, d * 8 + 6, none⟩ = some (.int .i64 b6) ∧ w'.cell? ⟨ga, d * 8 + 7, none⟩ = some (.int .i64 (pd : Int))) (go_keep) (fail)
      have HPD := Go.Proofs.Ytpaakikgfojplaa.hid hPd
      clear hPd
      by_cases z1 : 0 < d
      · by_cases z2 : (pd : Int) = parent
        · have z2' : ((pd : Int) == parent) = true := by simp [z2]
          have hPe : P d = eqH ⟨b0, b1, b2, b3, b4, b5, b6⟩ ⟨a0, a1, a2, a3, a4, a5, a6⟩ := by rw [HPD.out, z2']; simp [z1]
          generalize hee : eqH ⟨b0, b1, b2, b3, b4, b5, b6⟩ ⟨a0, a1, a2, a3, a4, a5, a6⟩ = ee at *
          cases ee
          · have HPF := Go.Proofs.Ytpaakikgfojplaa.hid hPe
            clear hPe
            go_wp2
            go_roundw
            case rel =>
              refine ⟨k + 1, by omega, by go_num, ?_, (hbel.alloc (by omega) _).drew⟩
              show _ = _
              rw [HFT.out, HPF.out]; rfl
            case measure => simp [intOf]; omega
          · have hft := HFT.out
            rw [hPe] at hft
            have hT : there s parent ⟨a0, a1, a2, a3, a4, a5, a6⟩ = d := by
              rw [HT.out, find_some_take P s.keep (k + 1) d hft]; rfl
            have HTD := Go.Proofs.Ytpaakikgfojplaa.hid hT
            have HB := Go.Proofs.Ytpaakikgfojplaa.hid (hbw.trans ((hbel.alloc (by omega) (.cells #[.int .i64 b0, .int .i64 b1, .int .i64 b2, .int .i64 b3, .int .i64 b4, .int .i64 b5, .int .i64 b6, .int .i64 (pd : Int)] 90)).drew.mono (by omega)))
            clear hT hft hPe z2
            go_wp2
            go_ret
            exact ⟨by rw [HTD.out]; rfl, HB.out⟩
        · have z2' : ((pd : Int) == parent) = false := by simp [z2]
          have hP : P d = false := by rw [HPD.out, z2']; simp
          have HPF := Go.Proofs.Ytpaakikgfojplaa.hid hP
          clear hP
          go_wp2
          go_roundw
          case rel =>
            refine ⟨k + 1, by omega, by go_num, ?_, (hbel.alloc (by omega) _).drew⟩
            show _ = _
            rw [HFT.out, HPF.out]; rfl
          case measure => simp [intOf]; omega
      · have hP : P d = false := by rw [HPD.out]; simp [z1]
        have HPF := Go.Proofs.Ytpaakikgfojplaa.hid hP
        clear hP
        go_wp2
        go_roundw
        case rel =>
          refine ⟨k + 1, by omega, by go_num, ?_, (hbel.alloc (by omega) _).drew⟩
          show _ = _
          rw [HFT.out, HPF.out]; rfl
        case measure => simp [intOf]; omega
    · have hkk : k = s.keep.length := by omega
      have hT : there s parent ⟨a0, a1, a2, a3, a4, a5, a6⟩ = 0 := by
        have h1 := HN.out
        rw [hkk, List.take_length] at h1
        rw [HT.out, h1]; rfl
      have HTZ := Go.Proofs.Ytpaakikgfojplaa.hid hT
      have HB := Go.Proofs.Ytpaakikgfojplaa.hid (hbw.trans (hbel.mono (by omega)))
      clear hT hkk HN hrr hbel
      go_wp2
      go_ret
      exact ⟨by rw [HTZ.out]; rfl, HB.out⟩

/-- What Offer must answer to a header that was made: its number, its error. -/
def wantErr (s : St) (parent : Int) (h : Hdr) : Int := if 0 < there s parent h then 10 else if s.par.room ≤ s.keep.length then 11 else 0
def wantId (s : St) (parent : Int) (h : Hdr) : Int := if wantErr s parent h = 0 then s.all.length else 0

set_option maxHeartbeats 1600000 in
set_option maxRecDepth 1000000 in
theorem wanted_any (b xc gs cs ga ca : Nat) (s : St) (parent : Int) (h : Hdr) (w : World) (hr : BookAt w b xc gs cs ga ca s) (hv : Inv s) :
    Calls Try.prog 55 #[.pointer (some ⟨b, 0, none⟩), .int .i64 parent, hdrV h] w fun e w' => e = .returned (.tuple #[.int .i64 (wantId s parent h), .int .i64 (wantErr s parent h)]) ∧ Below w.heap.size w w' := by
  have hi := hv.wk
  have hkl := hi.kl
  have hsm := hi.small
  have hr2' := hv.par.r2
  obtain ⟨a0, a1, a2, a3, a4, a5, a6⟩ := h
  have hwe : wantErr s parent ⟨a0, a1, a2, a3, a4, a5, a6⟩ = if 0 < there s parent ⟨a0, a1, a2, a3, a4, a5, a6⟩ then 10 else if s.par.room ≤ s.keep.length then 11 else 0 := rfl
  unfold hdrV
  go_enter Try.func55, Try.ntmps55
  go_wp2_with fail
  generalize hA : w.alloc (.cells #[.int .i64 a0, .int .i64 a1, .int .i64 a2, .int .i64 a3, .int .i64 a4, .int .i64 a5, .int .i64 a6] 30) = A at *
  obtain ⟨hsA, hbA, hAR⟩ := below_zero hA
  clear hA
  have hrA := hr.keep hbA
  clear hr
  refine (bkept_any b xc gs cs ga ca s _ hrA hv).mono ?_
  rintro e w1 ⟨g, cap, rfl, ho, hb1⟩
  have hr1 := hrA.keep hb1
  have hs1 := hb1.size
  have hA1 : w1.heap[w.heap.size]? = some (.cells #[.int .i64 a0, .int .i64 a1, .int .i64 a2, .int .i64 a3, .int .i64 a4, .int .i64 a5, .int .i64 a6] 30 (0, 0)) := by
    rw [hb1.block _ (by omega)]; exact hAR
  have hbw := hbA.trans (hb1.mono (by omega))
  have p0 := cell_of_cells (j := 0) hA1 rfl
  have p1 := cell_of_cells (j := 1) hA1 rfl
  have p2 := cell_of_cells (j := 2) hA1 rfl
  have p3 := cell_of_cells (j := 3) hA1 rfl
  have p4 := cell_of_cells (j := 4) hA1 rfl
  have p5 := cell_of_cells (j := 5) hA1 rfl
  have p6 := cell_of_cells (j := 6) hA1 rfl
  clear hrA hb1 hAR hbA ho
  go_wp2_with fail
  refine (bthere_any b xc gs cs ga ca s parent ⟨a0, a1, a2, a3, a4, a5, a6⟩ _ hr1 hv).mono ?_
  rintro e w2 ⟨rfl, hb2⟩
  have hr2 := hr1.keep hb2
  have HB := Go.Proofs.Ytpaakikgfojplaa.hid (hbw.trans (hb2.mono (by have := hbw.size; exact this)))
  have c3 := cell_of_cells (j := 3) hr2.blk rfl
  have c8 := cell_of_cells (j := 8) hr2.blk rfl
  clear p0 p1 p2 p3 p4 p5 p6 hA1 hr1 hr2 hb2 hbw
  generalize there s parent ⟨a0, a1, a2, a3, a4, a5, a6⟩ = th at *
  by_cases y1 : 0 < th
  · rw [if_pos y1] at hwe
    have HWE := Go.Proofs.Ytpaakikgfojplaa.hid hwe
    have HWI := Go.Proofs.Ytpaakikgfojplaa.hid (show wantId s parent ⟨a0, a1, a2, a3, a4, a5, a6⟩ = 0 by unfold wantId; rw [hwe]; rfl)
    clear hwe
    go_wp2
    go_ret2
    exact ⟨by rw [HWE.out, HWI.out]; rfl, HB.out⟩
  · rw [if_neg y1] at hwe
    by_cases y2 : s.par.room ≤ s.keep.length
    · rw [if_pos y2] at hwe
      have HWE := Go.Proofs.Ytpaakikgfojplaa.hid hwe
      have HWI := Go.Proofs.Ytpaakikgfojplaa.hid (show wantId s parent ⟨a0, a1, a2, a3, a4, a5, a6⟩ = 0 by unfold wantId; rw [hwe]; rfl)
      clear hwe
      go_wp2
      go_ret2
      exact ⟨by rw [HWE.out, HWI.out]; rfl, HB.out⟩
    · rw [if_neg y2] at hwe
      have HWE := Go.Proofs.Ytpaakikgfojplaa.hid hwe
      have HWI := Go.Proofs.Ytpaakikgfojplaa.hid (show wantId s parent ⟨a0, a1, a2, a3, a4, a5, a6⟩ = s.all.length by unfold wantId; rw [hwe]; rfl)
      clear hwe
      go_wp2
      go_ret2
      exact ⟨by rw [HWE.out, HWI.out]; rfl, HB.out⟩

end Go.Proofs.Ytpaakikgfojplaa

