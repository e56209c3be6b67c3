import Derived.Test.YtpaakikgfojplabCExactWalk
/-
  THE WALK of the law Coded.
-/
namespace Go.Proofs.Ytpaakikgfojplab
open Go.RowKit Num Bk Tx
set_option linter.unusedVariables false

attribute [local go_sem ↓] run_eql_hdr run_neq_hdr

/-- The seven tests, one behind the other. -/
theorem low_or (h : Hdr) : low h = (decide (h.slot < 0) || (decide (h.pool < 0) || (decide (h.proof < 0) || (decide (h.count < 0) || (decide (h.frm < 0) || (decide (h.dst < 0) || decide (h.amount < 0))))))) := by
  simp [low, flds]

theorem txt_cut (t : List UInt8) (h : 1 ≤ t.length) : (txt t).extract 0 (t.length - 1) = txt t.dropLast := by
  apply ByteArray.ext
  rw [ByteArray.data_extract]
  show t.toArray.extract 0 (t.length - 1) = t.dropLast.toArray
  simp [List.dropLast_eq_take]

set_option maxHeartbeats 3200000 in
set_option maxRecDepth 1000000 in
theorem coded_any (h g : Hdr) (w : World) (hf : Fits h) (gf : Fits g) :
    Calls Try.prog 6 #[hdrV h, hdrV g] w fun e w' => e = .returned (.bool true) ∧ Below w.heap.size w w' := by
  have HE := Go.Proofs.Ytpaakikgfojplab.hid (fun W => pencode_is h W hf)
  have HG := Go.Proofs.Ytpaakikgfojplab.hid (fun W => pencode_is g W gf)
  have HF := Go.Proofs.Ytpaakikgfojplab.hid (And.intro hf gf)
  have HET : Hid (encT h = if low h then [] else enc h) := rfl
  have HEE : Hid (encE h = if low h then 1 else 0) := rfl
  have HGT : Hid (encT g = if low g then [] else enc g) := rfl
  have HGE : Hid (encE g = if low g then 1 else 0) := rfl
  clear hf gf
  have HLO := Go.Proofs.Ytpaakikgfojplab.hid (low_or h)
  have HDE := Go.Proofs.Ytpaakikgfojplab.hid (fun (hl : low h = false) => And.intro (dec_enc hl HF.out.1) (And.intro (dec_more hl HF.out.1 0) (And.intro (dec_less hl HF.out.1) (And.intro (enc_len h) (fun (gl : low g = false) (e : enc h = enc g) => enc_inj hl HF.out.1 gl HF.out.2 e)))))
  have HEQ := Go.Proofs.Ytpaakikgfojplab.hid (eqH_iff h g)
  have HRF : Hid (h = h) := rfl
  obtain ⟨a0, a1, a2, a3, a4, a5, a6⟩ := h
  obtain ⟨b0, b1, b2, b3, b4, b5, b6⟩ := g
  generalize encT ⟨a0, a1, a2, a3, a4, a5, a6⟩ = ET at *
  generalize encE ⟨a0, a1, a2, a3, a4, a5, a6⟩ = EE at *
  generalize encT ⟨b0, b1, b2, b3, b4, b5, b6⟩ = GT at *
  generalize encE ⟨b0, b1, b2, b3, b4, b5, b6⟩ = GE at *
  unfold hdrV at *
  simp only at HE HG HLO ⊢
  go_enter Try.func6, Try.ntmps6
  go_upto_region 1 with fail
  generalize hA : (w.alloc (.cells #[.int .i64 a0, .int .i64 a1, .int .i64 a2, .int .i64 a3, .int .i64 a4, .int .i64 a5, .int .i64 a6] 42)).alloc (.cells #[.int .i64 b0, .int .i64 b1, .int .i64 b2, .int .i64 b3, .int .i64 b4, .int .i64 b5, .int .i64 b6] 42) = A at *
  obtain ⟨hsA, hbA, hA1, hA2⟩ := below_tx2 hA
  have hlA : w.heap.size + 1 < A.heap.size := by omega
  clear hA hsA
  have x0 := cell_of_cells (j := 0) hA1 rfl
  have x1 := cell_of_cells (j := 1) hA1 rfl
  have x2 := cell_of_cells (j := 2) hA1 rfl
  have x3 := cell_of_cells (j := 3) hA1 rfl
  have x4 := cell_of_cells (j := 4) hA1 rfl
  have x5 := cell_of_cells (j := 5) hA1 rfl
  have x6 := cell_of_cells (j := 6) hA1 rfl
  have y0 := cell_of_cells (j := 0) hA2 rfl
  have y1 := cell_of_cells (j := 1) hA2 rfl
  have y2 := cell_of_cells (j := 2) hA2 rfl
  have y3 := cell_of_cells (j := 3) hA2 rfl
  have y4 := cell_of_cells (j := 4) hA2 rfl
  have y5 := cell_of_cells (j := 5) hA2 rfl
  have y6 := cell_of_cells (j := 6) hA2 rfl
  go_wp2_with fail
  refine (HE.out A).mono ?_
  rintro e w1 ⟨rfl, hb1⟩
  have h11 := (hb1.block _ (show w.heap.size < A.heap.size by omega)).trans hA1
  have h12 := (hb1.block _ hlA).trans hA2
  have HB1 := Go.Proofs.Ytpaakikgfojplab.hid (hbA.trans (hb1.mono hbA.size))
  clear hb1 hA1 hA2 hbA hlA HE x0 x1 x2 x3 x4 x5 x6 y0 y1 y2 y3 y4 y5 y6
  have x0 := cell_of_cells (j := 0) h11 rfl
  have x1 := cell_of_cells (j := 1) h11 rfl
  have x2 := cell_of_cells (j := 2) h11 rfl
  have x3 := cell_of_cells (j := 3) h11 rfl
  have x4 := cell_of_cells (j := 4) h11 rfl
  have x5 := cell_of_cells (j := 5) h11 rfl
  have x6 := cell_of_cells (j := 6) h11 rfl
  have y0 := cell_of_cells (j := 0) h12 rfl
  have y1 := cell_of_cells (j := 1) h12 rfl
  have y2 := cell_of_cells (j := 2) h12 rfl
  have y3 := cell_of_cells (j := 3) h12 rfl
  have y4 := cell_of_cells (j := 4) h12 rfl
  have y5 := cell_of_cells (j := 5) h12 rfl
  have y6 := cell_of_cells (j := 6) h12 rfl
  go_wp2_with fail
  refine (HG.out w1).mono ?_
  rintro e w2 ⟨rfl, hb2⟩
  have h21 := (hb2.block _ (lt_of_block h11)).trans h11
  have h22 := (hb2.block _ (lt_of_block h12)).trans h12
  have HB2 := Go.Proofs.Ytpaakikgfojplab.hid (HB1.out.trans (hb2.mono HB1.out.size))
  clear hb2 h11 h12 HB1 HG x0 x1 x2 x3 x4 x5 x6 y0 y1 y2 y3 y4 y5 y6
  have x0 := cell_of_cells (j := 0) h21 rfl
  have x1 := cell_of_cells (j := 1) h21 rfl
  have x2 := cell_of_cells (j := 2) h21 rfl
  have x3 := cell_of_cells (j := 3) h21 rfl
  have x4 := cell_of_cells (j := 4) h21 rfl
  have x5 := cell_of_cells (j := 5) h21 rfl
  have x6 := cell_of_cells (j := 6) h21 rfl
  have H21 := Go.Proofs.Ytpaakikgfojplab.hid h21
  have H22 := Go.Proofs.Ytpaakikgfojplab.hid h22
  clear h21 h22
  generalize low ⟨a0, a1, a2, a3, a4, a5, a6⟩ = lo at *
  by_cases t0 : a0 < 0
  · have hlo : lo = true := by rw [HLO.out]; simp [t0]
    have hT : ET = [] := by rw [HET.out, hlo]; rfl
    have hE : EE = 1 := by rw [HEE.out, hlo]; rfl
    subst hT
    subst hE
    clear HET HEE HGT HGE HLO HDE HEQ HF H21 H22
    rw [show txt [] = ByteArray.mk #[] from rfl]
    go_wp2
    go_ret
    exact ⟨by rfl, HB2.out⟩
  · skip
    by_cases t1 : a1 < 0
    · have hlo : lo = true := by rw [HLO.out]; simp [t1]
      have hT : ET = [] := by rw [HET.out, hlo]; rfl
      have hE : EE = 1 := by rw [HEE.out, hlo]; rfl
      subst hT
      subst hE
      clear HET HEE HGT HGE HLO HDE HEQ HF H21 H22
      rw [show txt [] = ByteArray.mk #[] from rfl]
      go_wp2
      go_ret
      exact ⟨by rfl, HB2.out⟩
    · skip
      by_cases t2 : a2 < 0
      · have hlo : lo = true := by rw [HLO.out]; simp [t2]
        have hT : ET = [] := by rw [HET.out, hlo]; rfl
        have hE : EE = 1 := by rw [HEE.out, hlo]; rfl
        subst hT
        subst hE
        clear HET HEE HGT HGE HLO HDE HEQ HF H21 H22
        rw [show txt [] = ByteArray.mk #[] from rfl]
        go_wp2
        go_ret
        exact ⟨by rfl, HB2.out⟩
      · skip
        by_cases t3 : a3 < 0
        · have hlo : lo = true := by rw [HLO.out]; simp [t3]
          have hT : ET = [] := by rw [HET.out, hlo]; rfl
          have hE : EE = 1 := by rw [HEE.out, hlo]; rfl
          subst hT
          subst hE
          clear HET HEE HGT HGE HLO HDE HEQ HF H21 H22
          rw [show txt [] = ByteArray.mk #[] from rfl]
          go_wp2
          go_ret
          exact ⟨by rfl, HB2.out⟩
        · skip
          by_cases t4 : a4 < 0
          · have hlo : lo = true := by rw [HLO.out]; simp [t4]
            have hT : ET = [] := by rw [HET.out, hlo]; rfl
            have hE : EE = 1 := by rw [HEE.out, hlo]; rfl
            subst hT
            subst hE
            clear HET HEE HGT HGE HLO HDE HEQ HF H21 H22
            rw [show txt [] = ByteArray.mk #[] from rfl]
            go_wp2
            go_ret
            exact ⟨by rfl, HB2.out⟩
          · skip
            by_cases t5 : a5 < 0
            · have hlo : lo = true := by rw [HLO.out]; simp [t5]
              have hT : ET = [] := by rw [HET.out, hlo]; rfl
              have hE : EE = 1 := by rw [HEE.out, hlo]; rfl
              subst hT
              subst hE
              clear HET HEE HGT HGE HLO HDE HEQ HF H21 H22
              rw [show txt [] = ByteArray.mk #[] from rfl]
              go_wp2
              go_ret
              exact ⟨by rfl, HB2.out⟩
            · skip
              by_cases t6 : a6 < 0
              · have hlo : lo = true := by rw [HLO.out]; simp [t6]
                have hT : ET = [] := by rw [HET.out, hlo]; rfl
                have hE : EE = 1 := by rw [HEE.out, hlo]; rfl
                subst hT
                subst hE
                clear HET HEE HGT HGE HLO HDE HEQ HF H21 H22
                rw [show txt [] = ByteArray.mk #[] from rfl]
                go_wp2
                go_ret
                exact ⟨by rfl, HB2.out⟩
              · skip
                have hlo : lo = false := by rw [HLO.out]; simp [t0, t1, t2, t3, t4, t5, t6]
                have hT : ET = enc ⟨a0, a1, a2, a3, a4, a5, a6⟩ := by rw [HET.out, hlo]; rfl
                have hE : EE = 0 := by rw [HEE.out, hlo]; rfl
                subst hE
                obtain ⟨hd1, hd2, hd3, hen, hinj⟩ := HDE.out hlo
                rw [← hT] at hd1 hd2 hd3 hen hinj
                have HINJ := Go.Proofs.Ytpaakikgfojplab.hid hinj
                have HTE := Go.Proofs.Ytpaakikgfojplab.hid hT
                have hsz := txt_size ET
                have HP1 := Go.Proofs.Ytpaakikgfojplab.hid (fun W => pdecode_is ET W (by show _ ≤ 9223372036854775807; omega))
                have HP2 := Go.Proofs.Ytpaakikgfojplab.hid (fun W => pdecode_is (ET ++ [0]) W (by show _ ≤ 9223372036854775807; simp; omega))
                have HP3 := Go.Proofs.Ytpaakikgfojplab.hid (fun W => pdecode_is ET.dropLast W (by show _ ≤ 9223372036854775807; simp; omega))
                rw [show decH ET = ⟨a0, a1, a2, a3, a4, a5, a6⟩ by unfold decH; rw [hd1]; rfl, show decE ET = 0 by unfold decE; rw [hd1]; rfl] at HP1
                rw [show decH (ET ++ [0]) = zeroH by unfold decH; rw [hd2]; rfl, show decE (ET ++ [0]) = 13 by unfold decE; rw [hd2]; rfl] at HP2
                rw [show decH ET.dropLast = zeroH by unfold decH; rw [hd3]; rfl, show decE ET.dropLast = 13 by unfold decE; rw [hd3]; rfl] at HP3
                unfold hdrC at HP1 HP2 HP3
                unfold zeroH at HP2 HP3
                simp only at HP1 HP2 HP3
                have h8 : ¬ (ET.length : Int) < 8 := by omega
                have hif : ¬ 9223372036854775807 < ET.length + 1 := by omega
                have heq : eqH ⟨a0, a1, a2, a3, a4, a5, a6⟩ ⟨a0, a1, a2, a3, a4, a5, a6⟩ = true := eqH_refl _
                have HCUT := Go.Proofs.Ytpaakikgfojplab.hid (txt_cut ET (by omega))
                have hw1 : IntKind.i64.wrap ((ET.length : Int) - 1) = (ET.length : Int) - 1 := IntWalk.i64_in _ ⟨by omega, by omega⟩
                clear hd1 hd2 hd3 hinj HDE hlo HET HEE HLO hT HF
                go_wp2_with fail
                refine (HP1.out w2).mono ?_
                rintro e w3 ⟨rfl, hb3⟩
                have H31 := Go.Proofs.Ytpaakikgfojplab.hid ((hb3.block _ (lt_of_block H21.out)).trans H21.out)
                have H32 := Go.Proofs.Ytpaakikgfojplab.hid ((hb3.block _ (lt_of_block H22.out)).trans H22.out)
                have HB3 := Go.Proofs.Ytpaakikgfojplab.hid (HB2.out.trans (hb3.mono HB2.out.size))
                clear hb3 H21 H22 HB2 HP1 x0 x1 x2 x3 x4 x5 x6
                go_upto_region 7 with fail
                generalize hA : w3.alloc (.cells #[.int .i64 a0, .int .i64 a1, .int .i64 a2, .int .i64 a3, .int .i64 a4, .int .i64 a5, .int .i64 a6] 42) = B at *
                obtain ⟨hsB, hbB, hBR⟩ := below_tx hA
                clear hA hsB
                have H41 := Go.Proofs.Ytpaakikgfojplab.hid ((hbB.block _ (lt_of_block H31.out)).trans H31.out)
                have H42 := Go.Proofs.Ytpaakikgfojplab.hid ((hbB.block _ (lt_of_block H32.out)).trans H32.out)
                have HB4 := Go.Proofs.Ytpaakikgfojplab.hid (HB3.out.trans (hbB.mono HB3.out.size))
                have HBR := Go.Proofs.Ytpaakikgfojplab.hid hBR
                clear hbB H31 H32 HB3 hBR
                go_wp2_with fail
                rw [show txt ET ++ ByteArray.mk #[0] = txt (ET ++ [0]) from txt_app ET [0]]
                refine (HP2.out B).mono ?_
                rintro e w4 ⟨rfl, hb4⟩
                have H51 := Go.Proofs.Ytpaakikgfojplab.hid ((hb4.block _ (lt_of_block H41.out)).trans H41.out)
                have H52 := Go.Proofs.Ytpaakikgfojplab.hid ((hb4.block _ (lt_of_block H42.out)).trans H42.out)
                have H53 := Go.Proofs.Ytpaakikgfojplab.hid ((hb4.block _ (lt_of_block HBR.out)).trans HBR.out)
                have HB5 := Go.Proofs.Ytpaakikgfojplab.hid (HB4.out.trans (hb4.mono HB4.out.size))
                clear hb4 H41 H42 HBR HB4 HP2
                go_upto_region 8 with fail
                generalize hA : w4.alloc (.cells #[.int .i64 0, .int .i64 0, .int .i64 0, .int .i64 0, .int .i64 0, .int .i64 0, .int .i64 0] 42) = C at *
                obtain ⟨hsC, hbC, hCR⟩ := below_tx hA
                clear hA hsC hCR
                have h61 := (hbC.block _ (lt_of_block H51.out)).trans H51.out
                have h62 := (hbC.block _ (lt_of_block H52.out)).trans H52.out
                have h63 := (hbC.block _ (lt_of_block H53.out)).trans H53.out
                have HB6 := Go.Proofs.Ytpaakikgfojplab.hid (HB5.out.trans (hbC.mono HB5.out.size))
                clear hbC H51 H52 H53 HB5
                have x0 := cell_of_cells (j := 0) h61 rfl
                have x1 := cell_of_cells (j := 1) h61 rfl
                have x2 := cell_of_cells (j := 2) h61 rfl
                have x3 := cell_of_cells (j := 3) h61 rfl
                have x4 := cell_of_cells (j := 4) h61 rfl
                have x5 := cell_of_cells (j := 5) h61 rfl
                have x6 := cell_of_cells (j := 6) h61 rfl
                have z0 := cell_of_cells (j := 0) h63 rfl
                have z1 := cell_of_cells (j := 1) h63 rfl
                have z2 := cell_of_cells (j := 2) h63 rfl
                have z3 := cell_of_cells (j := 3) h63 rfl
                have z4 := cell_of_cells (j := 4) h63 rfl
                have z5 := cell_of_cells (j := 5) h63 rfl
                have z6 := cell_of_cells (j := 6) h63 rfl
                have H61 := Go.Proofs.Ytpaakikgfojplab.hid h61
                have H62 := Go.Proofs.Ytpaakikgfojplab.hid h62
                clear h61 h62 h63
                go_upto_region 10 with fail
                go_wp2_with fail
                rw [HCUT.out]
                refine (HP3.out C).mono ?_
                rintro e w5 ⟨rfl, hb5⟩
                have h71 := (hb5.block _ (lt_of_block H61.out)).trans H61.out
                have h72 := (hb5.block _ (lt_of_block H62.out)).trans H62.out
                have HB7 := Go.Proofs.Ytpaakikgfojplab.hid (HB6.out.trans (hb5.mono HB6.out.size))
                clear hb5 H61 H62 HB6 HP3 x0 x1 x2 x3 x4 x5 x6 z0 z1 z2 z3 z4 z5 z6 HCUT
                have x0 := cell_of_cells (j := 0) h71 rfl
                have x1 := cell_of_cells (j := 1) h71 rfl
                have x2 := cell_of_cells (j := 2) h71 rfl
                have x3 := cell_of_cells (j := 3) h71 rfl
                have x4 := cell_of_cells (j := 4) h71 rfl
                have x5 := cell_of_cells (j := 5) h71 rfl
                have x6 := cell_of_cells (j := 6) h71 rfl
                have y0 := cell_of_cells (j := 0) h72 rfl
                have y1 := cell_of_cells (j := 1) h72 rfl
                have y2 := cell_of_cells (j := 2) h72 rfl
                have y3 := cell_of_cells (j := 3) h72 rfl
                have y4 := cell_of_cells (j := 4) h72 rfl
                have y5 := cell_of_cells (j := 5) h72 rfl
                have y6 := cell_of_cells (j := 6) h72 rfl
                clear h71 h72
                have hl1 := txt_list ET
                have hl2 := txt_list GT
                cases gl : low ⟨b0, b1, b2, b3, b4, b5, b6⟩
                · have hGE : GE = 0 := by rw [HGE.out, gl]; rfl
                  have hGT : GT = enc ⟨b0, b1, b2, b3, b4, b5, b6⟩ := by rw [HGT.out, gl]; rfl
                  have hbb : (ET == GT) = eqH ⟨a0, a1, a2, a3, a4, a5, a6⟩ ⟨b0, b1, b2, b3, b4, b5, b6⟩ := by
                    rw [Bool.eq_iff_iff, HEQ.out, beq_iff_eq, hGT]
                    constructor
                    · intro e
                      exact HINJ.out gl e
                    · intro e
                      rw [HTE.out, e]
                  have HBB := Go.Proofs.Ytpaakikgfojplab.hid hbb
                  subst hGE
                  clear hGT HGT HGE HINJ HTE HEQ hbb gl
                  go_wp2
                  go_ret
                  exact ⟨by simp [HBB.out], HB7.out⟩
                · have hGE : GE = 1 := by rw [HGE.out, gl]; rfl
                  subst hGE
                  clear HGT HGE HINJ HTE HEQ gl
                  go_wp2
                  go_ret
                  exact ⟨rfl, HB7.out⟩

end Go.Proofs.Ytpaakikgfojplab

