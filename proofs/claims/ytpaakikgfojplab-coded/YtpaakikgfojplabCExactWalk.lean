import Derived.Test.YtpaakikgfojplabCTxP
/-
  THE WALK of the law Exact.
-/
namespace Go.Proofs.Ytpaakikgfojplab
open Go.RowKit Num Bk Tx
set_option linter.unusedVariables false

theorem run_neq_hdr (w : World) (b0 b1 b2 b3 b4 b5 b6 a0 a1 a2 a3 a4 a5 a6 : Int) :
    (binOp .neq 42 (.agg #[.int .i64 b0, .int .i64 b1, .int .i64 b2, .int .i64 b3, .int .i64 b4, .int .i64 b5, .int .i64 b6]) (.agg #[.int .i64 a0, .int .i64 a1, .int .i64 a2, .int .i64 a3, .int .i64 a4, .int .i64 a5, .int .i64 a6])).run Try.prog w =
      .ok (.bool (!(eqH ⟨b0, b1, b2, b3, b4, b5, b6⟩ ⟨a0, a1, a2, a3, a4, a5, a6⟩))) w := by
  go_simp
  unfold eqH
  (repeat' split) <;> simp_all
attribute [local go_sem ↓] run_eql_hdr run_neq_hdr

theorem dec_one : dec [135, 1, 0, 24, 236, 0, 0, 1, 2] = some ⟨1, 0, 236, 0, 0, 1, 2⟩ := by
  have h : seven [135, 1, 0, 24, 236, 0, 0, 1, 2] = some [1, 0, 236, 0, 0, 1, 2] := by decide +kernel
  unfold dec
  rw [h]
  rfl

set_option maxHeartbeats 1600000 in
set_option maxRecDepth 1000000 in
theorem exact_any (t : List UInt8) (w : World) (ht : t.length ≤ maxLen) :
    Calls Try.prog 7 #[.string (txt t)] w fun e w' => e = .returned (.bool true) ∧ Below w.heap.size w w' := by
  have HTL := Go.Proofs.Ytpaakikgfojplab.hid ht
  clear ht
  have HD1 := Go.Proofs.Ytpaakikgfojplab.hid (show decH [135, 1, 0, 24, 236, 0, 0, 1, 2] = ⟨1, 0, 236, 0, 0, 1, 2⟩ ∧ decE [135, 1, 0, 24, 236, 0, 0, 1, 2] = 0 from ⟨by unfold decH; rw [dec_one]; rfl, by unfold decE; rw [dec_one]; rfl⟩)
  have heq1 : eqH ⟨1, 0, 236, 0, 0, 1, 2⟩ ⟨1, 0, 236, 0, 0, 1, 2⟩ = true := eqH_refl _
  go_enter Try.func7, Try.ntmps7
  go_wp2_with fail
  refine (pdecode_is [135, 1, 0, 24, 236, 0, 0, 1, 2] _ (by show _ ≤ 9223372036854775807; simp)).mono ?_
  rintro e w1 ⟨rfl, hb1⟩
  rw [HD1.out.1, HD1.out.2]
  unfold hdrC
  simp only
  clear HD1
  go_upto_region 2 with fail
  generalize hA : w1.alloc (.cells #[.int .i64 1, .int .i64 0, .int .i64 236, .int .i64 0, .int .i64 0, .int .i64 1, .int .i64 2] 42) = A at *
  obtain ⟨hsA, hbA, hAR⟩ := below_tx hA
  clear hA
  have HBA := Go.Proofs.Ytpaakikgfojplab.hid (hb1.trans (hbA.mono hb1.size))
  have hlA : w1.heap.size < A.heap.size := by omega
  clear hb1 hbA hsA
  go_wp2_with fail
  refine (pdecode_is t _ HTL.out).mono ?_
  rintro e w2 ⟨rfl, hb2⟩
  have hAR2 := (hb2.block _ hlA).trans hAR
  have HB2 := Go.Proofs.Ytpaakikgfojplab.hid (HBA.out.trans (hb2.mono HBA.out.size))
  clear hb2 hAR HBA hlA
  cases hd : dec t with
  | none =>
    rw [show decH t = zeroH by unfold decH; rw [hd]; rfl, show decE t = 13 by unfold decE; rw [hd]; rfl]
    have heq0 : eqH ⟨0, 0, 0, 0, 0, 0, 0⟩ ⟨0, 0, 0, 0, 0, 0, 0⟩ = true := eqH_refl _
    unfold hdrC zeroH
    simp only
    clear hd HTL
    go_upto_region 3 with fail
    generalize hA : w2.alloc (.cells #[.int .i64 0, .int .i64 0, .int .i64 0, .int .i64 0, .int .i64 0, .int .i64 0, .int .i64 0] 42) = B at *
    obtain ⟨hsB, hbB, hBR⟩ := below_tx hA
    clear hA
    have hl2 := lt_of_block hAR2
    have hAR3 := (hbB.block _ hl2).trans hAR2
    have HB3 := Go.Proofs.Ytpaakikgfojplab.hid (HB2.out.trans (hbB.mono HB2.out.size))
    clear hAR2 HB2 hbB hsB
    have a0 := cell_of_cells (j := 0) hAR3 rfl
    have a1 := cell_of_cells (j := 1) hAR3 rfl
    have a2 := cell_of_cells (j := 2) hAR3 rfl
    have a3 := cell_of_cells (j := 3) hAR3 rfl
    have a4 := cell_of_cells (j := 4) hAR3 rfl
    have a5 := cell_of_cells (j := 5) hAR3 rfl
    have a6 := cell_of_cells (j := 6) hAR3 rfl
    have b0 := cell_of_cells (j := 0) hBR rfl
    have b1 := cell_of_cells (j := 1) hBR rfl
    have b2 := cell_of_cells (j := 2) hBR rfl
    have b3 := cell_of_cells (j := 3) hBR rfl
    have b4 := cell_of_cells (j := 4) hBR rfl
    have b5 := cell_of_cells (j := 5) hBR rfl
    have b6 := cell_of_cells (j := 6) hBR rfl
    clear hAR3 hBR
    go_wp2
    go_ret
    exact ⟨rfl, HB3.out⟩
  | some h =>
    obtain ⟨he, hl, hf⟩ := dec_some hd
    have HE := Go.Proofs.Ytpaakikgfojplab.hid (fun W => pencode_is h W hf)
    have hT : encT h = t := by unfold encT; rw [hl, he]; rfl
    have hE : encE h = 0 := by unfold encE; rw [hl]; rfl
    rw [hT, hE] at HE
    rw [show decH t = h by unfold decH; rw [hd]; rfl, show decE t = 0 by unfold decE; rw [hd]; rfl]
    clear hd he hl hf hT hE HTL
    obtain ⟨c0, c1, c2, c3, c4, c5, c6⟩ := h
    unfold hdrC
    unfold hdrV at HE
    simp only at HE ⊢
    go_upto_region 3 with fail
    generalize hA : w2.alloc (.cells #[.int .i64 c0, .int .i64 c1, .int .i64 c2, .int .i64 c3, .int .i64 c4, .int .i64 c5, .int .i64 c6] 42) = B at *
    obtain ⟨hsB, hbB, hBR⟩ := below_tx hA
    clear hA
    have hl2 := lt_of_block hAR2
    have hAR3 := (hbB.block _ hl2).trans hAR2
    have HB3 := Go.Proofs.Ytpaakikgfojplab.hid (HB2.out.trans (hbB.mono HB2.out.size))
    clear hAR2 HB2 hbB hsB
    have a0 := cell_of_cells (j := 0) hAR3 rfl
    have a1 := cell_of_cells (j := 1) hAR3 rfl
    have a2 := cell_of_cells (j := 2) hAR3 rfl
    have a3 := cell_of_cells (j := 3) hAR3 rfl
    have a4 := cell_of_cells (j := 4) hAR3 rfl
    have a5 := cell_of_cells (j := 5) hAR3 rfl
    have a6 := cell_of_cells (j := 6) hAR3 rfl
    have b0 := cell_of_cells (j := 0) hBR rfl
    have b1 := cell_of_cells (j := 1) hBR rfl
    have b2 := cell_of_cells (j := 2) hBR rfl
    have b3 := cell_of_cells (j := 3) hBR rfl
    have b4 := cell_of_cells (j := 4) hBR rfl
    have b5 := cell_of_cells (j := 5) hBR rfl
    have b6 := cell_of_cells (j := 6) hBR rfl
    clear hAR3 hBR
    go_wp2_with fail
    refine (HE.out B).mono ?_
    rintro e w3 ⟨rfl, hb3⟩
    have HB4 := Go.Proofs.Ytpaakikgfojplab.hid (HB3.out.trans (hb3.mono HB3.out.size))
    clear a0 a1 a2 a3 a4 a5 a6 b0 b1 b2 b3 b4 b5 b6 hb3 HB3 HE
    go_wp2
    go_ret
    exact ⟨by simp, HB4.out⟩

end Go.Proofs.Ytpaakikgfojplab

