import Derived.Test.YtpaakikgfojplaaCTxP
import Derived.Test.YtpaakikgfojplaaCTxO
/-
  THE WALK of the law Writes.
-/
namespace Go.Proofs.Ytpaakikgfojplaa
open Go.RowKit Num Bk Tx
set_option linter.unusedVariables false

set_option maxHeartbeats 1600000 in
set_option maxRecDepth 1000000 in
theorem writes_any (h : Hdr) (w : World) (hf : Fits h) :
    Calls Try.prog 5 #[hdrV h] w fun e w' => e = .returned (.bool true) ∧ Below w.heap.size w w' := by
  have HE := Go.Proofs.Ytpaakikgfojplaa.hid (fun W => pencode_is h W hf)
  have HG := Go.Proofs.Ytpaakikgfojplaa.hid (fun W => rencode_is h W hf)
  clear hf
  generalize encT h = T at *
  generalize encE h = E at *
  obtain ⟨a0, a1, a2, a3, a4, a5, a6⟩ := h
  unfold hdrV at *
  simp only at HE HG ⊢
  go_enter Try.func5, Try.ntmps5
  go_upto_region 1 with fail
  generalize hA : w.alloc (.cells #[.int .i64 a0, .int .i64 a1, .int .i64 a2, .int .i64 a3, .int .i64 a4, .int .i64 a5, .int .i64 a6] 30) = A at *
  obtain ⟨hsA, hbA, hAR⟩ := below_tx hA
  have hlA : w.heap.size < A.heap.size := by omega
  clear hA hsA
  have x0 := cell_of_cells (j := 0) hAR rfl
  have x1 := cell_of_cells (j := 1) hAR rfl
  have x2 := cell_of_cells (j := 2) hAR rfl
  have x3 := cell_of_cells (j := 3) hAR rfl
  have x4 := cell_of_cells (j := 4) hAR rfl
  have x5 := cell_of_cells (j := 5) hAR rfl
  have x6 := cell_of_cells (j := 6) hAR rfl
  go_wp2_with fail
  refine (HE.out A).mono ?_
  rintro e w1 ⟨rfl, hb1⟩
  have hA1 := (hb1.block _ hlA).trans hAR
  have HB1 := Go.Proofs.Ytpaakikgfojplaa.hid (hbA.trans (hb1.mono hbA.size))
  clear hb1 hAR hbA hlA HE x0 x1 x2 x3 x4 x5 x6
  have x0 := cell_of_cells (j := 0) hA1 rfl
  have x1 := cell_of_cells (j := 1) hA1 rfl
  have x2 := cell_of_cells (j := 2) hA1 rfl
  have x3 := cell_of_cells (j := 3) hA1 rfl
  have x4 := cell_of_cells (j := 4) hA1 rfl
  have x5 := cell_of_cells (j := 5) hA1 rfl
  have x6 := cell_of_cells (j := 6) hA1 rfl
  go_wp2_with fail
  refine (HG.out w1).mono ?_
  rintro e w2 ⟨rfl, hb2⟩
  have HB2 := Go.Proofs.Ytpaakikgfojplaa.hid (HB1.out.trans (hb2.mono HB1.out.size))
  clear hb2 hA1 HB1 HG x0 x1 x2 x3 x4 x5 x6
  go_wp2
  go_ret
  exact ⟨by simp, HB2.out⟩

end Go.Proofs.Ytpaakikgfojplaa

