import Derived.Test.YtpaakikgfojplaaCTxP
import Derived.Test.YtpaakikgfojplaaCTxQ
/-
  THE WALK of the law Reads.
-/
namespace Go.Proofs.Ytpaakikgfojplaa
open Go.RowKit Num Bk Tx
set_option linter.unusedVariables false
attribute [local go_sem ↓] run_eql_hdr

set_option maxHeartbeats 1600000 in
set_option maxRecDepth 1000000 in
theorem reads_any (t : List UInt8) (w : World) (ht : t.length ≤ maxLen) :
    Calls Try.prog 6 #[.string (txt t)] w fun e w' => e = .returned (.bool true) ∧ Below w.heap.size w w' := by
  have HP := Go.Proofs.Ytpaakikgfojplaa.hid (fun W => pdecode_is t W ht)
  have HR := Go.Proofs.Ytpaakikgfojplaa.hid (fun W => rdecode_is t W ht)
  clear ht
  generalize decH t = h at *
  generalize decE t = E at *
  generalize txt t = T at *
  obtain ⟨a0, a1, a2, a3, a4, a5, a6⟩ := h
  unfold hdrC at HP HR
  simp only at HP HR
  have heq : eqH ⟨a0, a1, a2, a3, a4, a5, a6⟩ ⟨a0, a1, a2, a3, a4, a5, a6⟩ = true := eqH_refl _
  go_enter Try.func6, Try.ntmps6
  go_wp2_with fail
  refine (HP.out w).mono ?_
  rintro e w1 ⟨rfl, hb1⟩
  go_upto_region 2 with fail
  generalize hA : w1.alloc (.cells #[.int .i64 a0, .int .i64 a1, .int .i64 a2, .int .i64 a3, .int .i64 a4, .int .i64 a5, .int .i64 a6] 30) = A at *
  obtain ⟨hsA, hbA, hAR⟩ := below_tx hA
  have hlA : w1.heap.size < A.heap.size := by omega
  have HBA := Go.Proofs.Ytpaakikgfojplaa.hid (hb1.trans (hbA.mono hb1.size))
  clear hA hsA hb1 hbA HP
  go_wp2_with fail
  refine (HR.out A).mono ?_
  rintro e w2 ⟨rfl, hb2⟩
  have hA2 := (hb2.block _ hlA).trans hAR
  have HB2 := Go.Proofs.Ytpaakikgfojplaa.hid (HBA.out.trans (hb2.mono HBA.out.size))
  clear hb2 hAR hlA HBA HR
  go_upto_region 3 with fail
  generalize hA : w2.alloc (.cells #[.int .i64 a0, .int .i64 a1, .int .i64 a2, .int .i64 a3, .int .i64 a4, .int .i64 a5, .int .i64 a6] 30) = B at *
  obtain ⟨hsB, hbB, hBR⟩ := below_tx hA
  have hA3 := (hbB.block _ (lt_of_block hA2)).trans hA2
  have HB3 := Go.Proofs.Ytpaakikgfojplaa.hid (HB2.out.trans (hbB.mono HB2.out.size))
  clear hA hsB hbB hA2 HB2
  have x0 := cell_of_cells (j := 0) hA3 rfl
  have x1 := cell_of_cells (j := 1) hA3 rfl
  have x2 := cell_of_cells (j := 2) hA3 rfl
  have x3 := cell_of_cells (j := 3) hA3 rfl
  have x4 := cell_of_cells (j := 4) hA3 rfl
  have x5 := cell_of_cells (j := 5) hA3 rfl
  have x6 := cell_of_cells (j := 6) hA3 rfl
  have y0 := cell_of_cells (j := 0) hBR rfl
  have y1 := cell_of_cells (j := 1) hBR rfl
  have y2 := cell_of_cells (j := 2) hBR rfl
  have y3 := cell_of_cells (j := 3) hBR rfl
  have y4 := cell_of_cells (j := 4) hBR rfl
  have y5 := cell_of_cells (j := 5) hBR rfl
  have y6 := cell_of_cells (j := 6) hBR rfl
  clear hA3 hBR
  go_wp2
  go_ret
  exact ⟨by simp, HB3.out⟩

end Go.Proofs.Ytpaakikgfojplaa

