import Derived.Test.YtpaakikgfojplaaCTxN
import Derived.Test.YtpaakikgfojplaaCTxE
/-
  THE WALKS of the document's texts: Encode.
-/
namespace Go.Proofs.Ytpaakikgfojplaa
open Go.RowKit Num Bk Tx
set_option linter.unusedVariables false

set_option maxHeartbeats 1600000 in
set_option maxRecDepth 1000000 in
theorem fields_is (h : Hdr) (w : World) :
    Calls Try.prog 39 #[hdrV h] w fun e w' => ∃ g, e = .returned (.slice (some ⟨g, 0, none⟩) 7 7) ∧ w'.heap[g]? = some (.cells #[.int .i64 h.slot, .int .i64 h.pool, .int .i64 h.proof, .int .i64 h.count, .int .i64 h.frm, .int .i64 h.dst, .int .i64 h.amount] 3 (0, 0)) ∧ Below w.heap.size w w' := by
  obtain ⟨a0, a1, a2, a3, a4, a5, a6⟩ := h
  unfold hdrV
  simp only
  have HF := Go.Proofs.Ytpaakikgfojplaa.hid (below_tx2 (w := w) (cs := #[.int .i64 a0, .int .i64 a1, .int .i64 a2, .int .i64 a3, .int .i64 a4, .int .i64 a5, .int .i64 a6]) (t := 30) (ds := #[.int .i64 a0, .int .i64 a1, .int .i64 a2, .int .i64 a3, .int .i64 a4, .int .i64 a5, .int .i64 a6]) (u := 3) rfl)
  go_enter Try.func39, Try.ntmps39
  go_wp2
  go_ret
  exact ⟨w.heap.size + 1, rfl, HF.out.2.2.2, HF.out.2.1⟩

set_option maxHeartbeats 1600000 in
set_option maxRecDepth 1000000 in
theorem rencode_is (h : Hdr) (w : World) (hf : Fits h) :
    Calls Try.prog 17 #[hdrV h] w fun e w' => e = .returned (.tuple #[.string (txt (encT h)), .int .i64 (encE h)]) ∧ Below w.heap.size w w' := by
  have HT := Go.Proofs.Ytpaakikgfojplaa.hid (show encT h = if low h then [] else enc h from rfl)
  have HE := Go.Proofs.Ytpaakikgfojplaa.hid (show encE h = if low h then 1 else 0 from rfl)
  have HL := Go.Proofs.Ytpaakikgfojplaa.hid (show low h = (flds h).any fun x => decide (x < 0) from rfl)
  have HC := Go.Proofs.Ytpaakikgfojplaa.hid (show enc h = 135 :: nums ((flds h).map Int.toNat) from rfl)
  have HF := Go.Proofs.Ytpaakikgfojplaa.hid (fun k (hk : k < 7) => hf ((flds h).getD k 0) (by have hk' : k < (flds h).length := hk; rw [show (flds h).getD k 0 = (flds h)[k] from by simp [List.getD, hk']]; exact List.getElem_mem _))
  have hfl := flds_length h
  have hcl : ∀ k, k < 7 → (#[.int .i64 h.slot, .int .i64 h.pool, .int .i64 h.proof, .int .i64 h.count, .int .i64 h.frm, .int .i64 h.dst, .int .i64 h.amount] : Array Value)[k]? = some (.int .i64 ((flds h).getD k 0)) := by
    intro k hk
    match k, hk with
    | 0, _ => rfl
    | 1, _ => rfl
    | 2, _ => rfl
    | 3, _ => rfl
    | 4, _ => rfl
    | 5, _ => rfl
    | 6, _ => rfl
  have HCL := Go.Proofs.Ytpaakikgfojplaa.hid hcl
  clear hcl hf
  generalize encT h = T at *
  generalize encE h = E at *
  generalize low h = lo at *
  generalize enc h = N at *
  generalize flds h = L at *
  obtain ⟨a0, a1, a2, a3, a4, a5, a6⟩ := h
  unfold hdrV
  simp only at HCL ⊢
  go_enter Try.func17, Try.ntmps17
  go_upto_region 1 with fail
  generalize hA0 : w.alloc (.cells #[.int .i64 a0, .int .i64 a1, .int .i64 a2, .int .i64 a3, .int .i64 a4, .int .i64 a5, .int .i64 a6] 30) = A0 at *
  obtain ⟨hsA0, hbA0, hAR0⟩ := below_tx hA0
  clear hA0
  have a00 := cell_of_cells (j := 0) hAR0 rfl
  have a01 := cell_of_cells (j := 1) hAR0 rfl
  have a02 := cell_of_cells (j := 2) hAR0 rfl
  have a03 := cell_of_cells (j := 3) hAR0 rfl
  have a04 := cell_of_cells (j := 4) hAR0 rfl
  have a05 := cell_of_cells (j := 5) hAR0 rfl
  have a06 := cell_of_cells (j := 6) hAR0 rfl
  go_wp2_with fail
  refine (fields_is ⟨a0, a1, a2, a3, a4, a5, a6⟩ A0).mono ?_
  rintro e A ⟨gf, rfl, hA2, hbA1⟩
  have hbA := hbA0.trans (hbA1.mono (by omega))
  have hgA := lt_of_block hA2
  clear hbA0 hbA1 hsA0 hAR0 a00 a01 a02 a03 a04 a05 a06
  have hcv := txt_new A 135 (by omega) (by omega) 1
  go_upto_region 3 with fail
  generalize hB : A.alloc (.cells #[.int .u8 135] 5) = B at *
  obtain ⟨hsB, hbB, _⟩ := below_tx hB
  clear hB hcv
  have hB2 := (hbB.block gf hgA).trans hA2
  have HBB := Go.Proofs.Ytpaakikgfojplaa.hid (hbA.trans (hbB.mono hbA.size))
  have hcell : ∀ k, k < 7 → B.cell? ⟨gf, k, none⟩ = some (.int .i64 (L.getD k 0)) := fun k hk => cell_of_cells (j := k) hB2 (HCL.out k hk)
  have HCE := Go.Proofs.Ytpaakikgfojplaa.hid hcell
  have hlt0 : gf < B.heap.size := lt_of_block hB2
  clear hbA hA2 hbB hB2 hcell HCL hsB hgA
  go_wp2
  go_loopw [5, 6] (fun t i wr => ∃ k : Nat, k ≤ 7 ∧ i = .int .i64 k ∧ t = .string (txt (135 :: nums ((L.take k).map Int.toNat))) ∧ Hid ((L.take k).any (fun x => decide (x < 0)) = false) ∧ Below B.heap.size B wr) (fun _ i _ => 7 - (intOf i).toNat)
  case atStart => exact ⟨0, Nat.zero_le _, rfl, rfl, rfl, Below.refl _ _⟩
  case round =>
    obtain ⟨k, hk, rfl, rfl, HN, hb⟩ := hrel
    by_cases hlt : k < 7
    · have hlt' : (k : Int) < 7 := by omega
      have hi0 : (0 : Int) ≤ (k : Int) := by omega
      have cK := (hb.cell (p := ⟨gf, k, none⟩) hlt0).trans (HCE.out k hlt)
      have hfk := HF.out k hlt
      have HST := Go.Proofs.Ytpaakikgfojplaa.hid (low_take L k (by omega) HN.out)
      have HNT := Go.Proofs.Ytpaakikgfojplaa.hid (nums_take L k (by omega))
      have HLA := Go.Proofs.Ytpaakikgfojplaa.hid (low_any L k (by omega))
      have hnl := nums_le ((L.take k).map Int.toNat)
      have hnl2 : ((L.take k).map Int.toNat).length ≤ 7 := by simp; omega
      generalize nums ((L.take k).map Int.toNat) = NT at *
      generalize L.getD k 0 = x at *
      by_cases hx : x < 0
      · have hlo : lo = true := HL.out.trans (HLA.out hx)
        have hT : T = [] := by rw [HT.out, hlo]; rfl
        have hE : E = 1 := by rw [HE.out, hlo]; rfl
        have HR := Go.Proofs.Ytpaakikgfojplaa.hid (HBB.out.trans (hb.mono HBB.out.size))
        subst hT
        subst hE
        clear HT HE HL HC HF HN HST HNT HLA hb HCE
        go_wp2
        go_ret2
        exact ⟨rfl, HR.out⟩
      · obtain ⟨m, rfl⟩ : ∃ m : Nat, x = (m : Int) := ⟨x.toNat, by omega⟩
        rw [Int.toNat_natCast] at HNT
        have hml := num_le m
        have hif : ¬ 9223372036854775807 < (txt (135 :: NT)).size + (txt (num m)).size := by rw [txt_size, txt_size, List.length_cons]; omega
        have HAP := Go.Proofs.Ytpaakikgfojplaa.hid (show txt (135 :: NT) ++ txt (num m) = txt (135 :: (NT ++ num m)) by rw [txt_app]; rfl)
        have HN2 : Hid ((L.take (k + 1)).any (fun x => decide (x < 0)) = false) := HST.out.trans (by simp)
        clear HST HLA HN
        go_wp2_with fail
        refine (number_is m _ (by omega)).mono ?_
        rintro e w2 ⟨rfl, hb2⟩
        have HB2 := Go.Proofs.Ytpaakikgfojplaa.hid (hb.trans (hb2.mono hb.size))
        clear hb hb2 cK
        generalize txt (num m) = TM at *
        go_wp2
        go_roundw
        case rel => exact ⟨k + 1, by omega, by go_num, by rw [HNT.out]; exact congrArg Value.string HAP.out, HN2, HB2.out⟩
        case measure => simp [intOf]; omega
    · have hk7 : k = 7 := by omega
      subst hk7
      have hlo : lo = false := by have := HN.out; rw [List.take_of_length_le (by omega)] at this; exact HL.out.trans this
      have hT : T = 135 :: nums ((L.take 7).map Int.toNat) := by rw [HT.out, hlo, HC.out, List.take_of_length_le (by omega)]; rfl
      have hE : E = 0 := by rw [HE.out, hlo]; rfl
      have HR := Go.Proofs.Ytpaakikgfojplaa.hid (HBB.out.trans (hb.mono HBB.out.size))
      rw [← hT]
      subst hE
      clear HT HE HL HC HF HN hb HCE hT
      go_wp2
      go_ret2
      exact ⟨rfl, HR.out⟩

end Go.Proofs.Ytpaakikgfojplaa

