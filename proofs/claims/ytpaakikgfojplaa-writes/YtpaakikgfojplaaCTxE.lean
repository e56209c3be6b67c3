import Derived.Test.YtpaakikgfojplaaCTxW
import Derived.Test.YtpaakikgfojplaaCRefThere
/-
  THE WALKS of the program's texts: Encode.
-/
namespace Go.Proofs.Ytpaakikgfojplaa
open Go.RowKit Num Bk Tx
set_option linter.unusedVariables false

/-- What Encode tells. -/
def encT (h : Hdr) : List UInt8 := if low h then [] else enc h
def encE (h : Hdr) : Int := if low h then 1 else 0

theorem flds_length (h : Hdr) : (flds h).length = 7 := rfl
theorem low_take (L : List Int) (k : Nat) (h : k < L.length) (hn : (L.take k).any (fun x => decide (x < 0)) = false) : (L.take (k + 1)).any (fun x => decide (x < 0)) = decide (L.getD k 0 < 0) := by
  rw [List.take_succ_eq_append_getElem h, List.any_append, hn]
  simp [List.getD, h]
theorem low_any (L : List Int) (k : Nat) (h : k < L.length) (hn : L.getD k 0 < 0) : L.any (fun x => decide (x < 0)) = true := by
  rw [List.any_eq_true]
  refine ⟨L.getD k 0, ?_, by simpa using hn⟩
  rw [show L.getD k 0 = L[k] from by simp [List.getD, h]]
  exact List.getElem_mem h
theorem nums_take (L : List Int) (k : Nat) (h : k < L.length) : nums ((L.take (k + 1)).map Int.toNat) = nums ((L.take k).map Int.toNat) ++ num (L.getD k 0).toNat := by
  rw [List.take_succ_eq_append_getElem h, List.map_append]
  show nums (_ ++ [L[k].toNat]) = _
  rw [nums_snoc]
  simp [List.getD, h]

set_option maxHeartbeats 1600000 in
set_option maxRecDepth 1000000 in
theorem tencode_is (h : Hdr) (w : World) (hf : Fits h) :
    Calls Try.prog 38 #[hdrV h] w fun e w' => e = .returned (.tuple #[.string (txt (encT h)), .int .i64 (encE h)]) ∧ Below w.heap.size w w' := by
  have HT := Go.Proofs.Ytpaakikgfojplaa.hid (show encT h = if low h then [] else enc h from rfl)
  have HE := Go.Proofs.Ytpaakikgfojplaa.hid (show encE h = if low h then 1 else 0 from rfl)
  have HL := Go.Proofs.Ytpaakikgfojplaa.hid (show low h = (flds h).any fun x => decide (x < 0) from rfl)
  have HC := Go.Proofs.Ytpaakikgfojplaa.hid (show enc h = 135 :: nums ((flds h).map Int.toNat) from rfl)
  have HF := Go.Proofs.Ytpaakikgfojplaa.hid (fun k (hk : k < 7) => hf ((flds h).getD k 0) (by have hk' : k < (flds h).length := hk; rw [show (flds h).getD k 0 = (flds h)[k] from by simp [List.getD, hk']]; exact List.getElem_mem _))
  have hfl := flds_length h
  have hcl : ∀ k, k < 7 → (#[.int .i64 h.slot, .int .i64 h.pool, .int .i64 h.proof, .int .i64 h.count, .int .i64 h.frm, .int .i64 h.dst, .int .i64 h.amount] : Array Value)[k]? = some (.int .i64 ((flds h).getD k 0)) := by
    intro k hk
    match k, hk with
    | 0, _ => rfl
    | 1, _ => rfl
    | 2, _ => rfl
    | 3, _ => rfl
    | 4, _ => rfl
    | 5, _ => rfl
    | 6, _ => rfl
  have HCL := Go.Proofs.Ytpaakikgfojplaa.hid hcl
  clear hcl hf
  generalize encT h = T at *
  generalize encE h = E at *
  generalize low h = lo at *
  generalize enc h = N at *
  generalize flds h = L at *
  obtain ⟨a0, a1, a2, a3, a4, a5, a6⟩ := h
  unfold hdrV
  simp only at HCL ⊢
  go_enter Try.func38, Try.ntmps38
  go_upto_region 2 with fail
  generalize hA : (w.alloc (.cells #[.int .i64 a0, .int .i64 a1, .int .i64 a2, .int .i64 a3, .int .i64 a4, .int .i64 a5, .int .i64 a6] 30)).alloc (.cells #[.int .i64 a0, .int .i64 a1, .int .i64 a2, .int .i64 a3, .int .i64 a4, .int .i64 a5, .int .i64 a6] 67) = A at *
  obtain ⟨hsA, hbA, _, hA2⟩ := below_tx2 hA
  have hsA' : w.heap.size + 2 ≤ A.heap.size := by omega
  clear hA hsA
  have hcv := txt_new A 135 (by omega) (by omega) 1
  go_upto_region 3 with fail
  generalize hB : A.alloc (.cells #[.int .u8 135] 5) = B at *
  obtain ⟨hsB, hbB, _⟩ := below_tx hB
  clear hB hcv
  have hB2 := (hbB.block (w.heap.size + 1) (by omega)).trans hA2
  have HBB := Go.Proofs.Ytpaakikgfojplaa.hid (hbA.trans (hbB.mono (by omega)))
  have hcell : ∀ k, k < 7 → B.cell? ⟨w.heap.size + 1, k, none⟩ = some (.int .i64 (L.getD k 0)) := fun k hk => cell_of_cells (j := k) hB2 (HCL.out k hk)
  have HCE := Go.Proofs.Ytpaakikgfojplaa.hid hcell
  have hlt0 : w.heap.size + 1 < B.heap.size := lt_of_block hB2
  clear hbA hA2 hbB hB2 hcell HCL hsA' hsB
  go_wp2
  go_loopw [5, 6] (fun t i wr => ∃ k : Nat, k ≤ 7 ∧ i = .int .i64 k ∧ t = .string (txt (135 :: nums ((L.take k).map Int.toNat))) ∧ Hid ((L.take k).any (fun x => decide (x < 0)) = false) ∧ Below B.heap.size B wr) (fun _ i _ => 7 - (intOf i).toNat)
  case atStart => exact ⟨0, Nat.zero_le _, rfl, rfl, rfl, Below.refl _ _⟩
  case round =>
    obtain ⟨k, hk, rfl, rfl, HN, hb⟩ := hrel
    by_cases hlt : k < 7
    · have hlt' : (k : Int) < 7 := by omega
      have hi0 : (0 : Int) ≤ (k : Int) := by omega
      have cK := (hb.cell (p := ⟨w.heap.size + 1, k, none⟩) hlt0).trans (HCE.out k hlt)
      have hfk := HF.out k hlt
      have HST := Go.Proofs.Ytpaakikgfojplaa.hid (low_take L k (by omega) HN.out)
      have HNT := Go.Proofs.Ytpaakikgfojplaa.hid (nums_take L k (by omega))
      have HLA := Go.Proofs.Ytpaakikgfojplaa.hid (low_any L k (by omega))
      have hnl := nums_le ((L.take k).map Int.toNat)
      have hnl2 : ((L.take k).map Int.toNat).length ≤ 7 := by simp; omega
      generalize nums ((L.take k).map Int.toNat) = NT at *
      generalize L.getD k 0 = x at *
      by_cases hx : x < 0
      · have hlo : lo = true := HL.out.trans (HLA.out hx)
        have hT : T = [] := by rw [HT.out, hlo]; rfl
        have hE : E = 1 := by rw [HE.out, hlo]; rfl
        have HR := Go.Proofs.Ytpaakikgfojplaa.hid (HBB.out.trans (hb.mono HBB.out.size))
        subst hT
        subst hE
        clear HT HE HL HC HF HN HST HNT HLA hb HCE
        go_wp2
        go_ret2
        exact ⟨rfl, HR.out⟩
      · obtain ⟨m, rfl⟩ : ∃ m : Nat, x = (m : Int) := ⟨x.toNat, by omega⟩
        rw [Int.toNat_natCast] at HNT
        have hml := num_le m
        have hif : ¬ 9223372036854775807 < (txt (135 :: NT)).size + (txt (num m)).size := by rw [txt_size, txt_size, List.length_cons]; omega
        have HAP := Go.Proofs.Ytpaakikgfojplaa.hid (show txt (135 :: NT) ++ txt (num m) = txt (135 :: (NT ++ num m)) by rw [txt_app]; rfl)
        have HN2 : Hid ((L.take (k + 1)).any (fun x => decide (x < 0)) = false) := HST.out.trans (by simp)
        clear HST HLA HN
        go_wp2_with fail
        refine (write_is m _ (by omega)).mono ?_
        rintro e w2 ⟨rfl, hb2⟩
        have HB2 := Go.Proofs.Ytpaakikgfojplaa.hid (hb.trans (hb2.mono hb.size))
        clear hb hb2 cK
        generalize txt (num m) = TM at *
        go_wp2
        go_roundw
        case rel => exact ⟨k + 1, by omega, by go_num, by rw [HNT.out]; exact congrArg Value.string HAP.out, HN2, HB2.out⟩
        case measure => simp [intOf]; omega
    · have hk7 : k = 7 := by omega
      subst hk7
      have hlo : lo = false := by have := HN.out; rw [List.take_of_length_le (by omega)] at this; exact HL.out.trans this
      have hT : T = 135 :: nums ((L.take 7).map Int.toNat) := by rw [HT.out, hlo, HC.out, List.take_of_length_le (by omega)]; rfl
      have hE : E = 0 := by rw [HE.out, hlo]; rfl
      have HR := Go.Proofs.Ytpaakikgfojplaa.hid (HBB.out.trans (hb.mono HBB.out.size))
      rw [← hT]
      subst hE
      clear HT HE HL HC HF HN hb HCE hT
      go_wp2
      go_ret2
      exact ⟨rfl, HR.out⟩

end Go.Proofs.Ytpaakikgfojplaa

