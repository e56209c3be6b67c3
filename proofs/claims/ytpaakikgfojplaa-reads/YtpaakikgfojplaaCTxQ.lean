import Derived.Test.YtpaakikgfojplaaCTxL
import Derived.Test.YtpaakikgfojplaaCTxD
/-
  THE WALKS of the document's texts: Decode.
-/
namespace Go.Proofs.Ytpaakikgfojplaa
open Go.RowKit Num Bk Tx
set_option linter.unusedVariables false

def sevI (l : List Int) : Array Value := #[.int .i64 (l.getD 0 0), .int .i64 (l.getD 1 0), .int .i64 (l.getD 2 0), .int .i64 (l.getD 3 0), .int .i64 (l.getD 4 0), .int .i64 (l.getD 5 0), .int .i64 (l.getD 6 0)]
theorem sevI_snoc (l : List Int) (n : Int) (k : Nat) (hk : l.length = k) (h7 : k < 7) : (sevI l).setIfInBounds k (.int .i64 n) = sevI (l ++ [n]) := by
  have e : ∀ j, j < 7 → (l ++ [n]).getD j 0 = if j = k then n else l.getD j 0 := by
    intro j hj
    simp only [List.getD, List.getElem?_append]
    by_cases h : j < l.length
    · rw [if_pos h, if_neg (by omega)]
    · rw [if_neg h]
      by_cases h2 : j = k
      · rw [if_pos h2, show j - l.length = 0 by omega]; rfl
      · rw [if_neg h2, List.getElem?_eq_none (l := [n]) (by simp; omega), List.getElem?_eq_none (l := l) (by omega)]
  unfold sevI
  rw [e 0 (by omega), e 1 (by omega), e 2 (by omega), e 3 (by omega), e 4 (by omega), e 5 (by omega), e 6 (by omega)]
  match k, h7 with
  | 0, _ => rfl
  | 1, _ => rfl
  | 2, _ => rfl
  | 3, _ => rfl
  | 4, _ => rfl
  | 5, _ => rfl
  | 6, _ => rfl
/-- The two blocks of Decode. -/
structure DqAt (w wr : World) (l : List Int) : Prop where
  res : wr.heap[w.heap.size]? = some (.cells (hdrC zeroH) 30 (0, 0))
  arr : wr.heap[w.heap.size + 1]? = some (.cells (sevI l) 67 (0, 0))
  bel : Below w.heap.size w wr
/-- What was read, where the text is a header's. -/
def ReadsK (t : List UInt8) (k : Nat) (A : List Int) (p : Nat) : Prop := ∀ h, low h = false → Fits h → t = enc h → A = (flds h).take k ∧ t.drop p = nums (((flds h).drop k).map Int.toNat)

theorem low_get {h : Hdr} (hl : low h = false) (k : Nat) : 0 ≤ (flds h).getD k 0 := by
  obtain ⟨h0, h1, h2, h3, h4, h5, h6⟩ := low_false hl
  match k with
  | 0 => exact h0
  | 1 => exact h1
  | 2 => exact h2
  | 3 => exact h3
  | 4 => exact h4
  | 5 => exact h5
  | 6 => exact h6
  | n + 7 => simp [flds, List.getD]
theorem reads_step {t : List UInt8} {k p j : Nat} {A : List Int} {n : Int} (hk : k < 7) (h1 : ReadsK t k A p) (h2 : Reads1 t p n j) : ReadsK t (k + 1) (A ++ [n]) j := by
  intro h hl hf e
  obtain ⟨e1, e2⟩ := h1 h hl hf e
  have hk' : k < (flds h).length := hk
  have hd : (flds h).drop k = (flds h).getD k 0 :: (flds h).drop (k + 1) := by
    rw [List.drop_eq_getElem_cons hk']
    simp [List.getD, hk']
  have hx := low_get hl k
  have hxf : (flds h).getD k 0 ≤ 9223372036854775807 := hf _ (by rw [show (flds h).getD k 0 = (flds h)[k] from by simp [List.getD, hk']]; exact List.getElem_mem _)
  have hn : t.drop p = num ((flds h).getD k 0).toNat ++ nums (((flds h).drop (k + 1)).map Int.toNat) := by
    rw [e2, hd]
    simp [nums]
  obtain ⟨g1, g2⟩ := h2 _ _ (by omega) hn
  refine ⟨?_, ?_⟩
  · rw [g1, e1, List.take_succ_eq_append_getElem hk', show (((flds h).getD k 0).toNat : Int) = (flds h).getD k 0 by omega]
    simp [List.getD, hk']
  · rw [g2, ← List.drop_drop, hn, List.drop_left]

def ofI (l : List Int) : Hdr := ⟨l.getD 0 0, l.getD 1 0, l.getD 2 0, l.getD 3 0, l.getD 4 0, l.getD 5 0, l.getD 6 0⟩
theorem ofI_flds (h : Hdr) : ofI (flds h) = h := rfl
theorem fits_ofI {l : List Int} (h : ∀ x ∈ l, B64 x) : Fits (ofI l) := by
  have hx : ∀ i, l.getD i 0 ≤ 9223372036854775807 := by
    intro i
    by_cases hi : i < l.length
    · rw [List.getD_eq_getElem?_getD, List.getElem?_eq_getElem hi]
      exact (h _ (List.getElem_mem hi)).2
    · rw [List.getD_eq_getElem?_getD, List.getElem?_eq_none (by omega)]
      decide
  intro x hx'
  simp only [flds, ofI, List.mem_cons, List.not_mem_nil, or_false] at hx'
  rcases hx' with rfl | rfl | rfl | rfl | rfl | rfl | rfl <;> apply hx
/-- The header that was read is the text's, or none is. -/
theorem reads_end {t : List UInt8} {A : List Int} {p : Nat} (hA : A.length = 7) (hb : ∀ x ∈ A, B64 x) (h : ReadsK t 7 A p) :
    (encE (ofI A) = 0 ∧ encT (ofI A) = t ∧ decH t = ofI A ∧ decE t = 0) ∨ ((encE (ofI A) ≠ 0 ∨ encT (ofI A) ≠ t) ∧ decH t = zeroH ∧ decE t = 13) := by
  have hf := fits_ofI hb
  cases hd : dec t with
  | some g =>
    left
    obtain ⟨e, gl, gf⟩ := dec_some hd
    obtain ⟨e1, _⟩ := h g gl gf e
    rw [List.take_of_length_le (by show 7 ≤ 7; omega)] at e1
    have e2 : ofI A = g := by rw [e1]; rfl
    rw [e2]
    refine ⟨by unfold encE; rw [gl]; rfl, by unfold encT; rw [gl]; exact e.symm, by unfold decH; rw [hd]; rfl, by unfold decE; rw [hd]; rfl⟩
  | none =>
    right
    refine ⟨?_, by unfold decH; rw [hd]; rfl, by unfold decE; rw [hd]; rfl⟩
    by_cases h0 : encE (ofI A) = 0
    · right
      intro e
      have hl : low (ofI A) = false := by
        cases hlo : low (ofI A)
        · rfl
        · unfold encE at h0; rw [hlo] at h0; simp at h0
      have e2 : enc (ofI A) = t := by rw [← e]; unfold encT; rw [hl]; rfl
      rw [← e2, dec_enc hl hf] at hd
      simp at hd
    · exact Or.inl h0

set_option maxHeartbeats 3200000 in
set_option maxRecDepth 1000000 in
theorem rdecode_is (t : List UInt8) (w : World) (ht : t.length ≤ maxLen) :
    Calls Try.prog 19 #[.string (txt t)] w fun e w' => e = .returned (.tuple #[.agg (hdrC (decH t)), .int .i64 (decE t)]) ∧ Below w.heap.size w w' := by
  have HTL := Go.Proofs.Ytpaakikgfojplaa.hid ht
  clear ht
  have HEN := Go.Proofs.Ytpaakikgfojplaa.hid (fun (A : List Int) (p : Nat) (hA : A.length = 7) (hb : ∀ x ∈ A, B64 x) (h : ReadsK t 7 A p) => reads_end hA hb h)
  generalize decH t = DH at *
  generalize decE t = DE at *
  go_enter Try.func19, Try.ntmps19
  go_upto_region 3 with fail
  generalize hA : (w.alloc (.cells #[.int .i64 0, .int .i64 0, .int .i64 0, .int .i64 0, .int .i64 0, .int .i64 0, .int .i64 0] 30)).alloc (.cells #[.int .i64 0, .int .i64 0, .int .i64 0, .int .i64 0, .int .i64 0, .int .i64 0, .int .i64 0] 67) = A at *
  obtain ⟨hsA, hbA, hA1, hA2⟩ := below_tx2 hA
  have HAA : Hid (DqAt w A []) := ⟨hA1, hA2, hbA⟩
  clear hA hsA hbA hA1 hA2
  go_wp2
  go_loopw [4, 6] (fun a i wr => ∃ (k : Nat) (l : List Int) (p : Nat), k ≤ 7 ∧ p ≤ 1 + 9 * k ∧ i = .int .i64 k ∧ a = .int .i64 (p : Int) ∧ Hid (l.length = k ∧ (∀ x ∈ l, B64 x) ∧ ReadsK t k l p) ∧ Hid (DqAt w wr l)) (fun _ i _ => 7 - (intOf i).toNat)
  case atStart =>
    refine ⟨0, [], 1, Nat.zero_le _, Nat.le_refl _, rfl, rfl, ⟨rfl, by simp, ?_⟩, HAA⟩
    intro h hl hf e
    refine ⟨rfl, ?_⟩
    rw [e]
    rfl
  case round =>
    clear HAA
    obtain ⟨k, l, p, hk, hp, rfl, rfl, HL, HDC⟩ := hrel
    have HRS := Go.Proofs.Ytpaakikgfojplaa.hid HDC.out.res
    have HBE := Go.Proofs.Ytpaakikgfojplaa.hid HDC.out.bel
    by_cases hlt : k < 7
    · have hlt' : (k : Int) < 7 := by omega
      have HRC := Go.Proofs.Ytpaakikgfojplaa.hid (loose_is t p wr HTL.out (by omega))
      have cA := cell_of_cells (j := k) HDC.out.arr (show (sevI l)[k]? = some (.int .i64 (l.getD k 0)) from by
        match k, hlt with
        | 0, _ => rfl
        | 1, _ => rfl
        | 2, _ => rfl
        | 3, _ => rfl
        | 4, _ => rfl
        | 5, _ => rfl
        | 6, _ => rfl)
      have fA := free_of_cells (j := k) HDC.out.arr
      have i1 : (0 : Int) ≤ (k : Int) := by omega
      go_wp2_with fail
      refine HRC.out.mono ?_
      rintro e w1 ⟨n, j, rfl, rfl, hnb, hj, hR⟩
      have HD2 : Hid (DqAt w (wr.setCell ⟨w.heap.size + 1, k, none⟩ (.int .i64 n)) (l ++ [n])) := by
        refine ⟨?_, ?_, HDC.out.bel.setCell (by show w.heap.size ≤ w.heap.size + 1; omega) _⟩
        · rw [Below.heap_setCell _ _ _ _ (show w.heap.size ≠ w.heap.size + 1 by omega)]
          exact HDC.out.res
        · rw [heap_setCell_same _ _ _ _ _ _ HDC.out.arr, sevI_snoc l n k HL.out.1 hlt]
      have HL2 : Hid ((l ++ [n]).length = k + 1 ∧ (∀ x ∈ l ++ [n], B64 x) ∧ ReadsK t (k + 1) (l ++ [n]) j) := by
        refine ⟨by rw [List.length_append, HL.out.1]; rfl, ?_, reads_step hlt HL.out.2.2 hR⟩
        intro x hx
        rcases List.mem_append.1 hx with h | h
        · exact HL.out.2.1 x h
        · simp at h; subst h; exact hnb
      clear HRC HDC HRS HBE HL hR hnb
      go_wp2
      go_roundw
      case rel => exact ⟨k + 1, l ++ [n], j, by omega, by omega, by go_num, rfl, HL2, HD2⟩
      case measure => simp [intOf]; omega
    · have hk7 : k = 7 := by omega
      subst hk7
      have HF := Go.Proofs.Ytpaakikgfojplaa.hid (fits_ofI HL.out.2.1)
      have HRE := Go.Proofs.Ytpaakikgfojplaa.hid (fun W => rencode_is (ofI l) W HF.out)
      have HCS := Go.Proofs.Ytpaakikgfojplaa.hid (HEN.out l p HL.out.1 HL.out.2.1 HL.out.2.2)
      have a0 : wr.cell? ⟨w.heap.size + 1, 0, none⟩ = some (.int .i64 (l.getD 0 0)) := cell_of_cells (j := 0) HDC.out.arr rfl
      have a1 : wr.cell? ⟨w.heap.size + 1, 1, none⟩ = some (.int .i64 (l.getD 1 0)) := cell_of_cells (j := 1) HDC.out.arr rfl
      have a2 : wr.cell? ⟨w.heap.size + 1, 2, none⟩ = some (.int .i64 (l.getD 2 0)) := cell_of_cells (j := 2) HDC.out.arr rfl
      have a3 : wr.cell? ⟨w.heap.size + 1, 3, none⟩ = some (.int .i64 (l.getD 3 0)) := cell_of_cells (j := 3) HDC.out.arr rfl
      have a4 : wr.cell? ⟨w.heap.size + 1, 4, none⟩ = some (.int .i64 (l.getD 4 0)) := cell_of_cells (j := 4) HDC.out.arr rfl
      have a5 : wr.cell? ⟨w.heap.size + 1, 5, none⟩ = some (.int .i64 (l.getD 5 0)) := cell_of_cells (j := 5) HDC.out.arr rfl
      have a6 : wr.cell? ⟨w.heap.size + 1, 6, none⟩ = some (.int .i64 (l.getD 6 0)) := cell_of_cells (j := 6) HDC.out.arr rfl
      clear HEN HL HDC HTL
      unfold ofI at HRE HCS
      generalize l.getD 0 0 = n0 at *
      generalize l.getD 1 0 = n1 at *
      generalize l.getD 2 0 = n2 at *
      generalize l.getD 3 0 = n3 at *
      generalize l.getD 4 0 = n4 at *
      generalize l.getD 5 0 = n5 at *
      generalize l.getD 6 0 = n6 at *
      generalize encE ⟨n0, n1, n2, n3, n4, n5, n6⟩ = EE at *
      generalize encT ⟨n0, n1, n2, n3, n4, n5, n6⟩ = ET at *
      unfold hdrV at HRE
      simp only at HRE
      go_upto_region 10 with fail
      generalize hB : wr.alloc (.cells #[.int .i64 n0, .int .i64 n1, .int .i64 n2, .int .i64 n3, .int .i64 n4, .int .i64 n5, .int .i64 n6] 30) = B at *
      obtain ⟨hsB, hbB, hBR⟩ := below_tx hB
      have hlB : wr.heap.size < B.heap.size := by omega
      clear hB hsB a0 a1 a2 a3 a4 a5 a6
      have x0 := cell_of_cells (j := 0) hBR rfl
      have x1 := cell_of_cells (j := 1) hBR rfl
      have x2 := cell_of_cells (j := 2) hBR rfl
      have x3 := cell_of_cells (j := 3) hBR rfl
      have x4 := cell_of_cells (j := 4) hBR rfl
      have x5 := cell_of_cells (j := 5) hBR rfl
      have x6 := cell_of_cells (j := 6) hBR rfl
      have hr0 := lt_of_block HRS.out
      go_wp2_with fail
      refine (HRE.out B).mono ?_
      rintro e w2 ⟨rfl, hb2⟩
      have hb22 := hbB.trans (hb2.mono (Nat.le_of_lt hlB))
      have HRS2 : Hid (w2.heap[w.heap.size]? = some (.cells (hdrC zeroH) 30 (0, 0))) := (hb22.block _ hr0).trans HRS.out
      have HB2 := Go.Proofs.Ytpaakikgfojplaa.hid (HBE.out.trans (hb22.mono HBE.out.size))
      have hB2 := (hb2.block _ hlB).trans hBR
      clear x0 x1 x2 x3 x4 x5 x6 hBR hb2 hbB hb22 HRS HBE HRE hr0 hlB
      have x0 := cell_of_cells (j := 0) hB2 rfl
      have x1 := cell_of_cells (j := 1) hB2 rfl
      have x2 := cell_of_cells (j := 2) hB2 rfl
      have x3 := cell_of_cells (j := 3) hB2 rfl
      have x4 := cell_of_cells (j := 4) hB2 rfl
      have x5 := cell_of_cells (j := 5) hB2 rfl
      have x6 := cell_of_cells (j := 6) hB2 rfl
      clear hB2
      have hl1 := txt_list ET
      have hl2 := txt_list t
      rcases HCS.out with ⟨h1, h2, h3, h4⟩ | ⟨h1, h3, h4⟩
      · subst h1; subst h2; subst h3; subst h4
        clear HCS
        go_wp2_with (refine wpList_store_row rfl 30 _ _ rfl w.heap.size (hdrC ⟨n0, n1, n2, n3, n4, n5, n6⟩) rfl rfl 30 (hdrC zeroH) HRS2.out (info_hdrC _) rfl (one_hdrC _) ?_)
        refine bodyPost_ret (results_tx rfl _ _ _ w.heap.size 30 (hdrC ⟨n0, n1, n2, n3, n4, n5, n6⟩) (0, 0) _ rfl (setRow_heap _ _ _ _ _ _ HRS2.out) rfl Try.underlying30 (info_hdrC _)) rfl ⟨rfl, setRow_tx HB2.out (Nat.le_refl _) _⟩
      · subst h3; subst h4
        by_cases g1 : EE = 0
        · have g2 : (ET == t) = false := by
            rw [beq_eq_false_iff_ne]
            exact h1.resolve_left (fun e => e g1)
          subst g1
          clear HCS h1
          go_wp2_with (refine wpList_store_row rfl 30 _ _ rfl w.heap.size (hdrC zeroH) rfl rfl 30 (hdrC zeroH) HRS2.out (info_hdrC _) rfl (one_hdrC _) ?_)
          refine bodyPost_ret (results_tx rfl _ _ _ w.heap.size 30 (hdrC zeroH) (0, 0) _ rfl (setRow_heap _ _ _ _ _ _ HRS2.out) rfl Try.underlying30 (info_hdrC _)) rfl ⟨rfl, setRow_tx HB2.out (Nat.le_refl _) _⟩
        · have g2 : (EE != 0) = true := by rw [bne_iff_ne]; exact g1
          clear HCS h1 g1
          go_wp2_with (refine wpList_store_row rfl 30 _ _ rfl w.heap.size (hdrC zeroH) rfl rfl 30 (hdrC zeroH) HRS2.out (info_hdrC _) rfl (one_hdrC _) ?_)
          refine bodyPost_ret (results_tx rfl _ _ _ w.heap.size 30 (hdrC zeroH) (0, 0) _ rfl (setRow_heap _ _ _ _ _ _ HRS2.out) rfl Try.underlying30 (info_hdrC _)) rfl ⟨rfl, setRow_tx HB2.out (Nat.le_refl _) _⟩

end Go.Proofs.Ytpaakikgfojplaa

