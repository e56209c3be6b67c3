import Derived.Test.YtpaakikgfojplaaCTxD
import Derived.Test.YtpaakikgfojplaaCHdrEq
/-
  THE PROGRAM's Encode and Decode.
-/
namespace Go.Proofs.Ytpaakikgfojplaa
open Go.RowKit Num Bk Tx
set_option linter.unusedVariables false

theorem txt_of (s : ByteArray) : s = txt s.toList := by
  unfold txt
  rw [ByteArray.toList_eq]

set_option maxHeartbeats 1600000 in
set_option maxRecDepth 1000000 in
theorem pencode_is (h : Hdr) (w : World) (hf : Fits h) :
    Calls Try.prog 16 #[hdrV h] w fun e w' => e = .returned (.tuple #[.string (txt (encT h)), .int .i64 (encE h)]) ∧ Below w.heap.size w w' := by
  have HE := Go.Proofs.Ytpaakikgfojplaa.hid (fun W => tencode_is h W hf)
  generalize encT h = T at *
  generalize encE h = E at *
  obtain ⟨a0, a1, a2, a3, a4, a5, a6⟩ := h
  unfold hdrV at *
  simp only at HE ⊢
  go_enter Try.func16, Try.ntmps16
  go_wp2_with fail
  generalize hA : w.alloc (.cells #[.int .i64 a0, .int .i64 a1, .int .i64 a2, .int .i64 a3, .int .i64 a4, .int .i64 a5, .int .i64 a6] 30) = A at *
  obtain ⟨hsA, hbA, hAR⟩ := below_tx hA
  clear hA
  refine (HE.out A).mono ?_
  rintro e w1 ⟨rfl, hb1⟩
  have HB := Go.Proofs.Ytpaakikgfojplaa.hid (hbA.trans (hb1.mono (by omega)))
  clear hb1 hbA hsA hAR HE
  go_wp2
  go_ret2
  exact ⟨rfl, HB.out⟩

set_option maxHeartbeats 1600000 in
set_option maxRecDepth 1000000 in
theorem pdecode_is (t : List UInt8) (w : World) (ht : t.length ≤ maxLen) :
    Calls Try.prog 18 #[.string (txt t)] w fun e w' => e = .returned (.tuple #[.agg (hdrC (decH t)), .int .i64 (decE t)]) ∧ Below w.heap.size w w' := by
  have HE := Go.Proofs.Ytpaakikgfojplaa.hid (fun W => tdecode_is t W ht)
  clear ht
  generalize decH t = H at *
  generalize decE t = E at *
  generalize txt t = T at *
  go_enter Try.func18, Try.ntmps18
  go_wp2_with fail
  generalize hA : w.alloc (.cells #[.int .i64 0, .int .i64 0, .int .i64 0, .int .i64 0, .int .i64 0, .int .i64 0, .int .i64 0] 30) = A at *
  obtain ⟨hsA, hbA, hAR⟩ := below_tx hA
  clear hA
  refine (HE.out A).mono ?_
  rintro e w1 ⟨rfl, hb1⟩
  have HRS : Hid (w1.heap[w.heap.size]? = some (.cells (hdrC zeroH) 30 (0, 0))) := (hb1.block _ (by omega)).trans hAR
  have HBE := Go.Proofs.Ytpaakikgfojplaa.hid (hbA.trans (hb1.mono (by omega)))
  clear hb1 hbA hsA hAR HE
  go_wp2_with (refine wpList_store_row rfl 30 _ _ rfl w.heap.size (hdrC H) rfl rfl 30 (hdrC zeroH) HRS.out (info_hdrC _) rfl (one_hdrC _) ?_)
  refine bodyPost_ret (results_tx rfl _ _ _ w.heap.size 30 (hdrC H) (0, 0) _ rfl (setRow_heap _ _ _ _ _ _ HRS.out) rfl Try.underlying30 (info_hdrC _)) rfl ⟨rfl, setRow_tx HBE.out (Nat.le_refl _) _⟩

theorem eqH_refl (h : Hdr) : eqH h h = true := by simp [eqH]
theorem eqH_iff (h g : Hdr) : eqH h g = true ↔ h = g := by
  obtain ⟨a0, a1, a2, a3, a4, a5, a6⟩ := h
  obtain ⟨b0, b1, b2, b3, b4, b5, b6⟩ := g
  simp [eqH]
  constructor
  · rintro ⟨⟨⟨⟨⟨⟨h1, h2⟩, h3⟩, h4⟩, h5⟩, h6⟩, h7⟩
    exact ⟨h1, h2, h3, h4, h5, h6, h7⟩
  · rintro ⟨h1, h2, h3, h4, h5, h6, h7⟩
    exact ⟨⟨⟨⟨⟨⟨h1, h2⟩, h3⟩, h4⟩, h5⟩, h6⟩, h7⟩

end Go.Proofs.Ytpaakikgfojplaa

