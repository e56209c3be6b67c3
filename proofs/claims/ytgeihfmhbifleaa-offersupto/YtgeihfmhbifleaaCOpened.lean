import Derived.Test.YtgeihfmhbifleaaCParams
/-
  THE WALKS of the statements' copied, lives.
-/
namespace Go.Proofs.Ytgeihfmhbifleaa
open Go.RowKit Num Bk
set_option linter.unusedVariables false

set_option maxHeartbeats 800000 in
set_option maxRecDepth 1000000 in
theorem bcopied_any (so : Option Addr) (n c : Nat) (xs : List Int) (w : World) (hn : xs.length = n) (hnone : so = none → n = 0) (hsrc : ∀ ad, so = some ad → ∀ j v, (icells xs)[j]? = some v → w.cell? (ad.add j) = some v) (hsm : n ≤ 1000000000) :
    Calls Try.prog 48 #[.slice so n c] w fun e w' => ∃ g, e = .returned (.slice (some ⟨g, 0, none⟩) n n) ∧ w'.ownsRow w.heap.size 3 1 (.slice (some ⟨g, 0, none⟩) n n) n (icells xs) ∧ Below w.heap.size w w' := by
  obtain ⟨i0, hi0, hz0, hz1, hz2⟩ := info_parts Try.info3
  have HS := Go.Proofs.Ytgeihfmhbifleaa.hid hsrc
  have HN := Go.Proofs.Ytgeihfmhbifleaa.hid hnone
  have HX := Go.Proofs.Ytgeihfmhbifleaa.hid hn
  clear hsrc hnone hn
  go_enter Try.func48, Try.ntmps48
  go_wp2_with (at_make; refine wpList_make_full _ rfl (.tmp 5) (.tmp 5) 29 rfl w.heap.size 3 i0 (.int .i64 0) 1 Try.underlying29 hi0 hz0 hz1 _ _ _ _ n rfl rfl rfl rfl (by rw [hz2]; omega) (by unfold maxLen; omega) (Nat.le_refl _) ?_)
  intro w1 hown1 hgrow
  have hb1 : Below w.heap.size w w1 := (Below.refl _ _).grown hgrow (Nat.le_refl _) (fun k h => by cases h)
  obtain ⟨cur, hcur, hcs⟩ : ∃ cur : List Value, w1.heap[w.heap.size]? = some (.cells cur.toArray 3 (0, 0)) ∧ cur.length = n := by
    rcases hown1.2 with ⟨h', _⟩ | ⟨g', cap', arr, h', _, hg, _, _, hs, _⟩
    · simp at h'
    · simp only [Value.slice.injEq, Option.some.injEq, Addr.mk.injEq, and_true, true_and] at h'
      obtain ⟨rfl, rfl⟩ := h'
      exact ⟨arr.toList, by simpa using hg, by simpa using hs⟩
  have HS1 := Go.Proofs.Ytgeihfmhbifleaa.hid (fun ad (h : so = some ad) j v (hv : (icells xs)[j]? = some v) => (hb1.cell (p := ad.add j) (by
    have h2 := HS.out ad h j v hv
    exact World.block_lt_of_cell? w _ h2)).trans (HS.out ad h j v hv))
  clear HS hown1 hgrow
  have HLN := Go.Proofs.Ytgeihfmhbifleaa.hid (show (icells xs).length = n by rw [icells_length]; exact HX.out)
  have HMN := Go.Proofs.Ytgeihfmhbifleaa.hid (show (icells xs).length = Nat.min n n by rw [HLN.out]; simp)
  have HFT := Go.Proofs.Ytgeihfmhbifleaa.hid (show 0 + (icells xs).length ≤ cur.length by rw [HLN.out]; omega)
  have HCS := Go.Proofs.Ytgeihfmhbifleaa.hid hcs
  clear hcs
  obtain ⟨w2, hrun, HG2, hB2⟩ : ∃ w2, (Builtin.copy_ #[29, 29] 3 #[.slice (some ⟨w.heap.size, 0, none⟩) n n, .slice so n c]).run Try.prog w1 = .ok (.int .i64 (n : Int)) w2 ∧
      Hid (w2.heap[w.heap.size]? = some (.cells (splice cur 0 (icells xs)).toArray 3 (0, 0))) ∧ Below w.heap.size w w2 := by
    cases e : so with
    | none =>
      have h0 := HN.out e
      have h1 := HLN.out
      have h2 : icells xs = [] := List.eq_nil_of_length_eq_zero (by omega)
      refine ⟨w1, ?_, ?_, hb1⟩
      · have := run_copy_none (P := Try.prog) w1 29 29 3 3 (some ⟨w.heap.size, 0, none⟩) none n n n c Try.underlying29 Try.size3 (by rw [h0]; rfl)
        rw [this, h0]; rfl
      · show _ = _
        rw [h2]; simpa [splice] using hcur
    | some ad =>
      have := run_copy_row (P := Try.prog) w1 29 29 3 3 w.heap.size 0 n n ad n c cur.toArray 3 (icells xs) Try.underlying29 Try.size3 hcur HMN.out (HS1.out ad e) (by simpa using HFT.out) (icells_one _)
      have e2 : goInt (icells xs).length = .int .i64 (n : Int) := by rw [HLN.out]; rfl
      rw [e2] at this
      refine ⟨_, this, ?_, below_setRow hb1 (Nat.le_refl _) _⟩
      show _ = _
      rw [setRow_heap w1 w.heap.size _ _ 3 _ hcur]
      simp [splice]
  go_wp2
  have hfin : w2.ownsRow w.heap.size 3 1 (.slice (some ⟨w.heap.size, 0, none⟩) n n) n (icells xs) := by
    have := own_whole (base := w.heap.size) (xs := icells xs) HG2.out (Nat.le_refl _) (by have h1 := HLN.out; have h2 := HCS.out; simp [splice]; omega) (by have h1 := HLN.out; unfold maxLen; omega)
    rwa [HLN.out] at this
  go_ret
  exact ⟨_, rfl, hfin, hB2⟩



def livesP : Par := { depth := 2, epoch := 5, room := 10, a := 19, b := 20, nonce := 0, stakes := [3, 1] }
def livesH : Hdr := { slot := 0, pool := 0, proof := 236, count := 0, frm := 0, dst := 1, amount := 2 }

theorem lives_ok : ParOk livesP := by
  refine ⟨by decide, by decide, by decide, by decide, by decide, by decide, by decide, by decide, by decide, by decide, by decide, by decide, by decide, ?_, by decide⟩
  intro x hx
  simp only [livesP, List.mem_cons, List.not_mem_nil, or_false] at hx
  rcases hx with rfl | rfl <;> omega

theorem lives_err : offerErr (Bk.start livesP) 0 livesH = 0 := by decide +kernel
theorem lives_id : offerId (Bk.start livesP) 0 livesH = 1 := by decide +kernel

theorem below_fr {a w w' : World} {F : Nat → Prop} (h : Below a.heap.size a w) (k : Fr F w w') (hF : ∀ i, F i → a.heap.size ≤ i) : Below a.heap.size a w' :=
  ⟨k.os.trans h.os, k.tape.trans h.tape, k.output.trans h.output, Nat.le_trans h.size k.size, fun i hi => (k.block i (Nat.lt_of_lt_of_le hi h.size) (fun f => by have := hF i f; omega)).trans (h.block i hi)⟩

set_option maxHeartbeats 3200000 in
set_option maxRecDepth 1000000 in
theorem lives_any {Rep : World → Nat → (Nat → Prop) → St → Prop} (P : PSpec Rep) (w : World) :
    Calls Try.prog 46 #[] w fun e w' => e = .returned (.bool true) ∧ Below w.heap.size w w' := by
  go_enter Try.func46, Try.ntmps46
  go_wp2_with fail
  generalize hA : w.alloc (.cells #[.int .i64 3, .int .i64 1] 3) = A at *
  obtain ⟨hsA, hbA, hAs⟩ := below_zero hA
  clear hA
  have hst : StkAt A (some ⟨w.heap.size, 0, none⟩) livesP.stakes := by
    intro j hj
    refine ⟨w.heap.size, 0, rfl, ?_⟩
    have hj' : j < 2 := hj
    rcases (show j = 0 ∨ j = 1 by omega) with rfl | rfl
    · exact cell_of_cells (j := 0) hAs rfl
    · exact cell_of_cells (j := 1) hAs rfl
  refine (P.new_yes A livesP (some ⟨w.heap.size, 0, none⟩) 2 hst ((parB_iff _).2 lives_ok)).mono ?_
  rintro e w1 ⟨x, F, rfl, hR, hb1, hF⟩
  have hbw := hbA.trans (hb1.mono (by omega))
  clear hst hAs hb1 hbA
  go_wp2_with fail
  refine (P.offer _ x F (Bk.start livesP) 0 livesH hR (inv_start _ lives_ok) (i64_of (by omega) (by omega)) ⟨i64_of (by decide) (by decide), i64_of (by decide) (by decide), i64_of (by decide) (by decide), i64_of (by decide) (by decide), i64_of (by decide) (by decide), i64_of (by decide) (by decide), i64_of (by decide) (by decide)⟩).mono ?_
  rintro e w2 ⟨rfl, hL⟩
  rw [lives_err, lives_id]
  obtain ⟨F2, r2, f2, n2⟩ := hL
  have HFIN := Go.Proofs.Ytgeihfmhbifleaa.hid (below_fr hbw f2 (fun i h => by have := hF i h; omega))
  clear hR r2 f2 n2
  go_wp2
  go_ret
  exact ⟨rfl, HFIN.out⟩
end Go.Proofs.Ytgeihfmhbifleaa

