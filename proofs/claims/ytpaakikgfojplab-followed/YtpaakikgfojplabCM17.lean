import Derived.Test.YtpaakikgfojplabCParams
/-
  THE WALKS of the statements' copied, lives.
-/
namespace Go.Proofs.Ytpaakikgfojplab
open Go.RowKit Num Bk
set_option linter.unusedVariables false

set_option maxHeartbeats 800000 in
set_option maxRecDepth 1000000 in
theorem bcopied_any (so : Option Addr) (n c : Nat) (xs : List Int) (w : World) (hn : xs.length = n) (hnone : so = none → n = 0) (hsrc : ∀ ad, so = some ad → ∀ j v, (icells xs)[j]? = some v → w.cell? (ad.add j) = some v) (hsm : n ≤ 1000000000) :
    Calls Try.prog 38 #[.slice so n c] w fun e w' => ∃ g, e = .returned (.slice (some ⟨g, 0, none⟩) n n) ∧ w'.ownsRow w.heap.size 3 1 (.slice (some ⟨g, 0, none⟩) n n) n (icells xs) ∧ Below w.heap.size w w' := by
  obtain ⟨i0, hi0, hz0, hz1, hz2⟩ := info_parts Try.info3
  have HS := Go.Proofs.Ytpaakikgfojplab.hid hsrc
  have HN := Go.Proofs.Ytpaakikgfojplab.hid hnone
  have HX := Go.Proofs.Ytpaakikgfojplab.hid hn
  clear hsrc hnone hn
  go_enter Try.func38, Try.ntmps38
  go_wp2_with (at_make; refine wpList_make_full _ rfl (.tmp 5) (.tmp 5) 22 rfl w.heap.size 3 i0 (.int .i64 0) 1 Try.underlying22 hi0 hz0 hz1 _ _ _ _ n rfl rfl rfl rfl (by rw [hz2]; omega) (by unfold maxLen; omega) (Nat.le_refl _) ?_)
  intro w1 hown1 hgrow
  have hb1 : Below w.heap.size w w1 := (Below.refl _ _).grown hgrow (Nat.le_refl _) (fun k h => by cases h)
  obtain ⟨cur, hcur, hcs⟩ : ∃ cur : List Value, w1.heap[w.heap.size]? = some (.cells cur.toArray 3 (0, 0)) ∧ cur.length = n := by
    rcases hown1.2 with ⟨h', _⟩ | ⟨g', cap', arr, h', _, hg, _, _, hs, _⟩
    · simp at h'
    · simp only [Value.slice.injEq, Option.some.injEq, Addr.mk.injEq, and_true, true_and] at h'
      obtain ⟨rfl, rfl⟩ := h'
      exact ⟨arr.toList, by simpa using hg, by simpa using hs⟩
  have HS1 := Go.Proofs.Ytpaakikgfojplab.hid (fun ad (h : so = some ad) j v (hv : (icells xs)[j]? = some v) => (hb1.cell (p := ad.add j) (by
    have h2 := HS.out ad h j v hv
    exact World.block_lt_of_cell? w _ h2)).trans (HS.out ad h j v hv))
  clear HS hown1 hgrow
  have HLN := Go.Proofs.Ytpaakikgfojplab.hid (show (icells xs).length = n by rw [icells_length]; exact HX.out)
  have HMN := Go.Proofs.Ytpaakikgfojplab.hid (show (icells xs).length = Nat.min n n by rw [HLN.out]; simp)
  have HFT := Go.Proofs.Ytpaakikgfojplab.hid (show 0 + (icells xs).length ≤ cur.length by rw [HLN.out]; omega)
  have HCS := Go.Proofs.Ytpaakikgfojplab.hid hcs
  clear hcs
  obtain ⟨w2, hrun, HG2, hB2⟩ : ∃ w2, (Builtin.copy_ #[22, 22] 3 #[.slice (some ⟨w.heap.size, 0, none⟩) n n, .slice so n c]).run Try.prog w1 = .ok (.int .i64 (n : Int)) w2 ∧
      Hid (w2.heap[w.heap.size]? = some (.cells (splice cur 0 (icells xs)).toArray 3 (0, 0))) ∧ Below w.heap.size w w2 := by
    cases e : so with
    | none =>
      have h0 := HN.out e
      have h1 := HLN.out
      have h2 : icells xs = [] := List.eq_nil_of_length_eq_zero (by omega)
      refine ⟨w1, ?_, ?_, hb1⟩
      · have := run_copy_none (P := Try.prog) w1 22 22 3 3 (some ⟨w.heap.size, 0, none⟩) none n n n c Try.underlying22 Try.size3 (by rw [h0]; rfl)
        rw [this, h0]; rfl
      · show _ = _
        rw [h2]; simpa [splice] using hcur
    | some ad =>
      have := run_copy_row (P := Try.prog) w1 22 22 3 3 w.heap.size 0 n n ad n c cur.toArray 3 (icells xs) Try.underlying22 Try.size3 hcur HMN.out (HS1.out ad e) (by simpa using HFT.out) (icells_one _)
      have e2 : goInt (icells xs).length = .int .i64 (n : Int) := by rw [HLN.out]; rfl
      rw [e2] at this
      refine ⟨_, this, ?_, below_setRow hb1 (Nat.le_refl _) _⟩
      show _ = _
      rw [setRow_heap w1 w.heap.size _ _ 3 _ hcur]
      simp [splice]
  go_wp2
  have hfin : w2.ownsRow w.heap.size 3 1 (.slice (some ⟨w.heap.size, 0, none⟩) n n) n (icells xs) := by
    have := own_whole (base := w.heap.size) (xs := icells xs) HG2.out (Nat.le_refl _) (by have h1 := HLN.out; have h2 := HCS.out; simp [splice]; omega) (by have h1 := HLN.out; unfold maxLen; omega)
    rwa [HLN.out] at this
  go_ret
  exact ⟨_, rfl, hfin, hB2⟩



def livesP : Par := { depth := 2, epoch := 5, room := 10, a := 19, b := 20, nonce := 0, stakes := [3, 1] }
def livesH : Hdr := { slot := 0, pool := 0, proof := 236, count := 0, frm := 0, dst := 1, amount := 2 }

theorem lives_ok : ParOk livesP := by
  refine ⟨by decide, by decide, by decide, by decide, by decide, by decide, by decide, by decide, by decide, by decide, by decide, by decide, by decide, ?_, by decide⟩
  intro x hx
  simp only [livesP, List.mem_cons, List.not_mem_nil, or_false] at hx
  rcases hx with rfl | rfl <;> omega

theorem lives_err : offerErr (Bk.start livesP) 0 livesH = 0 := by decide +kernel
theorem lives_id : offerId (Bk.start livesP) 0 livesH = 1 := by decide +kernel

theorem below_fr {a w w' : World} {F : Nat → Prop} (h : Below a.heap.size a w) (k : Fr F w w') (hF : ∀ i, F i → a.heap.size ≤ i) : Below a.heap.size a w' :=
  ⟨k.os.trans h.os, k.tape.trans h.tape, k.output.trans h.output, Nat.le_trans h.size k.size, fun i hi => (k.block i (Nat.lt_of_lt_of_le hi h.size) (fun f => by have := hF i f; omega)).trans (h.block i hi)⟩

set_option maxHeartbeats 3200000 in
set_option maxRecDepth 1000000 in
theorem lives_any {Rep : World → Nat → (Nat → Prop) → St → Prop} (P : PSpec Rep) (w : World) :
    Calls Try.prog 36 #[] w fun e w' => e = .returned (.bool true) ∧ Below w.heap.size w w' := by
  go_enter Try.func36, Try.ntmps36
  go_wp2_with fail
  generalize hA : w.alloc (.cells #[.int .i64 3, .int .i64 1] 3) = A at *
  obtain ⟨hsA, hbA, hAs⟩ := below_zero hA
  clear hA
  have hst : StkAt A (some ⟨w.heap.size, 0, none⟩) livesP.stakes := by
    intro j hj
    refine ⟨w.heap.size, 0, rfl, ?_⟩
    have hj' : j < 2 := hj
    rcases (show j = 0 ∨ j = 1 by omega) with rfl | rfl
    · exact cell_of_cells (j := 0) hAs rfl
    · exact cell_of_cells (j := 1) hAs rfl
  refine (P.new_yes A livesP (some ⟨w.heap.size, 0, none⟩) 2 hst ((parB_iff _).2 lives_ok)).mono ?_
  rintro e w1 ⟨x, F, rfl, hR, hb1, hF⟩
  have hbw := hbA.trans (hb1.mono (by omega))
  clear hst hAs hb1 hbA
  go_wp2_with fail
  refine (P.offer _ x F (Bk.start livesP) 0 livesH hR (inv_start _ lives_ok) (i64_of (by omega) (by omega)) ⟨i64_of (by decide) (by decide), i64_of (by decide) (by decide), i64_of (by decide) (by decide), i64_of (by decide) (by decide), i64_of (by decide) (by decide), i64_of (by decide) (by decide), i64_of (by decide) (by decide)⟩).mono ?_
  rintro e w2 ⟨rfl, hL⟩
  rw [lives_err, lives_id]
  obtain ⟨F2, r2, f2, n2⟩ := hL
  have HFIN := Go.Proofs.Ytpaakikgfojplab.hid (below_fr hbw f2 (fun i h => by have := hF i h; omega))
  clear hR r2 f2 n2
  go_wp2
  go_ret
  exact ⟨rfl, HFIN.out⟩
end Go.Proofs.Ytpaakikgfojplab

/-
  THE WALK of the statements' opened.
-/
namespace Go.Proofs.Ytpaakikgfojplab
open Go.RowKit Num Bk
set_option linter.unusedVariables false

/-- A chain and its book, made anew. -/
def New (Rep : World → Nat → (Nat → Prop) → St → Prop) (w w' : World) (b xc gs cs ga ca : Nat) (F : Nat → Prop) (s : St) : Prop :=
  Both Rep w' b xc gs cs ga ca F s ∧ Below w.heap.size w w' ∧ (∀ k, F k → w.heap.size ≤ k) ∧ w.heap.size ≤ b ∧ w.heap.size ≤ gs ∧ w.heap.size ≤ ga

set_option maxHeartbeats 12800000 in
set_option maxRecDepth 1000000 in
theorem opened_any {Rep : World → Nat → (Nat → Prop) → St → Prop} (P : PSpec Rep) (a : Option Addr) (cap : Nat) (z : List Int) (w : World) (hz : RawAt w a z) :
    Calls Try.prog 9 #[.slice a z.length cap] w fun e w' => ∃ b xc gs cs ga ca F, e = .returned (.pointer (some ⟨b, 0, none⟩)) ∧ New Rep w w' b xc gs cs ga ca F (Bk.start (parOf z)) := by
  obtain ⟨i1, hj, hy0, hy1, hy2⟩ := info_parts Try.info58
  have hok := parOf_ok z
  go_enter Try.func9, Try.ntmps9
  go_wp2_with fail
  refine (lives_any P _).mono ?_
  rintro e w1 ⟨rfl, hb1⟩
  have hs1 := hb1.size
  have hz1 := hz.keep hb1
  go_wp2_with fail
  refine (params_any a cap z _ hz1).mono ?_
  rintro e w2 ⟨g, c, rfl, hown, hb2⟩
  have hs2 := hb2.size
  have hbw := hb1.trans (hb2.mono hs1)
  clear hz hz1 hb1 hb2
  unfold parV
  generalize hpz : parOf z = p at *
  go_wp2_with fail
  generalize hA : (w2.alloc (.cells #[.int .i64 p.depth, .int .i64 p.epoch, .int .i64 p.room, .int .i64 p.a, .int .i64 p.b, .int .i64 p.nonce, .slice (some ⟨g, 0, none⟩) p.stakes.length c] 28)).alloc (.cells #[.int .i64 p.depth, .int .i64 p.epoch, .int .i64 p.room, .int .i64 p.a, .int .i64 p.b, .int .i64 p.nonce, .slice (some ⟨g, 0, none⟩) p.stakes.length c] 28) = A at *
  obtain ⟨hsA, hbA, hAp, hAq⟩ := below_two hA
  clear hA
  have hownA := row_keep hown hbA (by omega)
  have hl2 := hok.l2
  refine (bcopied_any (some ⟨g, 0, none⟩) p.stakes.length c p.stakes _ rfl (fun h => by cases h) (by
    intro ad e j v hv
    simp at e; subst e
    exact hownA.cells rfl j v hv) (by omega)).mono ?_
  rintro e w3 ⟨g3, rfl, hown3, hb3⟩
  have hs3 := hb3.size
  have hP3 := (hb3.block w2.heap.size (by omega)).trans hAp
  have hQ3 := (hb3.block (w2.heap.size + 1) (by omega)).trans hAq
  have hg3 := hown3.lt g3 (by simp [Value.ownBlock])
  have hown3' := row_keep hownA hb3 (by omega)
  have q0 := cell_of_cells (j := 0) hQ3 rfl
  have q1 := cell_of_cells (j := 1) hQ3 rfl
  have q2 := cell_of_cells (j := 2) hQ3 rfl
  have q3 := cell_of_cells (j := 3) hQ3 rfl
  have q4 := cell_of_cells (j := 4) hQ3 rfl
  have q5 := cell_of_cells (j := 5) hQ3 rfl
  have q6 := cell_of_cells (j := 6) hQ3 rfl
  have qf6 := free_of_cells (j := 6) hQ3
  have hgl := own_lt hown
  clear hown hownA hAp hAq
  go_wp2_with fail
  generalize hA4 : w3.setCell ⟨w2.heap.size + 1, 6, none⟩ (.slice (some ⟨g3, 0, none⟩) p.stakes.length p.stakes.length) = A4 at *
  have hs4 : A4.heap.size = w3.heap.size := by rw [← hA4]; simp [World.setCell]
  have hP4 : A4.heap[w2.heap.size]? = some (.cells #[.int .i64 p.depth, .int .i64 p.epoch, .int .i64 p.room, .int .i64 p.a, .int .i64 p.b, .int .i64 p.nonce, .slice (some ⟨g, 0, none⟩) p.stakes.length c] 28 (0, 0)) := by rw [← hA4]; exact (Below.heap_setCell _ _ _ _ (by simp)).trans hP3
  have hO4 : A4.ownsRow A.heap.size 3 1 (.slice (some ⟨g3, 0, none⟩) p.stakes.length p.stakes.length) p.stakes.length (icells p.stakes) := by
    rw [← hA4]; exact ownsRow_setCell_other hown3 (by simp [Value.ownBlock]; omega) _
  have hO4' : A4.ownsRow w1.heap.size 3 1 (.slice (some ⟨g, 0, none⟩) p.stakes.length c) p.stakes.length (icells p.stakes) := by
    rw [← hA4]; exact ownsRow_setCell_other hown3' (by simp [Value.ownBlock]; omega) _
  have hb4 : Below w.heap.size w A4 := by
    rw [← hA4]; exact ((hbw.trans (hbA.mono (by omega))).trans (hb3.mono (by omega))).setCell (by show w.heap.size ≤ w2.heap.size + 1; omega) _
  clear hA4 hown3 hown3' hP3 hQ3 q0 q1 q2 q3 q4 q5 q6 qf6
  have hst : StkAt A4 (some ⟨g3, 0, none⟩) p.stakes := by
    intro j hj
    refine ⟨g3, 0, rfl, ?_⟩
    have h := hO4.cellAt j (by omega)
    rw [Nat.zero_add]
    rw [h, icells_at p.stakes j hj]
  refine (P.new_yes A4 p (some ⟨g3, 0, none⟩) p.stakes.length hst ((parB_iff _).2 hok)).mono ?_
  rintro e w5 ⟨x, F, rfl, hR, hb5, hF⟩
  have hs5 := hb5.size
  have hP5 := (hb5.block w2.heap.size (by omega)).trans hP4
  have hO5 := row_keep hO4' hb5 (by omega)
  have hbw5 := hb4.trans (hb5.mono (by omega))
  have p0 := cell_of_cells (j := 0) hP5 rfl
  have p1 := cell_of_cells (j := 1) hP5 rfl
  have p2 := cell_of_cells (j := 2) hP5 rfl
  have p3 := cell_of_cells (j := 3) hP5 rfl
  have p4 := cell_of_cells (j := 4) hP5 rfl
  have p5 := cell_of_cells (j := 5) hP5 rfl
  have p6 := cell_of_cells (j := 6) hP5 rfl
  clear hst hO4 hO4' hb4 hb5 hP4
  have HNB : Hid (∀ X cs, ((w5.alloc X).alloc (.cells cs 58)).heap[w5.heap.size + 1]? = some (.cells cs 58 (0, 0))) := fun X cs => by
    have := heap_alloc_new (w5.alloc X) (.cells cs 58)
    simpa using this
  have HNX : Hid (∀ cs Y, ((w5.alloc (.cells cs 31)).alloc Y).heap[w5.heap.size]? = some (.cells cs 31 (0, 0))) := fun cs Y => by
    rw [Below.heap_alloc _ _ _ (by simp)]; exact heap_alloc_new w5 _
  have HNF : Hid (∀ X Y, Below w5.heap.size w5 ((w5.alloc X).alloc Y)) := fun X Y => ((Below.refl _ _).alloc (Nat.le_refl _) X).alloc (by simp) Y
  go_wp2_with (at_builtin; refine wpList_append_lies _ rfl (.tmp 38) (.tmp 40) 29 rfl 0 58 i1 _ 8 64 Try.underlying29 hj hy0 hy1 hy2 rfl (by omega) (.slice none 0 0) 0 [] rfl (World.ownsRow_nil _ _ _ _) ⟨w5.heap.size + 1, 0, none⟩ 1 1 [.int .i64 0, .int .i64 0, .int .i64 0, .int .i64 0, .int .i64 0, .int .i64 0, .int .i64 0, .int .i64 0] rfl rfl (World.news_of_block (HNB.out _ _)) (by intro u hu; simp at hu; subst hu; rfl) (by omega) (by unfold maxLen; omega) (by omega) (by omega) (w5.heap.size + 2) (by simp) ?_)
  intro g6 cap6 w6 hown6 hgrow6 hat6 hlt6
  have hg6 : g6 = w5.heap.size + 2 := by
    rcases hat6 with h | h
    · simp [Value.ownBlock] at h
    · exact h
  have hbk6 := (hgrow6.block w5.heap.size (by simp; omega) (by simp [Value.ownBlock])).trans (HNX.out _ _)
  have hB6 : Below w5.heap.size w5 w6 := (HNF.out _ _).grown hgrow6 (by simp; omega) (fun k e => by simp [Value.ownBlock] at e)
  have c8 := cell_of_cells (j := 8) hbk6 rfl
  have f8 := free_of_cells (j := 8) hbk6
  have hFl := P.lt hR
  have hs6 := hB6.size
  have hN : New Rep w (w6.setCell ⟨w5.heap.size, 8, none⟩ (.slice (some ⟨g6, 0, none⟩) 1 cap6)) w5.heap.size x g c g6 cap6 F (Bk.start p) := by
    refine ⟨⟨⟨?_, ?_, ?_⟩, ?_, inv_start p hok, fun h => by have := hFl _ h; omega, fun h => by have := hF _ h; omega, fun h => by have := hFl _ h; omega⟩, ?_, fun k hk => by have := hF k hk; have := hbw.size; omega, by have := hbw.size; omega, ?_, by have := hbw.size; omega⟩
    · exact (heap_setCell_same w6 w5.heap.size 8 _ 31 _ hbk6).trans rfl
    · exact ownsRow_setCell_other (row_weak (row_keep hO5 hB6 (by omega)) (Nat.zero_le _)) (by simp [Value.ownBlock]; omega) _
    · exact ownsRow_setCell_other hown6 (by simp [Value.ownBlock]; omega) _
    · exact P.fr (P.keep hR hB6) ((Fr.refl (fun k => k = w5.heap.size) w6).setCell (p := ⟨w5.heap.size, 8, none⟩) (Or.inl rfl) _) (fun k hk e => by have := hFl _ hk; omega)
    · exact (hbw5.trans (hB6.mono (by have := hbw5.size; omega))).setCell (by have := hbw5.size; exact this) _
    · have h1 := hO5.lt g (by simp [Value.ownBlock])
      omega
  have HNEW := Go.Proofs.Ytpaakikgfojplab.hid hN
  clear hgrow6 hat6 hN hown6 hO5 hR hB6 hbw5
  go_wp2
  go_ret
  exact ⟨w5.heap.size, x, g, c, g6, cap6, F, rfl, by rw [hpz, hg6] at *; exact HNEW.out⟩
end Go.Proofs.Ytpaakikgfojplab

