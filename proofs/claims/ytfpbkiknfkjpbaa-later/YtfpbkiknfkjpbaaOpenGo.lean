/-
  THE WALK of the statements' opened.
-/
import Derived.Test.YtfpbkiknfkjpbaaOpened
namespace Go.Proofs.Ytfpbkiknfkjpbaa
open Go.RowKit Num Bk
set_option linter.unusedVariables false

/-- A chain and its book, made anew. -/
def New (Rep : World → Nat → (Nat → Prop) → St → Prop) (w w' : World) (b xc gs cs ga ca : Nat) (F : Nat → Prop) (s : St) : Prop :=
  Both Rep w' b xc gs cs ga ca F s ∧ Below w.heap.size w w' ∧ (∀ k, F k → w.heap.size ≤ k) ∧ w.heap.size ≤ b ∧ w.heap.size ≤ gs ∧ w.heap.size ≤ ga

set_option maxHeartbeats 12800000 in
set_option maxRecDepth 1000000 in
theorem opened_any {Rep : World → Nat → (Nat → Prop) → St → Prop} (P : PSpec Rep) (a : Option Addr) (cap : Nat) (z : List Int) (w : World) (hz : RawAt w a z) :
    Calls Try.prog 34 #[.slice a z.length cap] w fun e w' => ∃ b xc gs cs ga ca F, e = .returned (.pointer (some ⟨b, 0, none⟩)) ∧ New Rep w w' b xc gs cs ga ca F (Bk.start (parOf z)) := by
  obtain ⟨i1, hj, hy0, hy1, hy2⟩ := info_parts Try.info93
  have hok := parOf_ok z
  go_enter Try.func34, Try.ntmps34
  go_wp2_with fail
  refine (lives_any P _).mono ?_
  rintro e w1 ⟨rfl, hb1⟩
  have hs1 := hb1.size
  have hz1 := hz.keep hb1
  go_wp2_with fail
  refine (params_any a cap z _ hz1).mono ?_
  rintro e w2 ⟨g, c, rfl, hown, hb2⟩
  have hs2 := hb2.size
  have hbw := hb1.trans (hb2.mono hs1)
  clear hz hz1 hb1 hb2
  unfold parV
  generalize hpz : parOf z = p at *
  go_wp2_with fail
  generalize hA : (w2.alloc (.cells #[.int .i64 p.depth, .int .i64 p.epoch, .int .i64 p.room, .int .i64 p.a, .int .i64 p.b, .int .i64 p.nonce, .slice (some ⟨g, 0, none⟩) p.stakes.length c] 31)).alloc (.cells #[.int .i64 p.depth, .int .i64 p.epoch, .int .i64 p.room, .int .i64 p.a, .int .i64 p.b, .int .i64 p.nonce, .slice (some ⟨g, 0, none⟩) p.stakes.length c] 31) = A at *
  obtain ⟨hsA, hbA, hAp, hAq⟩ := below_two hA
  clear hA
  have hownA := row_keep hown hbA (by omega)
  have hl2 := hok.l2
  refine (bcopied_any (some ⟨g, 0, none⟩) p.stakes.length c p.stakes _ rfl (fun h => by cases h) (by
    intro ad e j v hv
    simp at e; subst e
    exact hownA.cells rfl j v hv) (by omega)).mono ?_
  rintro e w3 ⟨g3, rfl, hown3, hb3⟩
  have hs3 := hb3.size
  have hP3 := (hb3.block w2.heap.size (by omega)).trans hAp
  have hQ3 := (hb3.block (w2.heap.size + 1) (by omega)).trans hAq
  have hg3 := hown3.lt g3 (by simp [Value.ownBlock])
  have hown3' := row_keep hownA hb3 (by omega)
  have q0 := cell_of_cells (j := 0) hQ3 rfl
  have q1 := cell_of_cells (j := 1) hQ3 rfl
  have q2 := cell_of_cells (j := 2) hQ3 rfl
  have q3 := cell_of_cells (j := 3) hQ3 rfl
  have q4 := cell_of_cells (j := 4) hQ3 rfl
  have q5 := cell_of_cells (j := 5) hQ3 rfl
  have q6 := cell_of_cells (j := 6) hQ3 rfl
  have qf6 := free_of_cells (j := 6) hQ3
  have hgl := own_lt hown
  clear hown hownA hAp hAq
  go_wp2_with fail
  generalize hA4 : w3.setCell ⟨w2.heap.size + 1, 6, none⟩ (.slice (some ⟨g3, 0, none⟩) p.stakes.length p.stakes.length) = A4 at *
  have hs4 : A4.heap.size = w3.heap.size := by rw [← hA4]; simp [World.setCell]
  have hP4 : A4.heap[w2.heap.size]? = some (.cells #[.int .i64 p.depth, .int .i64 p.epoch, .int .i64 p.room, .int .i64 p.a, .int .i64 p.b, .int .i64 p.nonce, .slice (some ⟨g, 0, none⟩) p.stakes.length c] 31 (0, 0)) := by rw [← hA4]; exact (Below.heap_setCell _ _ _ _ (by simp)).trans hP3
  have hO4 : A4.ownsRow A.heap.size 3 1 (.slice (some ⟨g3, 0, none⟩) p.stakes.length p.stakes.length) p.stakes.length (icells p.stakes) := by
    rw [← hA4]; exact ownsRow_setCell_other hown3 (by simp [Value.ownBlock]; omega) _
  have hO4' : A4.ownsRow w1.heap.size 3 1 (.slice (some ⟨g, 0, none⟩) p.stakes.length c) p.stakes.length (icells p.stakes) := by
    rw [← hA4]; exact ownsRow_setCell_other hown3' (by simp [Value.ownBlock]; omega) _
  have hb4 : Below w.heap.size w A4 := by
    rw [← hA4]; exact ((hbw.trans (hbA.mono (by omega))).trans (hb3.mono (by omega))).setCell (by show w.heap.size ≤ w2.heap.size + 1; omega) _
  clear hA4 hown3 hown3' hP3 hQ3 q0 q1 q2 q3 q4 q5 q6 qf6
  have hst : StkAt A4 (some ⟨g3, 0, none⟩) p.stakes := by
    intro j hj
    refine ⟨g3, 0, rfl, ?_⟩
    have h := hO4.cellAt j (by omega)
    rw [Nat.zero_add]
    rw [h, icells_at p.stakes j hj]
  refine (P.new_yes A4 p (some ⟨g3, 0, none⟩) p.stakes.length hst ((parB_iff _).2 hok)).mono ?_
  rintro e w5 ⟨x, F, rfl, hR, hb5, hF⟩
  have hs5 := hb5.size
  have hP5 := (hb5.block w2.heap.size (by omega)).trans hP4
  have hO5 := row_keep hO4' hb5 (by omega)
  have hbw5 := hb4.trans (hb5.mono (by omega))
  have p0 := cell_of_cells (j := 0) hP5 rfl
  have p1 := cell_of_cells (j := 1) hP5 rfl
  have p2 := cell_of_cells (j := 2) hP5 rfl
  have p3 := cell_of_cells (j := 3) hP5 rfl
  have p4 := cell_of_cells (j := 4) hP5 rfl
  have p5 := cell_of_cells (j := 5) hP5 rfl
  have p6 := cell_of_cells (j := 6) hP5 rfl
  clear hst hO4 hO4' hb4 hb5 hP4
  have HNB : Hid (∀ X cs, ((w5.alloc X).alloc (.cells cs 93)).heap[w5.heap.size + 1]? = some (.cells cs 93 (0, 0))) := fun X cs => by
    have := heap_alloc_new (w5.alloc X) (.cells cs 93)
    simpa using this
  have HNX : Hid (∀ cs Y, ((w5.alloc (.cells cs 44)).alloc Y).heap[w5.heap.size]? = some (.cells cs 44 (0, 0))) := fun cs Y => by
    rw [Below.heap_alloc _ _ _ (by simp)]; exact heap_alloc_new w5 _
  have HNF : Hid (∀ X Y, Below w5.heap.size w5 ((w5.alloc X).alloc Y)) := fun X Y => ((Below.refl _ _).alloc (Nat.le_refl _) X).alloc (by simp) Y
  go_wp2_with (at_builtin; refine wpList_append_lies _ rfl (.tmp 38) (.tmp 40) 42 rfl 0 93 i1 _ 8 64 Try.underlying42 hj hy0 hy1 hy2 rfl (by omega) (.slice none 0 0) 0 [] rfl (World.ownsRow_nil _ _ _ _) ⟨w5.heap.size + 1, 0, none⟩ 1 1 [.int .i64 0, .int .i64 0, .int .i64 0, .int .i64 0, .int .i64 0, .int .i64 0, .int .i64 0, .int .i64 0] rfl rfl (World.news_of_block (HNB.out _ _)) (by intro u hu; simp at hu; subst hu; rfl) (by omega) (by unfold maxLen; omega) (by omega) (by omega) (w5.heap.size + 2) (by simp) ?_)
  intro g6 cap6 w6 hown6 hgrow6 hat6 hlt6
  have hg6 : g6 = w5.heap.size + 2 := by
    rcases hat6 with h | h
    · simp [Value.ownBlock] at h
    · exact h
  have hbk6 := (hgrow6.block w5.heap.size (by simp; omega) (by simp [Value.ownBlock])).trans (HNX.out _ _)
  have hB6 : Below w5.heap.size w5 w6 := (HNF.out _ _).grown hgrow6 (by simp; omega) (fun k e => by simp [Value.ownBlock] at e)
  have c8 := cell_of_cells (j := 8) hbk6 rfl
  have f8 := free_of_cells (j := 8) hbk6
  have hFl := P.lt hR
  have hs6 := hB6.size
  have hN : New Rep w (w6.setCell ⟨w5.heap.size, 8, none⟩ (.slice (some ⟨g6, 0, none⟩) 1 cap6)) w5.heap.size x g c g6 cap6 F (Bk.start p) := by
    refine ⟨⟨⟨?_, ?_, ?_⟩, ?_, inv_start p hok, fun h => by have := hFl _ h; omega, fun h => by have := hF _ h; omega, fun h => by have := hFl _ h; omega⟩, ?_, fun k hk => by have := hF k hk; have := hbw.size; omega, by have := hbw.size; omega, ?_, by have := hbw.size; omega⟩
    · exact (heap_setCell_same w6 w5.heap.size 8 _ 44 _ hbk6).trans rfl
    · exact ownsRow_setCell_other (row_weak (row_keep hO5 hB6 (by omega)) (Nat.zero_le _)) (by simp [Value.ownBlock]; omega) _
    · exact ownsRow_setCell_other hown6 (by simp [Value.ownBlock]; omega) _
    · exact P.fr (P.keep hR hB6) ((Fr.refl (fun k => k = w5.heap.size) w6).setCell (p := ⟨w5.heap.size, 8, none⟩) (Or.inl rfl) _) (fun k hk e => by have := hFl _ hk; omega)
    · exact (hbw5.trans (hB6.mono (by have := hbw5.size; omega))).setCell (by have := hbw5.size; exact this) _
    · have h1 := hO5.lt g (by simp [Value.ownBlock])
      omega
  have HNEW := Go.Proofs.Ytfpbkiknfkjpbaa.hid hN
  clear hgrow6 hat6 hN hown6 hO5 hR hB6 hbw5
  go_wp2
  go_ret
  exact ⟨w5.heap.size, x, g, c, g6, cap6, F, rfl, by rw [hpz, hg6] at *; exact HNEW.out⟩
end Go.Proofs.Ytfpbkiknfkjpbaa
