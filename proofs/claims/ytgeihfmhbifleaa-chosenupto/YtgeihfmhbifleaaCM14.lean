import Derived.Test.YtgeihfmhbifleaaCM13
import Derived.Test.YtgeihfmhbifleaaCRefTake
/-
  THE WALKS of the statements' book: came.
-/
namespace Go.Proofs.Ytgeihfmhbifleaa
open Go.RowKit Num Bk
set_option linter.unusedVariables false
attribute [local go_sem ↓] Go.wp_at_zero Go.wp_at_succ

theorem Try.info93 : (Try.prog.info? 93).map (fun i => (i.zero, i.size, i.bytes)) = some (some (.agg #[.int .i64 0, .int .i64 0, .int .i64 0, .int .i64 0, .int .i64 0, .int .i64 0, .int .i64 0, .int .i64 0]), 8, 64) := by kernel_rfl

def Came (W w6 : World) (b xc gs cs ga : Nat) (s' : St) : Prop :=
  ∃ ga' ca', BookAt w6 b xc gs cs ga' ca' s' ∧ Fr (fun k => k = b ∨ k = ga) W w6 ∧ (ga' = ga ∨ W.heap.size ≤ ga')

theorem BookAt.three {w : World} {b xc gs cs ga ca : Nat} {s : St} (h : BookAt w b xc gs cs ga ca s) : b ≠ gs ∧ b ≠ ga ∧ gs ≠ ga := by
  obtain ⟨c1, h1, _⟩ := row_block h.stk
  obtain ⟨c2, h2, _⟩ := row_block h.all
  exact ⟨block_ne h.blk h1 (by decide), block_ne h.blk h2 (by decide), block_ne h1 h2 (by decide)⟩

theorem came_all {W w5 : World} {b xc gs cs ga ca g5 cap5 : Nat} {s : St} {it : Itm} (hr : BookAt W b xc gs cs ga ca s) (o : Obj) (hgrow : (W.alloc o).grownBy w5 (some ga))
    (hown : w5.ownsRow 0 93 8 (.slice (some ⟨g5, 0, none⟩) (s.all.length + 1) cap5) (s.all.length + 1) (acells s.all ++ itcells it)) (hat : some ga = some g5 ∨ g5 = W.heap.size + 1) :
    Came W (w5.setCell ⟨b, 8, none⟩ (.slice (some ⟨g5, 0, none⟩) (s.all.length + 1) cap5)) b xc gs cs ga { s with all := s.all ++ [it] } := by
  have h4 := hr.three
  have hl := hr.lts
  have hF5 : Fr (fun k => k = ga) W w5 := ((Fr.refl _ W).alloc o).grown hgrow (by intro k e; simp at e; exact Or.inl e.symm)
  have hb5 : w5.heap[b]? = W.heap[b]? := hF5.block b hl.1 (by simpa using h4.2.1)
  have hg5 : g5 = ga ∨ W.heap.size ≤ g5 := by
    rcases hat with h | h
    · simp at h; exact Or.inl h.symm
    · exact Or.inr (by omega)
  have hxg : b ≠ g5 := by rcases hg5 with h | h; rw [h]; exact h4.2.1; omega
  refine ⟨g5, cap5, ⟨?_, ?_, ?_⟩, (hF5.mono (by intro k _ h; exact Or.inr h)).setCell (Or.inl (Or.inl rfl)) _, hg5⟩
  · rw [heap_setCell_same w5 b 8 _ 44 _ (hb5.trans hr.blk)]
    simp
  · exact ownsRow_setCell_other (row_fr hr.stk hF5 (by intro g e; simp [Value.ownBlock] at e; subst e; exact h4.2.2)) (by simpa [Value.ownBlock] using Ne.symm h4.1) _
  · have := ownsRow_setCell_other hown (a := ⟨b, 8, none⟩) (by simpa [Value.ownBlock] using Ne.symm hxg) (.slice (some ⟨g5, 0, none⟩) (s.all.length + 1) cap5)
    rw [acells_append, List.length_append]
    simpa [acells] using this

theorem Came.drew {W w6 : World} {b xc gs cs ga : Nat} {s' : St} (h : Came W w6 b xc gs cs ga s') : Came W w6.drew b xc gs cs ga s' := by
  obtain ⟨a, c, h1, h2, h3⟩ := h
  exact ⟨a, c, ⟨h1.blk, h1.stk, h1.all⟩, h2.drew, h3⟩

theorem Came.from {w W w6 : World} {b xc gs cs ga : Nat} {s' : St} (h : Came W w6 b xc gs cs ga s') (hb : Below w.heap.size w W) : Came w w6 b xc gs cs ga s' := by
  obtain ⟨a, c, h1, h2, h3⟩ := h
  have hs := hb.size
  exact ⟨a, c, h1, (Fr.of_below hb _ (fun k h1 h2 => by omega)).trans' h2 (fun i _ h => h), h3.imp id (fun h => by omega)⟩

set_option maxHeartbeats 3200000 in
set_option maxRecDepth 1000000 in
theorem came_any (b xc gs cs ga ca : Nat) (s : St) (pN : Nat) (h : Hdr) (w : World) (hr : BookAt w b xc gs cs ga ca s) (hsm : s.all.length ≤ 500000) :
    Calls Try.prog 53 #[.pointer (some ⟨b, 0, none⟩), .int .i64 (pN : Int), hdrV h] w fun e w' => e = .returned (.tuple #[]) ∧ Came w w' b xc gs cs ga { s with all := s.all ++ [⟨h, pN⟩] } := by
  obtain ⟨a0, a1, a2, a3, a4, a5, a6⟩ := h
  obtain ⟨i1, hj, hy0, hy1, hy2⟩ := info_parts Try.info93
  unfold hdrV
  go_enter Try.func53, Try.ntmps53
  go_wp2
  generalize hA : w.alloc (.cells #[.int .i64 a0, .int .i64 a1, .int .i64 a2, .int .i64 a3, .int .i64 a4, .int .i64 a5, .int .i64 a6] 70) = W at *
  obtain ⟨hsA, hbA, hAR⟩ := below_zero hA
  clear hA
  have hrW := hr.keep hbA
  have hlts := hrW.lts
  have h3 := hrW.three
  have c8 := cell_of_cells (j := 8) hrW.blk rfl
  have f8 := free_of_cells (j := 8) hrW.blk
  have p0 := cell_of_cells (j := 0) hAR rfl
  have p1 := cell_of_cells (j := 1) hAR rfl
  have p2 := cell_of_cells (j := 2) hAR rfl
  have p3 := cell_of_cells (j := 3) hAR rfl
  have p4 := cell_of_cells (j := 4) hAR rfl
  have p5 := cell_of_cells (j := 5) hAR rfl
  have p6 := cell_of_cells (j := 6) hAR rfl
  have hxW : b < W.heap.size := hlts.1
  have hwW : w.heap.size < W.heap.size := by omega
  clear hsA
  have hown1 := hrW.all
  have hx1 := h3.2.1
  have HRW := Go.Proofs.Ytgeihfmhbifleaa.hid hrW
  clear hrW hr
  have HA7 : Hid (∀ o, (W.alloc o).cell? ⟨b, 8, none⟩ = some (.slice (some ⟨ga, 0, none⟩) s.all.length ca)) := fun o => by rw [World.cell?_alloc_past _ _ _ hxW]; exact c8
  have HF7 : Hid (∀ o, (W.alloc o).frozen? ⟨b, 8, none⟩ = false) := fun o => by rw [World.frozen?_alloc_past _ _ _ hxW]; exact f8
  go_region_law ((refine step_append_lies _ (by rfl) (.tmp 10) (.tmp 14) 42 (by rfl) 0 93 i1 _ 8 64 Try.underlying42 hj hy0 hy1 hy2 (by rfl) (by omega) (.slice (some ⟨ga, 0, none⟩) s.all.length ca) s.all.length (acells s.all) (by rfl) (by exact hown1.alloc _) ⟨W.heap.size, 0, none⟩ 1 1 [.int .i64 a0, .int .i64 a1, .int .i64 a2, .int .i64 a3, .int .i64 a4, .int .i64 a5, .int .i64 a6, .int .i64 (pN : Int)] (by rfl) (by rfl) (by exact World.news_of_block (heap_alloc_new W _)) (by intro u hu; simp at hu; rcases hu with rfl | rfl | rfl | rfl | rfl | rfl | rfl | rfl <;> rfl) (by omega) (by unfold maxLen; omega) (by omega) (by omega) (W.heap.size + 1) (by simp) ?_; intro g5 cap5 w5 hown5 hgrow5 hat5 hlt5; have k7 := (hgrow5.cell_far ⟨b, 8, none⟩ (by simp; omega) (by simp [Value.ownBlock]; omega)).trans (by exact HA7.out _); have kf := (hgrow5.frozen_far ⟨b, 8, none⟩ (by simp; omega) (by simp [Value.ownBlock]; omega)).trans (by exact HF7.out _)))
  all_goals
    go_wp2
    go_end0
    refine ⟨rfl, Came.from ?_ hbA⟩
    exact came_all HRW.out _ ⟨hgrow5.os, hgrow5.tape, hgrow5.output, hgrow5.size, hgrow5.block⟩ hown5 hat5

end Go.Proofs.Ytgeihfmhbifleaa

/-
  THE WALKS of beaconref: may, New.
-/
namespace Go.Proofs.Ytgeihfmhbifleaa
open Go.RowKit Num Bk
set_option linter.unusedVariables false

/-- Parameters as a value; the stakes lie at 'so'. -/
def parV (p : Par) (so : Option Addr) (c : Nat) : Value := .agg #[.int .i64 p.depth, .int .i64 p.epoch, .int .i64 p.room, .int .i64 p.a, .int .i64 p.b, .int .i64 p.nonce, .slice so p.stakes.length c]

/-- May a chain begin so? -/
def parB (p : Par) : Bool := decide (1 ≤ p.depth ∧ p.depth ≤ 8 ∧ 1 ≤ p.epoch ∧ p.epoch ≤ 50 ∧ 2 ≤ p.room ∧ p.room ≤ 40 ∧ p.b ≤ 20 ∧ 1 ≤ p.a ∧ p.a < p.b ∧ 0 ≤ p.nonce ∧ p.nonce < 65521 ∧ 1 ≤ p.stakes.length ∧ p.stakes.length ≤ 6 ∧ (∀ x ∈ p.stakes, 0 ≤ x ∧ x ≤ 40) ∧ 0 < p.stakes.sum)

theorem parB_iff (p : Par) : parB p = true ↔ ParOk p := by
  unfold parB
  rw [decide_eq_true_iff]
  constructor
  · rintro ⟨h1, h2, h3, h4, h5, h6, h7, h8, h9, h10, h11, h12, h13, h14, h15⟩
    exact ⟨h1, h2, h3, h4, h5, h6, h7, h8, h9, h10, h11, h12, h13, h14, h15⟩
  · rintro ⟨h1, h2, h3, h4, h5, h6, h7, h8, h9, h10, h11, h12, h13, h14, h15⟩
    exact ⟨h1, h2, h3, h4, h5, h6, h7, h8, h9, h10, h11, h12, h13, h14, h15⟩
theorem parB_false (p : Par) : parB p = false ↔ ¬ ParOk p := by
  rw [← parB_iff]; cases parB p <;> simp

/-- The stakes can be read. -/
def StkAt (w : World) (so : Option Addr) (l : List Int) : Prop := ∀ j, j < l.length → ∃ g off, so = some ⟨g, off, none⟩ ∧ w.cell? ⟨g, off + j, none⟩ = some (.int .i64 (l.getD j 0))

set_option maxHeartbeats 6400000 in
set_option maxRecDepth 1000000 in
theorem may_any (p : Par) (so : Option Addr) (c : Nat) (w : World) (hs : StkAt w so p.stakes) :
    Calls Try.prog 88 #[parV p so c] w fun e w' => e = .returned (.bool (parB p)) ∧ Below w.heap.size w w' := by
  unfold parV
  by_cases q0 : p.depth < 1
  · have HN := Go.Proofs.Ytgeihfmhbifleaa.hid (show parB p = false by
      rw [parB_false]; intro h; have := h.d1; omega)
    go_enter Try.func88, Try.ntmps88
    go_wp2
    go_ret
    exact ⟨by rw [HN.out]; rfl, (Below.refl _ _).alloc (Nat.le_refl _) _⟩
  by_cases q1 : 8 < p.depth
  · have HN := Go.Proofs.Ytgeihfmhbifleaa.hid (show parB p = false by
      rw [parB_false]; intro h; have := h.d2; omega)
    go_enter Try.func88, Try.ntmps88
    go_wp2
    go_ret
    exact ⟨by rw [HN.out]; rfl, (Below.refl _ _).alloc (Nat.le_refl _) _⟩
  by_cases q2 : p.epoch < 1
  · have HN := Go.Proofs.Ytgeihfmhbifleaa.hid (show parB p = false by
      rw [parB_false]; intro h; have := h.e1; omega)
    go_enter Try.func88, Try.ntmps88
    go_wp2
    go_ret
    exact ⟨by rw [HN.out]; rfl, (Below.refl _ _).alloc (Nat.le_refl _) _⟩
  by_cases q3 : 50 < p.epoch
  · have HN := Go.Proofs.Ytgeihfmhbifleaa.hid (show parB p = false by
      rw [parB_false]; intro h; have := h.e2; omega)
    go_enter Try.func88, Try.ntmps88
    go_wp2
    go_ret
    exact ⟨by rw [HN.out]; rfl, (Below.refl _ _).alloc (Nat.le_refl _) _⟩
  by_cases q4 : p.room < 2
  · have HN := Go.Proofs.Ytgeihfmhbifleaa.hid (show parB p = false by
      rw [parB_false]; intro h; have := h.r1; omega)
    go_enter Try.func88, Try.ntmps88
    go_wp2
    go_ret
    exact ⟨by rw [HN.out]; rfl, (Below.refl _ _).alloc (Nat.le_refl _) _⟩
  by_cases q5 : 40 < p.room
  · have HN := Go.Proofs.Ytgeihfmhbifleaa.hid (show parB p = false by
      rw [parB_false]; intro h; have := h.r2; omega)
    go_enter Try.func88, Try.ntmps88
    go_wp2
    go_ret
    exact ⟨by rw [HN.out]; rfl, (Below.refl _ _).alloc (Nat.le_refl _) _⟩
  by_cases q6 : p.b < 2
  · have HN := Go.Proofs.Ytgeihfmhbifleaa.hid (show parB p = false by
      rw [parB_false]; intro h; have := h.a1; have := h.a2; omega)
    go_enter Try.func88, Try.ntmps88
    go_wp2
    go_ret
    exact ⟨by rw [HN.out]; rfl, (Below.refl _ _).alloc (Nat.le_refl _) _⟩
  by_cases q7 : 20 < p.b
  · have HN := Go.Proofs.Ytgeihfmhbifleaa.hid (show parB p = false by
      rw [parB_false]; intro h; have := h.b2; omega)
    go_enter Try.func88, Try.ntmps88
    go_wp2
    go_ret
    exact ⟨by rw [HN.out]; rfl, (Below.refl _ _).alloc (Nat.le_refl _) _⟩
  by_cases q8 : p.a < 1
  · have HN := Go.Proofs.Ytgeihfmhbifleaa.hid (show parB p = false by
      rw [parB_false]; intro h; have := h.a1; omega)
    go_enter Try.func88, Try.ntmps88
    go_wp2
    go_ret
    exact ⟨by rw [HN.out]; rfl, (Below.refl _ _).alloc (Nat.le_refl _) _⟩
  by_cases q9 : p.b ≤ p.a
  · have HN := Go.Proofs.Ytgeihfmhbifleaa.hid (show parB p = false by
      rw [parB_false]; intro h; have := h.a2; omega)
    go_enter Try.func88, Try.ntmps88
    go_wp2
    go_ret
    exact ⟨by rw [HN.out]; rfl, (Below.refl _ _).alloc (Nat.le_refl _) _⟩
  by_cases q10 : p.nonce < 0
  · have HN := Go.Proofs.Ytgeihfmhbifleaa.hid (show parB p = false by
      rw [parB_false]; intro h; have := h.n1; omega)
    go_enter Try.func88, Try.ntmps88
    go_wp2
    go_ret
    exact ⟨by rw [HN.out]; rfl, (Below.refl _ _).alloc (Nat.le_refl _) _⟩
  by_cases q11 : 65521 ≤ p.nonce
  · have HN := Go.Proofs.Ytgeihfmhbifleaa.hid (show parB p = false by
      rw [parB_false]; intro h; have := h.n2; omega)
    go_enter Try.func88, Try.ntmps88
    go_wp2
    go_ret
    exact ⟨by rw [HN.out]; rfl, (Below.refl _ _).alloc (Nat.le_refl _) _⟩
  by_cases q12 : (p.stakes.length : Int) < 1
  · have HN := Go.Proofs.Ytgeihfmhbifleaa.hid (show parB p = false by
      rw [parB_false]; intro h; have := h.l1; omega)
    go_enter Try.func88, Try.ntmps88
    go_wp2
    go_ret
    exact ⟨by rw [HN.out]; rfl, (Below.refl _ _).alloc (Nat.le_refl _) _⟩
  by_cases q13 : 6 < (p.stakes.length : Int)
  · have HN := Go.Proofs.Ytgeihfmhbifleaa.hid (show parB p = false by
      rw [parB_false]; intro h; have := h.l2; omega)
    go_enter Try.func88, Try.ntmps88
    go_wp2
    go_ret
    exact ⟨by rw [HN.out]; rfl, (Below.refl _ _).alloc (Nat.le_refl _) _⟩
  have hl0 : 0 < p.stakes.length := by omega
  obtain ⟨g, off, rfl, _⟩ := hs 0 hl0
  have hcell : ∀ j, j < p.stakes.length → w.cell? ⟨g, off + j, none⟩ = some (.int .i64 (p.stakes.getD j 0)) := by
    intro j hj
    obtain ⟨g', off', e, h⟩ := hs j hj
    simp at e
    obtain ⟨rfl, rfl⟩ := e
    exact h
  have HC := Go.Proofs.Ytgeihfmhbifleaa.hid hcell
  have hgl : g < w.heap.size := World.block_lt_of_cell? w ⟨g, off + 0, none⟩ (hcell 0 hl0)
  clear hcell hs
  go_enter Try.func88, Try.ntmps88
  go_wp2
  go_loop [3, 4] (fun t i => ∃ (j : Nat) (m : Int), j ≤ p.stakes.length ∧ i = .int .i64 j ∧ t = .int .i64 m ∧ 0 ≤ m ∧ m ≤ 40 * (j : Int) ∧ Hid (m = (p.stakes.take j).sum ∧ ∀ x ∈ p.stakes.take j, 0 ≤ x ∧ x ≤ 40)) (fun _ i => p.stakes.length - (intOf i).toNat)
  case atStart => exact ⟨0, 0, Nat.zero_le _, rfl, rfl, by omega, by omega, by unfold Hid; simp⟩
  case round =>
    obtain ⟨j, m, hj, rfl, rfl, hm0, hm1, HM⟩ := hrel
    by_cases hlt : j < p.stakes.length
    · have cj := HC.out j hlt
      have hmem : p.stakes.getD j 0 ∈ p.stakes := by
        rw [show p.stakes.getD j 0 = p.stakes[j] from by simp [List.getD, hlt]]
        exact List.getElem_mem hlt
      have hst := sum_take p.stakes j hlt
      have htk : p.stakes.take (j + 1) = p.stakes.take j ++ [p.stakes.getD j 0] := by
        rw [List.take_succ_eq_append_getElem hlt]; simp [List.getD, hlt]
      have HST := Go.Proofs.Ytgeihfmhbifleaa.hid hst
      have HTK := Go.Proofs.Ytgeihfmhbifleaa.hid htk
      have HMEM := Go.Proofs.Ytgeihfmhbifleaa.hid hmem
      clear hst htk hmem
      generalize p.stakes.getD j 0 = v at *
      by_cases y1 : v < 0
      · have HN := Go.Proofs.Ytgeihfmhbifleaa.hid (show parB p = false by
          rw [parB_false]; intro h; have := h.s1 v HMEM.out; omega)
        go_wp2
        go_ret
        exact ⟨by rw [HN.out]; rfl, (Below.refl _ _).alloc (Nat.le_refl _) _⟩
      · by_cases y2 : 40 < v
        · have HN := Go.Proofs.Ytgeihfmhbifleaa.hid (show parB p = false by
            rw [parB_false]; intro h; have := h.s1 v HMEM.out; omega)
          go_wp2
          go_ret
          exact ⟨by rw [HN.out]; rfl, (Below.refl _ _).alloc (Nat.le_refl _) _⟩
        · go_wp2
          go_round
          case rel =>
            refine ⟨j + 1, m + v, by omega, by go_num, rfl, by omega, by omega, ?_⟩
            show _ ∧ _
            refine ⟨by rw [HST.out, HM.out.1], ?_⟩
            rw [HTK.out]
            intro z hz
            rw [List.mem_append] at hz
            rcases hz with hz | hz
            · exact HM.out.2 z hz
            · simp at hz; omega
          case measure => simp [intOf]; omega
    · have hmt : m = p.stakes.sum ∧ ∀ x ∈ p.stakes, 0 ≤ x ∧ x ≤ 40 := by
        have := HM.out
        rw [List.take_of_length_le (by omega)] at this
        exact this
      have HE := Go.Proofs.Ytgeihfmhbifleaa.hid (show parB p = decide (0 < m) by
        rw [Bool.eq_iff_iff, parB_iff, decide_eq_true_iff]
        constructor
        · intro h; have := h.s2; omega
        · intro h
          exact ⟨by omega, by omega, by omega, by omega, by omega, by omega, by omega, by omega, by omega, by omega, by omega, by omega, by omega, hmt.2, by omega⟩)
      clear hmt HM
      go_wp2
      go_ret
      exact ⟨by rw [HE.out]; rfl, (Below.refl _ _).alloc (Nat.le_refl _) _⟩

end Go.Proofs.Ytgeihfmhbifleaa

/-
  THE WALKS of beaconref: New, Kept, Look.
-/
namespace Go.Proofs.Ytgeihfmhbifleaa
open Go.RowKit Num Bk
set_option linter.unusedVariables false

theorem StkAt.src {w : World} {so : Option Addr} {l : List Int} (h : StkAt w so l) : ∀ ad, so = some ad → ∀ j v, (icells l)[j]? = some v → w.cell? (ad.add j) = some v := by
  intro ad e j v hv
  have hj : j < l.length := by
    have := (List.getElem?_eq_some_iff.1 hv).1
    rwa [icells_length] at this
  obtain ⟨g, off, e', hc⟩ := h j hj
  rw [e] at e'
  simp at e'
  subst e'
  rw [Addr.add_lit, hc]
  rw [icells_at l j hj] at hv
  exact hv

theorem StkAt.keep {w w' : World} {so : Option Addr} {l : List Int} (h : StkAt w so l) (hb : Below w.heap.size w w') : StkAt w' so l := by
  intro j hj
  obtain ⟨g, off, e', hc⟩ := h j hj
  refine ⟨g, off, e', ?_⟩
  rw [hb.cell (p := ⟨g, off + j, none⟩) (World.block_lt_of_cell? w _ hc)]
  exact hc

set_option maxHeartbeats 1600000 in
set_option maxRecDepth 1000000 in
theorem new_no (p : Par) (so : Option Addr) (c : Nat) (w : World) (hs : StkAt w so p.stakes) (hn : parB p = false) :
    Calls Try.prog 64 #[parV p so c] w fun e w' => e = .returned (.tuple #[.pointer none, .int .i64 1]) ∧ Below w.heap.size w w' := by
  unfold parV
  go_enter Try.func64, Try.ntmps64
  go_wp2_with fail
  have hb0 : Below w.heap.size w (w.alloc (.cells #[.int .i64 p.depth, .int .i64 p.epoch, .int .i64 p.room, .int .i64 p.a, .int .i64 p.b, .int .i64 p.nonce, .slice so p.stakes.length c] 31)) := (Below.refl _ _).alloc (Nat.le_refl _) _
  refine (may_any p so c _ (hs.keep hb0)).mono ?_
  rintro e w1 ⟨rfl, hb1⟩
  rw [hn]
  have HB := Go.Proofs.Ytgeihfmhbifleaa.hid (hb0.trans (hb1.mono (by simp)))
  clear hb0 hb1
  go_wp2
  go_ret2
  exact ⟨rfl, HB.out⟩

set_option maxHeartbeats 3200000 in
set_option maxRecDepth 1000000 in
theorem new_yes (p : Par) (so : Option Addr) (c : Nat) (w : World) (hs : StkAt w so p.stakes) (hn : parB p = true) :
    Calls Try.prog 64 #[parV p so c] w fun e w' => ∃ x gs cs ga ca gk ck, e = .returned (.tuple #[.pointer (some ⟨x, 0, none⟩), .int .i64 0]) ∧ RefAt w' x gs cs ga ca gk ck (Bk.start p) ∧ Below w.heap.size w w' ∧ w.heap.size ≤ x ∧ w.heap.size ≤ gs ∧ w.heap.size ≤ ga ∧ w.heap.size ≤ gk := by
  have hok := (parB_iff p).1 hn
  have l1 := hok.l1
  have l2 := hok.l2
  unfold parV
  go_enter Try.func64, Try.ntmps64
  go_wp2_with fail
  generalize hA : w.alloc (.cells #[.int .i64 p.depth, .int .i64 p.epoch, .int .i64 p.room, .int .i64 p.a, .int .i64 p.b, .int .i64 p.nonce, .slice so p.stakes.length c] 31) = A at *
  obtain ⟨hsA, hbA, hAR⟩ := below_zero hA
  clear hA
  refine (may_any p so c _ (hs.keep hbA)).mono ?_
  rintro e w1 ⟨rfl, hb1⟩
  rw [hn]
  have hs1 := hb1.size
  have hR1 : w1.heap[w.heap.size]? = some (.cells #[.int .i64 p.depth, .int .i64 p.epoch, .int .i64 p.room, .int .i64 p.a, .int .i64 p.b, .int .i64 p.nonce, .slice so p.stakes.length c] 31 (0, 0)) := by
    rw [hb1.block _ (by omega)]; exact hAR
  have hbw := hbA.trans (hb1.mono (by omega))
  have c6 := cell_of_cells (j := 6) hR1 rfl
  have hsrc := (hs.keep hbw).src
  have hnone : so = none → p.stakes.length = 0 := by
    intro e
    obtain ⟨g, off, e', _⟩ := hs 0 (by omega)
    rw [e] at e'; cases e'
  clear hb1 hbA hAR
  go_wp2_with fail
  refine (copied_any so p.stakes.length c p.stakes _ rfl hnone hsrc (by omega)).mono ?_
  rintro e w2 ⟨g, rfl, ho, hb2⟩
  have hs2 := hb2.size
  have hR2 : w2.heap[w.heap.size]? = some (.cells #[.int .i64 p.depth, .int .i64 p.epoch, .int .i64 p.room, .int .i64 p.a, .int .i64 p.b, .int .i64 p.nonce, .slice so p.stakes.length c] 31 (0, 0)) := by
    rw [hb2.block _ (by omega)]; exact hR1
  have hbw2 := hbw.trans (hb2.mono (by omega))
  have hgl := ho.lt g rfl
  have r0 := cell_of_cells (j := 0) hR2 rfl
  have r1 := cell_of_cells (j := 1) hR2 rfl
  have r2 := cell_of_cells (j := 2) hR2 rfl
  have r3 := cell_of_cells (j := 3) hR2 rfl
  have r4 := cell_of_cells (j := 4) hR2 rfl
  have r5 := cell_of_cells (j := 5) hR2 rfl
  have r6 := cell_of_cells (j := 6) hR2 rfl
  have f6 := free_of_cells (j := 6) hR2
  have hxg : g ≠ w.heap.size := by omega
  have hos : (w2.setCell ⟨w.heap.size, 6, none⟩ (.slice (some ⟨g, 0, none⟩) p.stakes.length p.stakes.length)).ownsRow 0 3 1 (.slice (some ⟨g, 0, none⟩) p.stakes.length p.stakes.length) p.stakes.length (icells p.stakes) :=
    ownsRow_setCell_other (row_weak ho (Nat.zero_le _)) (by simpa [Value.ownBlock] using hxg) _
  have HB := Go.Proofs.Ytgeihfmhbifleaa.hid (hbw2.setCell (p := ⟨w.heap.size, 6, none⟩) (by exact Nat.le_refl _) (.slice (some ⟨g, 0, none⟩) p.stakes.length p.stakes.length))
  have HOS := Go.Proofs.Ytgeihfmhbifleaa.hid hos
  have HSW := Go.Proofs.Ytgeihfmhbifleaa.hid (show (w2.setCell ⟨w.heap.size, 6, none⟩ (.slice (some ⟨g, 0, none⟩) p.stakes.length p.stakes.length)).heap.size = w2.heap.size by simp [World.setCell])
  clear hb2 hbw hR1 c6 hos ho hsrc
  go_wp2
  go_ret2
  generalize w2.setCell ⟨w.heap.size, 6, none⟩ (.slice (some ⟨g, 0, none⟩) p.stakes.length p.stakes.length) = W at *
  have hsW : W.heap.size = w2.heap.size := HSW.out
  refine ⟨w2.heap.size + 1 + 1, g, p.stakes.length, w2.heap.size, 1, w2.heap.size + 1, 1, rfl, ⟨?_, ?_, ?_, ?_, by omega⟩, ?_, by omega, by have := hgl.1; omega, by omega, by omega⟩
  · have := heap_alloc_new ((W.alloc (.cells #[.int .i64 0, .int .i64 0, .int .i64 0, .int .i64 0, .int .i64 0, .int .i64 0, .int .i64 0, .int .i64 0] 132)).alloc (.cells #[.int .i64 0] 3)) (.cells #[.int .i64 p.depth, .int .i64 p.epoch, .int .i64 p.room, .int .i64 p.a, .int .i64 p.b, .int .i64 p.nonce, .slice (some ⟨g, 0, none⟩) p.stakes.length p.stakes.length, .slice (some ⟨w2.heap.size, 0, none⟩) 1 1, .slice (some ⟨w2.heap.size + 1, 0, none⟩) 1 1, .int .i64 0, .int .i64 0, .int .i64 0, .int .i64 0] 136)
    simp only [World.size_alloc, hsW] at this
    exact this
  · exact ((HOS.out.alloc _).alloc _).alloc _
  · have h := World.ownsRow_lit (base := 0) (e := 132) (size := 8) W #[.int .i64 0, .int .i64 0, .int .i64 0, .int .i64 0, .int .i64 0, .int .i64 0, .int .i64 0, .int .i64 0] 1 (Nat.zero_le _) (by unfold maxLen; omega) rfl
    rw [hsW] at h
    exact (h.alloc _).alloc _
  · have h := World.ownsRow_lit (base := 0) (e := 3) (size := 1) (W.alloc (.cells #[.int .i64 0, .int .i64 0, .int .i64 0, .int .i64 0, .int .i64 0, .int .i64 0, .int .i64 0, .int .i64 0] 132)) #[.int .i64 0] 1 (Nat.zero_le _) (by unfold maxLen; omega) rfl
    simp only [World.size_alloc, hsW] at h
    exact h.alloc _
  · exact ((HB.out.alloc (by omega) _).alloc (by simp; omega) _).alloc (by simp; omega) _

theorem dcells_icells (l : List Nat) : dcells l = icells (l.map fun (n : Nat) => (n : Int)) := by simp [dcells, icells]

set_option maxHeartbeats 400000 in
theorem kept_any (x gs cs ga ca gk ck : Nat) (s : St) (w : World) (hr : RefAt w x gs cs ga ca gk ck s) (hi : Wk s) :
    Calls Try.prog 97 #[.pointer (some ⟨x, 0, none⟩)] w fun e w' => ∃ g, e = .returned (.slice (some ⟨g, 0, none⟩) s.keep.length s.keep.length) ∧ w'.ownsRow w.heap.size 3 1 (.slice (some ⟨g, 0, none⟩) s.keep.length s.keep.length) s.keep.length (dcells s.keep) ∧ Below w.heap.size w w' := by
  have c8 := cell_of_cells (j := 8) hr.blk rfl
  have kl := hi.kl
  have hsrc : ∀ ad, some (⟨gk, 0, none⟩ : Addr) = some ad → ∀ j v, (icells (s.keep.map fun (n : Nat) => (n : Int)))[j]? = some v → w.cell? (ad.add j) = some v := by
    intro ad e j v hv
    simp at e
    subst e
    rw [← dcells_icells] at hv
    exact hr.kep.cells rfl j v hv
  go_enter Try.func97, Try.ntmps97
  go_wp2_with fail
  refine (copied_any (some ⟨gk, 0, none⟩) s.keep.length ck (s.keep.map fun (n : Nat) => (n : Int)) _ (by simp) (by intro e; cases e) hsrc (by omega)).mono ?_
  rintro e w2 ⟨g, rfl, ho, hb2⟩
  rw [← dcells_icells] at ho
  have HO := Go.Proofs.Ytgeihfmhbifleaa.hid ho
  clear ho hsrc c8
  go_wp2
  go_ret
  exact ⟨g, rfl, HO.out, hb2⟩

def lookV (s : St) (id : Int) : Value :=
  if missing s id = 0 then .agg #[.int .i64 (hd s.all id.toNat).slot, .int .i64 (hd s.all id.toNat).pool, .int .i64 (hd s.all id.toNat).proof, .int .i64 (hd s.all id.toNat).count, .int .i64 (hd s.all id.toNat).frm, .int .i64 (hd s.all id.toNat).dst, .int .i64 (hd s.all id.toNat).amount, .int .i64 (pa s.all id.toNat : Nat), .int .i64 (height s.all id.toNat : Nat)]
  else .agg #[.int .i64 0, .int .i64 0, .int .i64 0, .int .i64 0, .int .i64 0, .int .i64 0, .int .i64 0, .int .i64 0, .int .i64 0]

end Go.Proofs.Ytgeihfmhbifleaa

