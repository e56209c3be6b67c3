import Derived.Test.YtpaakikgfojplaaGreatCM6
import Derived.Test.YtpaakikgfojplaaGreatCRefTake
/-
  THE WALKS of the statements' book: running, there, wanted, came.
-/
namespace Go.Proofs.YtpaakikgfojplaaGreat
open Go.RowKit Num Bk
set_option linter.unusedVariables false

end Go.Proofs.YtpaakikgfojplaaGreat

/-
  THE WALKS of the statements' book: there, wanted, came.
-/
namespace Go.Proofs.YtpaakikgfojplaaGreat
open Go.RowKit Num Bk
set_option linter.unusedVariables false
attribute [local go_sem ↓] run_eql_hdr Go.wp_at_zero Go.wp_at_succ

/-- What Offer must answer to a header that was made: its number, its error. -/
def wantErr (s : St) (parent : Int) (h : Hdr) : Int := if 0 < there s parent h then 10 else if s.par.room ≤ s.keep.length then 11 else 0
def wantId (s : St) (parent : Int) (h : Hdr) : Int := if wantErr s parent h = 0 then s.all.length else 0

end Go.Proofs.YtpaakikgfojplaaGreat

/-
  THE WALKS of the statements' book: came.
-/
namespace Go.Proofs.YtpaakikgfojplaaGreat
open Go.RowKit Num Bk
set_option linter.unusedVariables false
attribute [local go_sem ↓] Go.wp_at_zero Go.wp_at_succ

end Go.Proofs.YtpaakikgfojplaaGreat

/-
  THE WALKS of beaconref: may, New.
-/
namespace Go.Proofs.YtpaakikgfojplaaGreat
open Go.RowKit Num Bk
set_option linter.unusedVariables false

/-- Parameters as a value; the stakes lie at 'so'. -/
def parV (p : Par) (so : Option Addr) (c : Nat) : Value := .agg #[.int .i64 p.depth, .int .i64 p.epoch, .int .i64 p.room, .int .i64 p.a, .int .i64 p.b, .int .i64 p.nonce, .slice so p.stakes.length c]

/-- May a chain begin so? -/
def parB (p : Par) : Bool := decide (1 ≤ p.depth ∧ p.depth ≤ 8 ∧ 1 ≤ p.epoch ∧ p.epoch ≤ 50 ∧ 2 ≤ p.room ∧ p.room ≤ 40 ∧ p.b ≤ 20 ∧ 1 ≤ p.a ∧ p.a < p.b ∧ 0 ≤ p.nonce ∧ p.nonce < 65521 ∧ 1 ≤ p.stakes.length ∧ p.stakes.length ≤ 6 ∧ (∀ x ∈ p.stakes, 0 ≤ x ∧ x ≤ 40) ∧ 0 < p.stakes.sum)

theorem parB_iff (p : Par) : parB p = true ↔ ParOk p := by
  unfold parB
  rw [decide_eq_true_iff]
  constructor
  · rintro ⟨h1, h2, h3, h4, h5, h6, h7, h8, h9, h10, h11, h12, h13, h14, h15⟩
    exact ⟨h1, h2, h3, h4, h5, h6, h7, h8, h9, h10, h11, h12, h13, h14, h15⟩
  · rintro ⟨h1, h2, h3, h4, h5, h6, h7, h8, h9, h10, h11, h12, h13, h14, h15⟩
    exact ⟨h1, h2, h3, h4, h5, h6, h7, h8, h9, h10, h11, h12, h13, h14, h15⟩
theorem parB_false (p : Par) : parB p = false ↔ ¬ ParOk p := by
  rw [← parB_iff]; cases parB p <;> simp

/-- The stakes can be read. -/
def StkAt (w : World) (so : Option Addr) (l : List Int) : Prop := ∀ j, j < l.length → ∃ g off, so = some ⟨g, off, none⟩ ∧ w.cell? ⟨g, off + j, none⟩ = some (.int .i64 (l.getD j 0))

set_option maxHeartbeats 6400000 in
set_option maxRecDepth 1000000 in
theorem may_any (p : Par) (so : Option Addr) (c : Nat) (w : World) (hs : StkAt w so p.stakes) :
    Calls Tryz.prog 18 #[parV p so c] w fun e w' => e = .returned (.bool (parB p)) ∧ Below w.heap.size w w' := by
  unfold parV
  by_cases q0 : p.depth < 1
  · have HN := Go.Proofs.YtpaakikgfojplaaGreat.hid (show parB p = false by
      rw [parB_false]; intro h; have := h.d1; omega)
    go_enter Tryz.func18, Tryz.ntmps18
    go_wp2
    go_ret
    exact ⟨by rw [HN.out]; rfl, (Below.refl _ _).alloc (Nat.le_refl _) _⟩
  by_cases q1 : 8 < p.depth
  · have HN := Go.Proofs.YtpaakikgfojplaaGreat.hid (show parB p = false by
      rw [parB_false]; intro h; have := h.d2; omega)
    go_enter Tryz.func18, Tryz.ntmps18
    go_wp2
    go_ret
    exact ⟨by rw [HN.out]; rfl, (Below.refl _ _).alloc (Nat.le_refl _) _⟩
  by_cases q2 : p.epoch < 1
  · have HN := Go.Proofs.YtpaakikgfojplaaGreat.hid (show parB p = false by
      rw [parB_false]; intro h; have := h.e1; omega)
    go_enter Tryz.func18, Tryz.ntmps18
    go_wp2
    go_ret
    exact ⟨by rw [HN.out]; rfl, (Below.refl _ _).alloc (Nat.le_refl _) _⟩
  by_cases q3 : 50 < p.epoch
  · have HN := Go.Proofs.YtpaakikgfojplaaGreat.hid (show parB p = false by
      rw [parB_false]; intro h; have := h.e2; omega)
    go_enter Tryz.func18, Tryz.ntmps18
    go_wp2
    go_ret
    exact ⟨by rw [HN.out]; rfl, (Below.refl _ _).alloc (Nat.le_refl _) _⟩
  by_cases q4 : p.room < 2
  · have HN := Go.Proofs.YtpaakikgfojplaaGreat.hid (show parB p = false by
      rw [parB_false]; intro h; have := h.r1; omega)
    go_enter Tryz.func18, Tryz.ntmps18
    go_wp2
    go_ret
    exact ⟨by rw [HN.out]; rfl, (Below.refl _ _).alloc (Nat.le_refl _) _⟩
  by_cases q5 : 40 < p.room
  · have HN := Go.Proofs.YtpaakikgfojplaaGreat.hid (show parB p = false by
      rw [parB_false]; intro h; have := h.r2; omega)
    go_enter Tryz.func18, Tryz.ntmps18
    go_wp2
    go_ret
    exact ⟨by rw [HN.out]; rfl, (Below.refl _ _).alloc (Nat.le_refl _) _⟩
  by_cases q6 : p.b < 2
  · have HN := Go.Proofs.YtpaakikgfojplaaGreat.hid (show parB p = false by
      rw [parB_false]; intro h; have := h.a1; have := h.a2; omega)
    go_enter Tryz.func18, Tryz.ntmps18
    go_wp2
    go_ret
    exact ⟨by rw [HN.out]; rfl, (Below.refl _ _).alloc (Nat.le_refl _) _⟩
  by_cases q7 : 20 < p.b
  · have HN := Go.Proofs.YtpaakikgfojplaaGreat.hid (show parB p = false by
      rw [parB_false]; intro h; have := h.b2; omega)
    go_enter Tryz.func18, Tryz.ntmps18
    go_wp2
    go_ret
    exact ⟨by rw [HN.out]; rfl, (Below.refl _ _).alloc (Nat.le_refl _) _⟩
  by_cases q8 : p.a < 1
  · have HN := Go.Proofs.YtpaakikgfojplaaGreat.hid (show parB p = false by
      rw [parB_false]; intro h; have := h.a1; omega)
    go_enter Tryz.func18, Tryz.ntmps18
    go_wp2
    go_ret
    exact ⟨by rw [HN.out]; rfl, (Below.refl _ _).alloc (Nat.le_refl _) _⟩
  by_cases q9 : p.b ≤ p.a
  · have HN := Go.Proofs.YtpaakikgfojplaaGreat.hid (show parB p = false by
      rw [parB_false]; intro h; have := h.a2; omega)
    go_enter Tryz.func18, Tryz.ntmps18
    go_wp2
    go_ret
    exact ⟨by rw [HN.out]; rfl, (Below.refl _ _).alloc (Nat.le_refl _) _⟩
  by_cases q10 : p.nonce < 0
  · have HN := Go.Proofs.YtpaakikgfojplaaGreat.hid (show parB p = false by
      rw [parB_false]; intro h; have := h.n1; omega)
    go_enter Tryz.func18, Tryz.ntmps18
    go_wp2
    go_ret
    exact ⟨by rw [HN.out]; rfl, (Below.refl _ _).alloc (Nat.le_refl _) _⟩
  by_cases q11 : 65521 ≤ p.nonce
  · have HN := Go.Proofs.YtpaakikgfojplaaGreat.hid (show parB p = false by
      rw [parB_false]; intro h; have := h.n2; omega)
    go_enter Tryz.func18, Tryz.ntmps18
    go_wp2
    go_ret
    exact ⟨by rw [HN.out]; rfl, (Below.refl _ _).alloc (Nat.le_refl _) _⟩
  by_cases q12 : (p.stakes.length : Int) < 1
  · have HN := Go.Proofs.YtpaakikgfojplaaGreat.hid (show parB p = false by
      rw [parB_false]; intro h; have := h.l1; omega)
    go_enter Tryz.func18, Tryz.ntmps18
    go_wp2
    go_ret
    exact ⟨by rw [HN.out]; rfl, (Below.refl _ _).alloc (Nat.le_refl _) _⟩
  by_cases q13 : 6 < (p.stakes.length : Int)
  · have HN := Go.Proofs.YtpaakikgfojplaaGreat.hid (show parB p = false by
      rw [parB_false]; intro h; have := h.l2; omega)
    go_enter Tryz.func18, Tryz.ntmps18
    go_wp2
    go_ret
    exact ⟨by rw [HN.out]; rfl, (Below.refl _ _).alloc (Nat.le_refl _) _⟩
  have hl0 : 0 < p.stakes.length := by omega
  obtain ⟨g, off, rfl, _⟩ := hs 0 hl0
  have hcell : ∀ j, j < p.stakes.length → w.cell? ⟨g, off + j, none⟩ = some (.int .i64 (p.stakes.getD j 0)) := by
    intro j hj
    obtain ⟨g', off', e, h⟩ := hs j hj
    simp at e
    obtain ⟨rfl, rfl⟩ := e
    exact h
  have HC := Go.Proofs.YtpaakikgfojplaaGreat.hid hcell
  have hgl : g < w.heap.size := World.block_lt_of_cell? w ⟨g, off + 0, none⟩ (hcell 0 hl0)
  clear hcell hs
  go_enter Tryz.func18, Tryz.ntmps18
  go_wp2
  go_loop [3, 4] (fun t i => ∃ (j : Nat) (m : Int), j ≤ p.stakes.length ∧ i = .int .i64 j ∧ t = .int .i64 m ∧ 0 ≤ m ∧ m ≤ 40 * (j : Int) ∧ Hid (m = (p.stakes.take j).sum ∧ ∀ x ∈ p.stakes.take j, 0 ≤ x ∧ x ≤ 40)) (fun _ i => p.stakes.length - (intOf i).toNat)
  case atStart => exact ⟨0, 0, Nat.zero_le _, rfl, rfl, by omega, by omega, by unfold Hid; simp⟩
  case round =>
    obtain ⟨j, m, hj, rfl, rfl, hm0, hm1, HM⟩ := hrel
    by_cases hlt : j < p.stakes.length
    · have cj := HC.out j hlt
      have hmem : p.stakes.getD j 0 ∈ p.stakes := by
        rw [show p.stakes.getD j 0 = p.stakes[j] from by simp [List.getD, hlt]]
        exact List.getElem_mem hlt
      have hst := sum_take p.stakes j hlt
      have htk : p.stakes.take (j + 1) = p.stakes.take j ++ [p.stakes.getD j 0] := by
        rw [List.take_succ_eq_append_getElem hlt]; simp [List.getD, hlt]
      have HST := Go.Proofs.YtpaakikgfojplaaGreat.hid hst
      have HTK := Go.Proofs.YtpaakikgfojplaaGreat.hid htk
      have HMEM := Go.Proofs.YtpaakikgfojplaaGreat.hid hmem
      clear hst htk hmem
      generalize p.stakes.getD j 0 = v at *
      by_cases y1 : v < 0
      · have HN := Go.Proofs.YtpaakikgfojplaaGreat.hid (show parB p = false by
          rw [parB_false]; intro h; have := h.s1 v HMEM.out; omega)
        go_wp2
        go_ret
        exact ⟨by rw [HN.out]; rfl, (Below.refl _ _).alloc (Nat.le_refl _) _⟩
      · by_cases y2 : 40 < v
        · have HN := Go.Proofs.YtpaakikgfojplaaGreat.hid (show parB p = false by
            rw [parB_false]; intro h; have := h.s1 v HMEM.out; omega)
          go_wp2
          go_ret
          exact ⟨by rw [HN.out]; rfl, (Below.refl _ _).alloc (Nat.le_refl _) _⟩
        · go_wp2
          go_round
          case rel =>
            refine ⟨j + 1, m + v, by omega, by go_num, rfl, by omega, by omega, ?_⟩
            show _ ∧ _
            refine ⟨by rw [HST.out, HM.out.1], ?_⟩
            rw [HTK.out]
            intro z hz
            rw [List.mem_append] at hz
            rcases hz with hz | hz
            · exact HM.out.2 z hz
            · simp at hz; omega
          case measure => simp [intOf]; omega
    · have hmt : m = p.stakes.sum ∧ ∀ x ∈ p.stakes, 0 ≤ x ∧ x ≤ 40 := by
        have := HM.out
        rw [List.take_of_length_le (by omega)] at this
        exact this
      have HE := Go.Proofs.YtpaakikgfojplaaGreat.hid (show parB p = decide (0 < m) by
        rw [Bool.eq_iff_iff, parB_iff, decide_eq_true_iff]
        constructor
        · intro h; have := h.s2; omega
        · intro h
          exact ⟨by omega, by omega, by omega, by omega, by omega, by omega, by omega, by omega, by omega, by omega, by omega, by omega, by omega, hmt.2, by omega⟩)
      clear hmt HM
      go_wp2
      go_ret
      exact ⟨by rw [HE.out]; rfl, (Below.refl _ _).alloc (Nat.le_refl _) _⟩

end Go.Proofs.YtpaakikgfojplaaGreat

/-
  THE WALKS of beaconref: New, Kept, Look.
-/
namespace Go.Proofs.YtpaakikgfojplaaGreat
open Go.RowKit Num Bk
set_option linter.unusedVariables false

theorem StkAt.src {w : World} {so : Option Addr} {l : List Int} (h : StkAt w so l) : ∀ ad, so = some ad → ∀ j v, (icells l)[j]? = some v → w.cell? (ad.add j) = some v := by
  intro ad e j v hv
  have hj : j < l.length := by
    have := (List.getElem?_eq_some_iff.1 hv).1
    rwa [icells_length] at this
  obtain ⟨g, off, e', hc⟩ := h j hj
  rw [e] at e'
  simp at e'
  subst e'
  rw [Addr.add_lit, hc]
  rw [icells_at l j hj] at hv
  exact hv

theorem StkAt.keep {w w' : World} {so : Option Addr} {l : List Int} (h : StkAt w so l) (hb : Below w.heap.size w w') : StkAt w' so l := by
  intro j hj
  obtain ⟨g, off, e', hc⟩ := h j hj
  refine ⟨g, off, e', ?_⟩
  rw [hb.cell (p := ⟨g, off + j, none⟩) (World.block_lt_of_cell? w _ hc)]
  exact hc

set_option maxHeartbeats 1600000 in
set_option maxRecDepth 1000000 in
theorem new_no (p : Par) (so : Option Addr) (c : Nat) (w : World) (hs : StkAt w so p.stakes) (hn : parB p = false) :
    Calls Tryz.prog 11 #[parV p so c] w fun e w' => e = .returned (.tuple #[.pointer none, .int .i64 1]) ∧ Below w.heap.size w w' := by
  unfold parV
  go_enter Tryz.func11, Tryz.ntmps11
  go_wp2_with fail
  have hb0 : Below w.heap.size w (w.alloc (.cells #[.int .i64 p.depth, .int .i64 p.epoch, .int .i64 p.room, .int .i64 p.a, .int .i64 p.b, .int .i64 p.nonce, .slice so p.stakes.length c] 24)) := (Below.refl _ _).alloc (Nat.le_refl _) _
  refine (may_any p so c _ (hs.keep hb0)).mono ?_
  rintro e w1 ⟨rfl, hb1⟩
  rw [hn]
  have HB := Go.Proofs.YtpaakikgfojplaaGreat.hid (hb0.trans (hb1.mono (by simp)))
  clear hb0 hb1
  go_wp2
  go_ret2
  exact ⟨rfl, HB.out⟩

set_option maxHeartbeats 3200000 in
set_option maxRecDepth 1000000 in
theorem new_yes (p : Par) (so : Option Addr) (c : Nat) (w : World) (hs : StkAt w so p.stakes) (hn : parB p = true) :
    Calls Tryz.prog 11 #[parV p so c] w fun e w' => ∃ x gs cs ga ca gk ck, e = .returned (.tuple #[.pointer (some ⟨x, 0, none⟩), .int .i64 0]) ∧ RefAt w' x gs cs ga ca gk ck (Bk.start p) ∧ Below w.heap.size w w' ∧ w.heap.size ≤ x ∧ w.heap.size ≤ gs ∧ w.heap.size ≤ ga ∧ w.heap.size ≤ gk := by
  have hok := (parB_iff p).1 hn
  have l1 := hok.l1
  have l2 := hok.l2
  unfold parV
  go_enter Tryz.func11, Tryz.ntmps11
  go_wp2_with fail
  generalize hA : w.alloc (.cells #[.int .i64 p.depth, .int .i64 p.epoch, .int .i64 p.room, .int .i64 p.a, .int .i64 p.b, .int .i64 p.nonce, .slice so p.stakes.length c] 24) = A at *
  obtain ⟨hsA, hbA, hAR⟩ := below_zero hA
  clear hA
  refine (may_any p so c _ (hs.keep hbA)).mono ?_
  rintro e w1 ⟨rfl, hb1⟩
  rw [hn]
  have hs1 := hb1.size
  have hR1 : w1.heap[w.heap.size]? = some (.cells #[.int .i64 p.depth, .int .i64 p.epoch, .int .i64 p.room, .int .i64 p.a, .int .i64 p.b, .int .i64 p.nonce, .slice so p.stakes.length c] 24 (0, 0)) := by
    rw [hb1.block _ (by omega)]; exact hAR
  have hbw := hbA.trans (hb1.mono (by omega))
  have c6 := cell_of_cells (j := 6) hR1 rfl
  have hsrc := (hs.keep hbw).src
  have hnone : so = none → p.stakes.length = 0 := by
    intro e
    obtain ⟨g, off, e', _⟩ := hs 0 (by omega)
    rw [e] at e'; cases e'
  clear hb1 hbA hAR
  go_wp2_with fail
  refine (copied_any so p.stakes.length c p.stakes _ rfl hnone hsrc (by omega)).mono ?_
  rintro e w2 ⟨g, rfl, ho, hb2⟩
  have hs2 := hb2.size
  have hR2 : w2.heap[w.heap.size]? = some (.cells #[.int .i64 p.depth, .int .i64 p.epoch, .int .i64 p.room, .int .i64 p.a, .int .i64 p.b, .int .i64 p.nonce, .slice so p.stakes.length c] 24 (0, 0)) := by
    rw [hb2.block _ (by omega)]; exact hR1
  have hbw2 := hbw.trans (hb2.mono (by omega))
  have hgl := ho.lt g rfl
  have r0 := cell_of_cells (j := 0) hR2 rfl
  have r1 := cell_of_cells (j := 1) hR2 rfl
  have r2 := cell_of_cells (j := 2) hR2 rfl
  have r3 := cell_of_cells (j := 3) hR2 rfl
  have r4 := cell_of_cells (j := 4) hR2 rfl
  have r5 := cell_of_cells (j := 5) hR2 rfl
  have r6 := cell_of_cells (j := 6) hR2 rfl
  have f6 := free_of_cells (j := 6) hR2
  have hxg : g ≠ w.heap.size := by omega
  have hos : (w2.setCell ⟨w.heap.size, 6, none⟩ (.slice (some ⟨g, 0, none⟩) p.stakes.length p.stakes.length)).ownsRow 0 3 1 (.slice (some ⟨g, 0, none⟩) p.stakes.length p.stakes.length) p.stakes.length (icells p.stakes) :=
    ownsRow_setCell_other (row_weak ho (Nat.zero_le _)) (by simpa [Value.ownBlock] using hxg) _
  have HB := Go.Proofs.YtpaakikgfojplaaGreat.hid (hbw2.setCell (p := ⟨w.heap.size, 6, none⟩) (by exact Nat.le_refl _) (.slice (some ⟨g, 0, none⟩) p.stakes.length p.stakes.length))
  have HOS := Go.Proofs.YtpaakikgfojplaaGreat.hid hos
  have HSW := Go.Proofs.YtpaakikgfojplaaGreat.hid (show (w2.setCell ⟨w.heap.size, 6, none⟩ (.slice (some ⟨g, 0, none⟩) p.stakes.length p.stakes.length)).heap.size = w2.heap.size by simp [World.setCell])
  clear hb2 hbw hR1 c6 hos ho hsrc
  go_wp2
  go_ret2
  generalize w2.setCell ⟨w.heap.size, 6, none⟩ (.slice (some ⟨g, 0, none⟩) p.stakes.length p.stakes.length) = W at *
  have hsW : W.heap.size = w2.heap.size := HSW.out
  refine ⟨w2.heap.size + 1 + 1, g, p.stakes.length, w2.heap.size, 1, w2.heap.size + 1, 1, rfl, ⟨?_, ?_, ?_, ?_, by omega⟩, ?_, by omega, by have := hgl.1; omega, by omega, by omega⟩
  · have := heap_alloc_new ((W.alloc (.cells #[.int .i64 0, .int .i64 0, .int .i64 0, .int .i64 0, .int .i64 0, .int .i64 0, .int .i64 0, .int .i64 0] 70)).alloc (.cells #[.int .i64 0] 3)) (.cells #[.int .i64 p.depth, .int .i64 p.epoch, .int .i64 p.room, .int .i64 p.a, .int .i64 p.b, .int .i64 p.nonce, .slice (some ⟨g, 0, none⟩) p.stakes.length p.stakes.length, .slice (some ⟨w2.heap.size, 0, none⟩) 1 1, .slice (some ⟨w2.heap.size + 1, 0, none⟩) 1 1, .int .i64 0, .int .i64 0, .int .i64 0, .int .i64 0] 73)
    simp only [World.size_alloc, hsW] at this
    exact this
  · exact ((HOS.out.alloc _).alloc _).alloc _
  · have h := World.ownsRow_lit (base := 0) (e := 70) (size := 8) W #[.int .i64 0, .int .i64 0, .int .i64 0, .int .i64 0, .int .i64 0, .int .i64 0, .int .i64 0, .int .i64 0] 1 (Nat.zero_le _) (by unfold maxLen; omega) rfl
    rw [hsW] at h
    exact (h.alloc _).alloc _
  · have h := World.ownsRow_lit (base := 0) (e := 3) (size := 1) (W.alloc (.cells #[.int .i64 0, .int .i64 0, .int .i64 0, .int .i64 0, .int .i64 0, .int .i64 0, .int .i64 0, .int .i64 0] 70)) #[.int .i64 0] 1 (Nat.zero_le _) (by unfold maxLen; omega) rfl
    simp only [World.size_alloc, hsW] at h
    exact h.alloc _
  · exact ((HB.out.alloc (by omega) _).alloc (by simp; omega) _).alloc (by simp; omega) _

theorem dcells_icells (l : List Nat) : dcells l = icells (l.map fun (n : Nat) => (n : Int)) := by simp [dcells, icells]

set_option maxHeartbeats 400000 in
theorem kept_any (x gs cs ga ca gk ck : Nat) (s : St) (w : World) (hr : RefAt w x gs cs ga ca gk ck s) (hi : Wk s) :
    Calls Tryz.prog 35 #[.pointer (some ⟨x, 0, none⟩)] w fun e w' => ∃ g, e = .returned (.slice (some ⟨g, 0, none⟩) s.keep.length s.keep.length) ∧ w'.ownsRow w.heap.size 3 1 (.slice (some ⟨g, 0, none⟩) s.keep.length s.keep.length) s.keep.length (dcells s.keep) ∧ Below w.heap.size w w' := by
  have c8 := cell_of_cells (j := 8) hr.blk rfl
  have kl := hi.kl
  have hsrc : ∀ ad, some (⟨gk, 0, none⟩ : Addr) = some ad → ∀ j v, (icells (s.keep.map fun (n : Nat) => (n : Int)))[j]? = some v → w.cell? (ad.add j) = some v := by
    intro ad e j v hv
    simp at e
    subst e
    rw [← dcells_icells] at hv
    exact hr.kep.cells rfl j v hv
  go_enter Tryz.func35, Tryz.ntmps35
  go_wp2_with fail
  refine (copied_any (some ⟨gk, 0, none⟩) s.keep.length ck (s.keep.map fun (n : Nat) => (n : Int)) _ (by simp) (by intro e; cases e) hsrc (by omega)).mono ?_
  rintro e w2 ⟨g, rfl, ho, hb2⟩
  rw [← dcells_icells] at ho
  have HO := Go.Proofs.YtpaakikgfojplaaGreat.hid ho
  clear ho hsrc c8
  go_wp2
  go_ret
  exact ⟨g, rfl, HO.out, hb2⟩

def lookV (s : St) (id : Int) : Value :=
  if missing s id = 0 then .agg #[.int .i64 (hd s.all id.toNat).slot, .int .i64 (hd s.all id.toNat).pool, .int .i64 (hd s.all id.toNat).proof, .int .i64 (hd s.all id.toNat).count, .int .i64 (hd s.all id.toNat).frm, .int .i64 (hd s.all id.toNat).dst, .int .i64 (hd s.all id.toNat).amount, .int .i64 (pa s.all id.toNat : Nat), .int .i64 (height s.all id.toNat : Nat)]
  else .agg #[.int .i64 0, .int .i64 0, .int .i64 0, .int .i64 0, .int .i64 0, .int .i64 0, .int .i64 0, .int .i64 0, .int .i64 0]

end Go.Proofs.YtpaakikgfojplaaGreat

