/-
  THE WALKS of beaconref: may, New.
-/
import Derived.Test.YtfpbkiknfkjpbaaRefTake
namespace Go.Proofs.Ytfpbkiknfkjpbaa
open Go.RowKit Num Bk
set_option linter.unusedVariables false

/-- Parameters as a value; the stakes lie at 'so'. -/
def parV (p : Par) (so : Option Addr) (c : Nat) : Value := .agg #[.int .i64 p.depth, .int .i64 p.epoch, .int .i64 p.room, .int .i64 p.a, .int .i64 p.b, .int .i64 p.nonce, .slice so p.stakes.length c]

/-- May a chain begin so? -/
def parB (p : Par) : Bool := decide (1 ≤ p.depth ∧ p.depth ≤ 8 ∧ 1 ≤ p.epoch ∧ p.epoch ≤ 50 ∧ 2 ≤ p.room ∧ p.room ≤ 40 ∧ p.b ≤ 20 ∧ 1 ≤ p.a ∧ p.a < p.b ∧ 0 ≤ p.nonce ∧ p.nonce < 65521 ∧ 1 ≤ p.stakes.length ∧ p.stakes.length ≤ 6 ∧ (∀ x ∈ p.stakes, 0 ≤ x ∧ x ≤ 40) ∧ 0 < p.stakes.sum)

theorem parB_iff (p : Par) : parB p = true ↔ ParOk p := by
  unfold parB
  rw [decide_eq_true_iff]
  constructor
  · rintro ⟨h1, h2, h3, h4, h5, h6, h7, h8, h9, h10, h11, h12, h13, h14, h15⟩
    exact ⟨h1, h2, h3, h4, h5, h6, h7, h8, h9, h10, h11, h12, h13, h14, h15⟩
  · rintro ⟨h1, h2, h3, h4, h5, h6, h7, h8, h9, h10, h11, h12, h13, h14, h15⟩
    exact ⟨h1, h2, h3, h4, h5, h6, h7, h8, h9, h10, h11, h12, h13, h14, h15⟩
theorem parB_false (p : Par) : parB p = false ↔ ¬ ParOk p := by
  rw [← parB_iff]; cases parB p <;> simp

/-- The stakes can be read. -/
def StkAt (w : World) (so : Option Addr) (l : List Int) : Prop := ∀ j, j < l.length → ∃ g off, so = some ⟨g, off, none⟩ ∧ w.cell? ⟨g, off + j, none⟩ = some (.int .i64 (l.getD j 0))

set_option maxHeartbeats 6400000 in
set_option maxRecDepth 1000000 in
theorem may_any (p : Par) (so : Option Addr) (c : Nat) (w : World) (hs : StkAt w so p.stakes) :
    Calls Try.prog 70 #[parV p so c] w fun e w' => e = .returned (.bool (parB p)) ∧ Below w.heap.size w w' := by
  unfold parV
  by_cases q0 : p.depth < 1
  · have HN := Go.Proofs.Ytfpbkiknfkjpbaa.hid (show parB p = false by
      rw [parB_false]; intro h; have := h.d1; omega)
    go_enter Try.func70, Try.ntmps70
    go_wp2
    go_ret
    exact ⟨by rw [HN.out]; rfl, (Below.refl _ _).alloc (Nat.le_refl _) _⟩
  by_cases q1 : 8 < p.depth
  · have HN := Go.Proofs.Ytfpbkiknfkjpbaa.hid (show parB p = false by
      rw [parB_false]; intro h; have := h.d2; omega)
    go_enter Try.func70, Try.ntmps70
    go_wp2
    go_ret
    exact ⟨by rw [HN.out]; rfl, (Below.refl _ _).alloc (Nat.le_refl _) _⟩
  by_cases q2 : p.epoch < 1
  · have HN := Go.Proofs.Ytfpbkiknfkjpbaa.hid (show parB p = false by
      rw [parB_false]; intro h; have := h.e1; omega)
    go_enter Try.func70, Try.ntmps70
    go_wp2
    go_ret
    exact ⟨by rw [HN.out]; rfl, (Below.refl _ _).alloc (Nat.le_refl _) _⟩
  by_cases q3 : 50 < p.epoch
  · have HN := Go.Proofs.Ytfpbkiknfkjpbaa.hid (show parB p = false by
      rw [parB_false]; intro h; have := h.e2; omega)
    go_enter Try.func70, Try.ntmps70
    go_wp2
    go_ret
    exact ⟨by rw [HN.out]; rfl, (Below.refl _ _).alloc (Nat.le_refl _) _⟩
  by_cases q4 : p.room < 2
  · have HN := Go.Proofs.Ytfpbkiknfkjpbaa.hid (show parB p = false by
      rw [parB_false]; intro h; have := h.r1; omega)
    go_enter Try.func70, Try.ntmps70
    go_wp2
    go_ret
    exact ⟨by rw [HN.out]; rfl, (Below.refl _ _).alloc (Nat.le_refl _) _⟩
  by_cases q5 : 40 < p.room
  · have HN := Go.Proofs.Ytfpbkiknfkjpbaa.hid (show parB p = false by
      rw [parB_false]; intro h; have := h.r2; omega)
    go_enter Try.func70, Try.ntmps70
    go_wp2
    go_ret
    exact ⟨by rw [HN.out]; rfl, (Below.refl _ _).alloc (Nat.le_refl _) _⟩
  by_cases q6 : p.b < 2
  · have HN := Go.Proofs.Ytfpbkiknfkjpbaa.hid (show parB p = false by
      rw [parB_false]; intro h; have := h.a1; have := h.a2; omega)
    go_enter Try.func70, Try.ntmps70
    go_wp2
    go_ret
    exact ⟨by rw [HN.out]; rfl, (Below.refl _ _).alloc (Nat.le_refl _) _⟩
  by_cases q7 : 20 < p.b
  · have HN := Go.Proofs.Ytfpbkiknfkjpbaa.hid (show parB p = false by
      rw [parB_false]; intro h; have := h.b2; omega)
    go_enter Try.func70, Try.ntmps70
    go_wp2
    go_ret
    exact ⟨by rw [HN.out]; rfl, (Below.refl _ _).alloc (Nat.le_refl _) _⟩
  by_cases q8 : p.a < 1
  · have HN := Go.Proofs.Ytfpbkiknfkjpbaa.hid (show parB p = false by
      rw [parB_false]; intro h; have := h.a1; omega)
    go_enter Try.func70, Try.ntmps70
    go_wp2
    go_ret
    exact ⟨by rw [HN.out]; rfl, (Below.refl _ _).alloc (Nat.le_refl _) _⟩
  by_cases q9 : p.b ≤ p.a
  · have HN := Go.Proofs.Ytfpbkiknfkjpbaa.hid (show parB p = false by
      rw [parB_false]; intro h; have := h.a2; omega)
    go_enter Try.func70, Try.ntmps70
    go_wp2
    go_ret
    exact ⟨by rw [HN.out]; rfl, (Below.refl _ _).alloc (Nat.le_refl _) _⟩
  by_cases q10 : p.nonce < 0
  · have HN := Go.Proofs.Ytfpbkiknfkjpbaa.hid (show parB p = false by
      rw [parB_false]; intro h; have := h.n1; omega)
    go_enter Try.func70, Try.ntmps70
    go_wp2
    go_ret
    exact ⟨by rw [HN.out]; rfl, (Below.refl _ _).alloc (Nat.le_refl _) _⟩
  by_cases q11 : 65521 ≤ p.nonce
  · have HN := Go.Proofs.Ytfpbkiknfkjpbaa.hid (show parB p = false by
      rw [parB_false]; intro h; have := h.n2; omega)
    go_enter Try.func70, Try.ntmps70
    go_wp2
    go_ret
    exact ⟨by rw [HN.out]; rfl, (Below.refl _ _).alloc (Nat.le_refl _) _⟩
  by_cases q12 : (p.stakes.length : Int) < 1
  · have HN := Go.Proofs.Ytfpbkiknfkjpbaa.hid (show parB p = false by
      rw [parB_false]; intro h; have := h.l1; omega)
    go_enter Try.func70, Try.ntmps70
    go_wp2
    go_ret
    exact ⟨by rw [HN.out]; rfl, (Below.refl _ _).alloc (Nat.le_refl _) _⟩
  by_cases q13 : 6 < (p.stakes.length : Int)
  · have HN := Go.Proofs.Ytfpbkiknfkjpbaa.hid (show parB p = false by
      rw [parB_false]; intro h; have := h.l2; omega)
    go_enter Try.func70, Try.ntmps70
    go_wp2
    go_ret
    exact ⟨by rw [HN.out]; rfl, (Below.refl _ _).alloc (Nat.le_refl _) _⟩
  have hl0 : 0 < p.stakes.length := by omega
  obtain ⟨g, off, rfl, _⟩ := hs 0 hl0
  have hcell : ∀ j, j < p.stakes.length → w.cell? ⟨g, off + j, none⟩ = some (.int .i64 (p.stakes.getD j 0)) := by
    intro j hj
    obtain ⟨g', off', e, h⟩ := hs j hj
    simp at e
    obtain ⟨rfl, rfl⟩ := e
    exact h
  have HC := Go.Proofs.Ytfpbkiknfkjpbaa.hid hcell
  have hgl : g < w.heap.size := World.block_lt_of_cell? w ⟨g, off + 0, none⟩ (hcell 0 hl0)
  clear hcell hs
  go_enter Try.func70, Try.ntmps70
  go_wp2
  go_loop [3, 4] (fun t i => ∃ (j : Nat) (m : Int), j ≤ p.stakes.length ∧ i = .int .i64 j ∧ t = .int .i64 m ∧ 0 ≤ m ∧ m ≤ 40 * (j : Int) ∧ Hid (m = (p.stakes.take j).sum ∧ ∀ x ∈ p.stakes.take j, 0 ≤ x ∧ x ≤ 40)) (fun _ i => p.stakes.length - (intOf i).toNat)
  case atStart => exact ⟨0, 0, Nat.zero_le _, rfl, rfl, by omega, by omega, by unfold Hid; simp⟩
  case round =>
    obtain ⟨j, m, hj, rfl, rfl, hm0, hm1, HM⟩ := hrel
    by_cases hlt : j < p.stakes.length
    · have cj := HC.out j hlt
      have hmem : p.stakes.getD j 0 ∈ p.stakes := by
        rw [show p.stakes.getD j 0 = p.stakes[j] from by simp [List.getD, hlt]]
        exact List.getElem_mem hlt
      have hst := sum_take p.stakes j hlt
      have htk : p.stakes.take (j + 1) = p.stakes.take j ++ [p.stakes.getD j 0] := by
        rw [List.take_succ_eq_append_getElem hlt]; simp [List.getD, hlt]
      have HST := Go.Proofs.Ytfpbkiknfkjpbaa.hid hst
      have HTK := Go.Proofs.Ytfpbkiknfkjpbaa.hid htk
      have HMEM := Go.Proofs.Ytfpbkiknfkjpbaa.hid hmem
      clear hst htk hmem
      generalize p.stakes.getD j 0 = v at *
      by_cases y1 : v < 0
      · have HN := Go.Proofs.Ytfpbkiknfkjpbaa.hid (show parB p = false by
          rw [parB_false]; intro h; have := h.s1 v HMEM.out; omega)
        go_wp2
        go_ret
        exact ⟨by rw [HN.out]; rfl, (Below.refl _ _).alloc (Nat.le_refl _) _⟩
      · by_cases y2 : 40 < v
        · have HN := Go.Proofs.Ytfpbkiknfkjpbaa.hid (show parB p = false by
            rw [parB_false]; intro h; have := h.s1 v HMEM.out; omega)
          go_wp2
          go_ret
          exact ⟨by rw [HN.out]; rfl, (Below.refl _ _).alloc (Nat.le_refl _) _⟩
        · go_wp2
          go_round
          case rel =>
            refine ⟨j + 1, m + v, by omega, by go_num, rfl, by omega, by omega, ?_⟩
            show _ ∧ _
            refine ⟨by rw [HST.out, HM.out.1], ?_⟩
            rw [HTK.out]
            intro z hz
            rw [List.mem_append] at hz
            rcases hz with hz | hz
            · exact HM.out.2 z hz
            · simp at hz; omega
          case measure => simp [intOf]; omega
    · have hmt : m = p.stakes.sum ∧ ∀ x ∈ p.stakes, 0 ≤ x ∧ x ≤ 40 := by
        have := HM.out
        rw [List.take_of_length_le (by omega)] at this
        exact this
      have HE := Go.Proofs.Ytfpbkiknfkjpbaa.hid (show parB p = decide (0 < m) by
        rw [Bool.eq_iff_iff, parB_iff, decide_eq_true_iff]
        constructor
        · intro h; have := h.s2; omega
        · intro h
          exact ⟨by omega, by omega, by omega, by omega, by omega, by omega, by omega, by omega, by omega, by omega, by omega, by omega, by omega, hmt.2, by omega⟩)
      clear hmt HM
      go_wp2
      go_ret
      exact ⟨by rw [HE.out]; rfl, (Below.refl _ _).alloc (Nat.le_refl _) _⟩

end Go.Proofs.Ytfpbkiknfkjpbaa
