import Derived.Test.YtgeihfmhbifleabCLed4
import Derived.Test.YtgeihfmhbifleabCM11

/-
  THE WALKS of the program's ledger: mayMove.
-/
namespace Go.Proofs.Ytgeihfmhbifleab
open Go.RowKit Num Bk
set_option linter.unusedVariables false

def mayB (p : Par) (g : Pg) (h : Hdr) : Bool := poolB p h.frm && poolB p h.dst && decide (0 ≤ h.amount) && decide (h.amount ≤ g.stakes h.frm.toNat)

set_option maxHeartbeats 1600000 in
set_option maxRecDepth 1000000 in
theorem mayMove_is (p : Par) (g : Pg) (h : Hdr) (w : World) (hp : ParOk p) :
    Calls Try.prog 51 #[rulV p, pageV g, hdrV h] w fun r w' => r = .returned (.bool (mayB p g h)) ∧ Below w.heap.size w w' := by
  have HM := Go.Proofs.Ytgeihfmhbifleab.hid (show mayB p g h = (poolB p h.frm && poolB p h.dst && decide (0 ≤ h.amount) && decide (h.amount ≤ g.stakes h.frm.toNat)) from rfl)
  generalize mayB p g h = mb at *
  have HP := Go.Proofs.Ytgeihfmhbifleab.hid hp
  obtain ⟨a0, a1, a2, a3, a4, a5, a6⟩ := h
  unfold hdrV
  simp only at HM ⊢
  show Calls Try.prog _ #[.agg #[.int .i64 p.epoch, .int .i64 p.a, .int .i64 p.b, .int .i64 (p.stakes.length : Int), .int .i64 (total p)], .agg (pgA g), _] w _
  go_enter Try.func51, Try.ntmps51
  go_wp2_with fail
  refine (isPool_is p a4 _).mono ?_
  rintro r w1 ⟨rfl, hb⟩
  obtain ⟨hs1, hb1, k1, k2, k3⟩ := blocks3 hb
  have HB1 := Go.Proofs.Ytgeihfmhbifleab.hid hb1
  clear hb hb1
  cases hf : poolB p a4
  · have HM2 := Go.Proofs.Ytgeihfmhbifleab.hid (show mb = false by rw [HM.out, hf]; rfl)
    clear k1 k2 k3 hf HM
    go_wp2
    go_ret
    exact ⟨by rw [HM2.out]; rfl, HB1.out⟩
  · obtain ⟨f, rfl, hf1, hf2⟩ := poolB_yes HP.out hf
    have c0 := cell_of_cells (j := 0) k1 rfl
    have c1 := cell_of_cells (j := 1) k1 rfl
    have c2 := cell_of_cells (j := 2) k1 rfl
    have c3 := cell_of_cells (j := 3) k1 rfl
    have c4 := cell_of_cells (j := 4) k1 rfl
    have d5 := cell_of_cells (j := 5) k3 rfl
    go_wp2_with fail
    refine (isPool_is p a5 _).mono ?_
    rintro r w2 ⟨rfl, hb2⟩
    have hs2 := hb2.size
    have K2 : w2.heap[w.heap.size + 1]? = _ := (hb2.block _ (by omega)).trans k2
    have K3 : w2.heap[w.heap.size + 2]? = _ := (hb2.block _ (by omega)).trans k3
    have HB2 := Go.Proofs.Ytgeihfmhbifleab.hid (HB1.out.trans (hb2.mono (by omega)))
    clear c0 c1 c2 c3 c4 d5 k1 k2 k3 hb2 HB1
    cases hd : poolB p a5
    · have HM2 := Go.Proofs.Ytgeihfmhbifleab.hid (show mb = false by rw [HM.out, hf, hd]; rfl)
      clear K2 K3 hf hd HM
      go_wp2
      go_ret
      exact ⟨by rw [HM2.out]; rfl, HB2.out⟩
    · have hmb : mb = (decide (0 ≤ a6) && decide (a6 ≤ g.stakes f)) := by rw [HM.out, hf, hd, Int.toNat_natCast]; rfl
      have cf := cell_of_cells (j := 1 + f) K2 (pg_stakes g f hf2)
      have d4 := cell_of_cells (j := 4) K3 rfl
      have d6 := cell_of_cells (j := 6) K3 rfl
      have i1 : (0 : Int) ≤ (f : Int) := by omega
      have i2 : (f : Int) < 6 := by omega
      clear K2 K3 hf hd HM
      generalize g.stakes f = sf at *
      by_cases hz : 0 ≤ a6
      · have hz2 : decide (0 ≤ a6) = true := decide_eq_true hz
        have HM2 := Go.Proofs.Ytgeihfmhbifleab.hid (show mb = decide (a6 ≤ sf) by rw [hmb, hz2]; rfl)
        clear hmb
        go_wp2
        go_quiet (fail)
        go_wp2
        go_ret
        exact ⟨by rw [HM2.out]; rfl, drawB HB2.out _⟩
      · have hz2 : decide (0 ≤ a6) = false := decide_eq_false hz
        have HM2 := Go.Proofs.Ytgeihfmhbifleab.hid (show mb = false by rw [hmb, hz2]; rfl)
        clear hmb
        go_wp2
        go_quiet (fail)
        go_wp2
        go_ret
        exact ⟨by rw [HM2.out]; rfl, drawB HB2.out _⟩

end Go.Proofs.Ytgeihfmhbifleab

