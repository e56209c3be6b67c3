import Derived.Test.YtpaakikgfojplaaCBelow
/-
  The walk of Chances, out of the contracts of both Leads.
-/
namespace Go.Proofs.Ytpaakikgfojplaa.chances
open Go.Proofs.Ytpaakikgfojplaa Go.RowKit Num

set_option linter.unusedVariables false
set_option maxHeartbeats 1600000 in
set_option maxRecDepth 1000000 in
theorem walk (a0 : Int) (a1 : Int) (a2 : Int) (a3 : Int) (a4 : Int) (w0 : (Lit.int .i64 a0).wf = true) (w1 : (Lit.int .i64 a1).wf = true) (w2 : (Lit.int .i64 a2).wf = true) (w3 : (Lit.int .i64 a3).wf = true) (w4 : (Lit.int .i64 a4).wf = true) (w : World) :
    Calls Try.prog 3 #[.int .i64 a0, .int .i64 a1, .int .i64 a2, .int .i64 a3, .int .i64 a4] w fun e w' => e = .returned (.bool true) ∧ Below w.heap.size w w' := by
  clear w0 w1 w2 w3 w4
  by_cases hok : okArgs a0 a1 a2 a3 a4
  · unfold okArgs at hok
    obtain ⟨p, rfl⟩ := Int.eq_ofNat_of_zero_le (show 0 ≤ a0 by omega)
    obtain ⟨s, rfl⟩ := Int.eq_ofNat_of_zero_le (show 0 ≤ a1 by omega)
    obtain ⟨t, rfl⟩ := Int.eq_ofNat_of_zero_le (show 0 ≤ a2 by omega)
    obtain ⟨a, rfl⟩ := Int.eq_ofNat_of_zero_le (show 0 ≤ a3 by omega)
    obtain ⟨b, rfl⟩ := Int.eq_ofNat_of_zero_le (show 0 ≤ a4 by omega)
    go_enter Try.func3, Try.ntmps3
    go_wp2_with fail
    refine (lead_yes p s t a b _ (by omega) (by omega) (by omega) (by omega) (by omega) (by omega) (by omega)).mono ?_
    rintro e w1 ⟨rfl, B1⟩
    go_wp2_with fail
    refine (ref_yes p s t a b _ (by omega) (by omega) (by omega) (by omega) (by omega) (by omega) (by omega)).mono ?_
    rintro e w2 ⟨rfl, B2⟩
    have HF := hid (B1.trans (B2.mono B1.size))
    clear B1 B2
    generalize leads p s t a b = l
    have hl : (l == l) = true := by simp
    go_wp2
    go_ret
    exact ⟨rfl, HF.out⟩
  · go_enter Try.func3, Try.ntmps3
    have H := hid hok
    clear hok
    go_wp2_with fail
    refine (lead_no a0 a1 a2 a3 a4 _ H.out).mono ?_
    rintro e w1 ⟨rfl, rfl⟩
    go_wp2_with fail
    refine (ref_no a0 a1 a2 a3 a4 _ H.out).mono ?_
    rintro e w2 ⟨rfl, rfl⟩
    go_wp2
    go_ret
    exact ⟨rfl, Below.refl _ _⟩
end Go.Proofs.Ytpaakikgfojplaa.chances

