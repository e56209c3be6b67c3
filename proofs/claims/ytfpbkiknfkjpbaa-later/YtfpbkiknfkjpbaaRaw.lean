/-
  Raw numbers: nth; the parameters that are made of them.
-/
import Derived.Test.YtfpbkiknfkjpbaaStepGo
namespace Go.Proofs.Ytfpbkiknfkjpbaa
open Go.RowKit Num Bk
set_option linter.unusedVariables false

/-- A list of raw numbers that came in. -/
def RawAt (w : World) (a : Option Addr) (z : List Int) : Prop :=
  ∀ j, j < z.length → ∃ x, a = some x ∧ w.cell? (x.add j) = some (.int .i64 (z.getD j 0)) ∧ I64 (z.getD j 0)

theorem rawI {w : World} {a : Option Addr} {z : List Int} (h : RawAt w a z) (j : Nat) : I64 (z.getD j 0) := by
  by_cases hj : j < z.length
  · obtain ⟨_, _, _, hi⟩ := h j hj; exact hi
  · rw [List.getD_eq_getElem?_getD, List.getElem?_eq_none (by omega)]; exact ⟨by simp, by simp⟩

set_option maxHeartbeats 800000 in
theorem nth_any (a : Option Addr) (cap : Nat) (z : List Int) (i : Nat) (w : World) (hz : RawAt w a z) (hi : i ≤ 1000) :
    Calls Try.prog 94 #[.slice a z.length cap, .int .i64 (i : Int)] w fun e w' => e = .returned (.int .i64 (z.getD i 0)) ∧ w = w' := by
  by_cases h : i < z.length
  · have h' : (i : Int) < (z.length : Int) := by omega
    obtain ⟨x, rfl, hc, _⟩ := hz i h
    clear hz
    generalize z.getD i 0 = v at *
    generalize z.length = n at *
    go_enter Try.func94, Try.ntmps94
    go_wp2
    go_ret
    exact ⟨rfl, rfl⟩
  · have h' : ¬ (i : Int) < (z.length : Int) := by omega
    have hd : z.getD i 0 = 0 := by rw [List.getD_eq_getElem?_getD, List.getElem?_eq_none (by omega)]; rfl
    rw [hd]
    clear hd
    go_enter Try.func94, Try.ntmps94
    go_wp2
    go_ret
    exact ⟨rfl, rfl⟩

/-- The stakes that are drawn; the first is above 0. -/
def rawStakes (z : List Int) (n : Nat) : List Int := (List.range n).map fun i => pickI (z.getD (7 + i) 0) 41
def firstUp : List Int → List Int
  | [] => []
  | x :: l => (if x = 0 then 1 else x) :: l
def rawN (z : List Int) : Nat := (1 + pickI (z.getD 6 0) 6).toNat
def parOf (z : List Int) : Par :=
  { depth := 1 + pickI (z.getD 0 0) 8, epoch := 1 + pickI (z.getD 1 0) 50, room := 2 + pickI (z.getD 2 0) 39, a := 1 + pickI (z.getD 4 0) (2 + pickI (z.getD 3 0) 19 - 1), b := 2 + pickI (z.getD 3 0) 19,
    nonce := pickI (z.getD 5 0) 65521, stakes := firstUp (rawStakes z (rawN z)) }

theorem rawN_bounds (z : List Int) : 1 ≤ rawN z ∧ rawN z ≤ 6 := by
  have := pickI_bounds (z.getD 6 0) 6 (by omega)
  unfold rawN; omega
theorem rawStakes_length (z : List Int) (n : Nat) : (rawStakes z n).length = n := by simp [rawStakes]
theorem rawStakes_mem {z : List Int} {n : Nat} {x : Int} (h : x ∈ rawStakes z n) : 0 ≤ x ∧ x ≤ 40 := by
  unfold rawStakes at h
  obtain ⟨i, _, rfl⟩ := List.mem_map.1 h
  have := pickI_bounds (z.getD (7 + i) 0) 41 (by omega)
  omega
theorem firstUp_length (l : List Int) : (firstUp l).length = l.length := by cases l <;> rfl
theorem sum_nonneg : ∀ (l : List Int), (∀ x ∈ l, 0 ≤ x) → 0 ≤ l.sum := by
  intro l
  induction l with
  | nil => intro _; simp
  | cons x l ih => intro h; simp only [List.sum_cons]; have := h x (by simp); have := ih (fun y hy => h y (by simp [hy])); omega

theorem parOf_ok (z : List Int) : ParOk (parOf z) := by
  have h0 := pickI_bounds (z.getD 0 0) 8 (by omega)
  have h1 := pickI_bounds (z.getD 1 0) 50 (by omega)
  have h2 := pickI_bounds (z.getD 2 0) 39 (by omega)
  have h3 := pickI_bounds (z.getD 3 0) 19 (by omega)
  have h4 := pickI_bounds (z.getD 4 0) (2 + pickI (z.getD 3 0) 19 - 1) (by omega)
  have h5 := pickI_bounds (z.getD 5 0) 65521 (by omega)
  have hn := rawN_bounds z
  have hl : (parOf z).stakes.length = rawN z := by show (firstUp (rawStakes z (rawN z))).length = _; rw [firstUp_length, rawStakes_length]
  have hm : ∀ x ∈ rawStakes z (rawN z), 0 ≤ x ∧ x ≤ 40 := fun x h => rawStakes_mem h
  have hlen := rawStakes_length z (rawN z)
  refine ⟨?_, ?_, ?_, ?_, ?_, ?_, ?_, ?_, ?_, h5.1, h5.2, by omega, by omega, ?_, ?_⟩
  · show 1 ≤ 1 + _; omega
  · show 1 + _ ≤ _; omega
  · show 1 ≤ 1 + _; omega
  · show 1 + _ ≤ _; omega
  · show 2 ≤ 2 + _; omega
  · show 2 + _ ≤ _; omega
  · show 2 + _ ≤ _; omega
  · show 1 ≤ 1 + _; omega
  · show 1 + pickI (z.getD 4 0) (2 + pickI (z.getD 3 0) 19 - 1) < 2 + pickI (z.getD 3 0) 19; omega
  · show ∀ x ∈ firstUp (rawStakes z (rawN z)), 0 ≤ x ∧ x ≤ 40
    cases hc : rawStakes z (rawN z) with
    | nil => intro x hx; simp [firstUp] at hx
    | cons y l =>
      rw [hc] at hm
      intro x hx
      simp only [firstUp, List.mem_cons] at hx
      rcases hx with rfl | hx
      · have := hm y (by simp); split <;> omega
      · exact hm x (by simp [hx])
  · show 0 < (firstUp (rawStakes z (rawN z))).sum
    cases hc : rawStakes z (rawN z) with
    | nil => rw [hc] at hlen; simp at hlen; omega
    | cons y l =>
      rw [hc] at hm
      simp only [firstUp, List.sum_cons]
      have h1 := hm y (by simp)
      have h2 := sum_nonneg l (fun x hx => (hm x (by simp [hx])).1)
      split <;> omega

end Go.Proofs.Ytfpbkiknfkjpbaa
