import Derived.Test.YtpaakikgfojplaaCEdge
/-
  THE CONTRACT of beacon.Leads: where its numbers may be, the inequality; else ErrArg.
-/
namespace Go.Proofs.Ytpaakikgfojplaa
open Go.RowKit Num

set_option maxHeartbeats 1600000 in
set_option maxRecDepth 1000000 in
theorem lead_yes (p s t a b : Nat) (w : World) (hp : p ≤ 1023) (ht1 : 1 ≤ t) (ht : t ≤ 240) (hs : s ≤ t) (hb : b ≤ 20) (ha : 1 ≤ a) (hab : a < b) :
    Calls Try.prog 12 #[.int .i64 (p : Int), .int .i64 (s : Int), .int .i64 (t : Int), .int .i64 (a : Int), .int .i64 (b : Int)] w fun e w' => e = .returned (.tuple #[.bool (leads p s t a b), .int .i64 0]) ∧ Below w.heap.size w w' := by
  go_enter Try.func12, Try.ntmps12
  go_wp2_with (first | (go_at_call 65; refine (edge_any p s t a b _ hp ht hs hb ha hab).mono ?_; rintro e w1 ⟨rfl, hB1⟩) | go_in)
  go_ret2
  exact ⟨rfl, hB1⟩

/-- The numbers that may be. -/
def okArgs (p s t a b : Int) : Prop := 0 ≤ p ∧ p < 1024 ∧ 1 ≤ t ∧ t ≤ 240 ∧ 0 ≤ s ∧ s ≤ t ∧ 2 ≤ b ∧ b ≤ 20 ∧ 1 ≤ a ∧ a < b

set_option maxHeartbeats 1600000 in
set_option maxRecDepth 1000000 in
theorem lead_no (p s t a b : Int) (w : World) (h : ¬ okArgs p s t a b) :
    Calls Try.prog 12 #[.int .i64 p, .int .i64 s, .int .i64 t, .int .i64 a, .int .i64 b] w fun e w' => e = .returned (.tuple #[.bool false, .int .i64 1]) ∧ w' = w := by
  have hh : p < 0 ∨ 1024 ≤ p ∨ t < 1 ∨ 240 < t ∨ s < 0 ∨ t < s ∨ b < 2 ∨ 20 < b ∨ a < 1 ∨ b ≤ a := by unfold okArgs at h; omega
  clear h
  by_cases h1 : p < 0
  · go_enter Try.func12, Try.ntmps12
    go_wp2
    go_ret2
    exact ⟨rfl, rfl⟩
  by_cases h2 : 1024 ≤ p
  · go_enter Try.func12, Try.ntmps12
    go_wp2
    go_ret2
    exact ⟨rfl, rfl⟩
  by_cases h3 : t < 1
  · go_enter Try.func12, Try.ntmps12
    go_wp2
    go_ret2
    exact ⟨rfl, rfl⟩
  by_cases h4 : 240 < t
  · go_enter Try.func12, Try.ntmps12
    go_wp2
    go_ret2
    exact ⟨rfl, rfl⟩
  by_cases h5 : s < 0
  · go_enter Try.func12, Try.ntmps12
    go_wp2
    go_ret2
    exact ⟨rfl, rfl⟩
  by_cases h6 : t < s
  · go_enter Try.func12, Try.ntmps12
    go_wp2
    go_ret2
    exact ⟨rfl, rfl⟩
  by_cases h7 : b < 2
  · go_enter Try.func12, Try.ntmps12
    go_wp2
    go_ret2
    exact ⟨rfl, rfl⟩
  by_cases h8 : 20 < b
  · go_enter Try.func12, Try.ntmps12
    go_wp2
    go_ret2
    exact ⟨rfl, rfl⟩
  by_cases h9 : a < 1
  · go_enter Try.func12, Try.ntmps12
    go_wp2
    go_ret2
    exact ⟨rfl, rfl⟩
  · have h10 : b ≤ a := by omega
    clear hh
    go_enter Try.func12, Try.ntmps12
    go_wp2
    go_ret2
    exact ⟨rfl, rfl⟩
end Go.Proofs.Ytpaakikgfojplaa

