import Derived.Test.YtpaakikgfojplaaCRefCopy
/-
  THE WALKS of beaconref: Stake, Count, Draw, Turn.
-/
namespace Go.Proofs.Ytpaakikgfojplaa
open Go.RowKit Num Bk
set_option linter.unusedVariables false

theorem missing_vals (s : St) (id : Int) : missing s id = 0 ∨ missing s id = 2 ∨ missing s id = 3 := by
  unfold missing; split
  · exact Or.inl rfl
  · split
    · exact Or.inr (Or.inl rfl)
    · exact Or.inr (Or.inr rfl)

/-- What Stake and Count answer. -/
def askErr (s : St) (id pool : Int) : Int := if missing s id ≠ 0 then missing s id else if poolOk s pool = false then 5 else 0
def stakeV (s : St) (id pool : Int) : Int := if askErr s id pool = 0 then (stakesAt s.par s.all id.toNat).getD pool.toNat 0 else 0
def countV (s : St) (id pool : Int) : Int := if askErr s id pool = 0 then countAt s.all pool id.toNat else 0

set_option maxHeartbeats 400000 in
theorem refdraw_any (nonce slot pool : Int) (w : World) (h1 : 0 ≤ nonce) (h2 : nonce < 65521) (h3 : 0 ≤ slot) (h4 : slot ≤ 10000) (h5 : 0 ≤ pool) (h6 : pool < 6) :
    Calls Try.prog 15 #[.int .i64 nonce, .int .i64 slot, .int .i64 pool] w fun e w' => e = .returned (.tuple #[.int .i64 (drawN nonce slot pool), .int .i64 0]) ∧ w = w' := by
  have HD := Go.Proofs.Ytpaakikgfojplaa.hid (show drawN nonce slot pool = ((nonce * 4099 + slot * 769 + pool * 97 + 12345) % 65521 * ((nonce * 4099 + slot * 769 + pool * 97 + 12345) % 65521)) % 65521 % 1024 from rfl)
  have hb1 := Int.emod_nonneg (nonce * 4099 + slot * 769 + pool * 97 + 12345) (show (65521 : Int) ≠ 0 by omega)
  have hb2 := Int.emod_lt_of_pos (nonce * 4099 + slot * 769 + pool * 97 + 12345) (show (0 : Int) < 65521 by omega)
  have hb3 : 0 ≤ (nonce * 4099 + slot * 769 + pool * 97 + 12345) % 65521 * ((nonce * 4099 + slot * 769 + pool * 97 + 12345) % 65521) := Int.mul_nonneg hb1 hb1
  have hb4 : (nonce * 4099 + slot * 769 + pool * 97 + 12345) % 65521 * ((nonce * 4099 + slot * 769 + pool * 97 + 12345) % 65521) ≤ 65520 * 65520 := Int.mul_le_mul (by omega) (by omega) hb1 (by omega)
  go_enter Try.func15, Try.ntmps15
  go_wp2
  go_ret2
  exact ⟨by rw [HD.out]; rfl, rfl⟩

theorem ref_int (p s t a b : Int) (w : World) (h0 : 0 ≤ p) (h1 : p ≤ 1023) (h2 : 1 ≤ t) (h3 : t ≤ 240) (h4 : 0 ≤ s) (h5 : s ≤ t) (h6 : b ≤ 20) (h7 : 1 ≤ a) (h8 : a < b) :
    Calls Try.prog 13 #[.int .i64 p, .int .i64 s, .int .i64 t, .int .i64 a, .int .i64 b] w fun e w' => e = .returned (.tuple #[.bool (leads p.toNat s.toNat t.toNat a.toNat b.toNat), .int .i64 0]) ∧ Below w.heap.size w w' := by
  obtain ⟨p, rfl⟩ := Int.eq_ofNat_of_zero_le h0
  obtain ⟨s, rfl⟩ := Int.eq_ofNat_of_zero_le h4
  obtain ⟨t, rfl⟩ := Int.eq_ofNat_of_zero_le (show 0 ≤ t by omega)
  obtain ⟨a, rfl⟩ := Int.eq_ofNat_of_zero_le (show 0 ≤ a by omega)
  obtain ⟨b, rfl⟩ := Int.eq_ofNat_of_zero_le (show 0 ≤ b by omega)
  simp only [Int.toNat_natCast]
  exact ref_yes p s t a b w (by omega) (by omega) (by omega) (by omega) (by omega) (by omega) (by omega)


def turnV (s : St) (id slot pool : Int) : Value :=
  if turnErr s id slot pool = 0 then .agg #[.int .i64 (nonceAt s id.toNat slot), .int .i64 (proofAt s id.toNat slot pool), .int .i64 (stakeAt s id.toNat slot pool), .bool (leadsAt s id.toNat slot pool)]
  else .agg #[.int .i64 0, .int .i64 0, .int .i64 0, .bool false]

theorem sum_take (l : List Int) (k : Nat) (h : k < l.length) : (l.take (k + 1)).sum = (l.take k).sum + l.getD k 0 := by
  rw [List.take_succ_eq_append_getElem h, List.sum_append]
  simp [List.getD, h]

theorem sum_take_le (l : List Int) (h : ∀ x ∈ l, 0 ≤ x) (k : Nat) : 0 ≤ (l.take k).sum ∧ (l.take k).sum ≤ l.sum := by
  have e : l.sum = (l.take k).sum + (l.drop k).sum := by rw [← List.sum_append, List.take_append_drop]
  have h1 := le_sum (l.take k) (fun x hx => h x (List.mem_of_mem_take hx)) (l.take k).length
  have h2 := le_sum (l.drop k) (fun x hx => h x (List.mem_of_mem_drop hx)) (l.drop k).length
  simp [List.getD] at h1 h2
  omega

end Go.Proofs.Ytpaakikgfojplaa

