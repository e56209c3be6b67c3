import Derived.Test.YtpaakikgfojplaaCPick
/-
  The walk of Corners, out of the contracts of pick and Leads.
-/
namespace Go.Proofs.Ytpaakikgfojplaa.corners
open Go.Proofs.Ytpaakikgfojplaa Go.RowKit Num

theorem all_eq (p t a b : Int) (h0 : 0 ≤ p) (h1 : p ≤ 1023) (ht : 1 ≤ t) (ha : 1 ≤ a) (hab : a < b) : leads p.toNat t.toNat t.toNat a.toNat b.toNat = decide (p * b < 1024 * a) := by
  obtain ⟨p, rfl⟩ := Int.eq_ofNat_of_zero_le h0
  obtain ⟨t, rfl⟩ := Int.eq_ofNat_of_zero_le (show 0 ≤ t by omega)
  obtain ⟨a, rfl⟩ := Int.eq_ofNat_of_zero_le (show 0 ≤ a by omega)
  obtain ⟨b, rfl⟩ := Int.eq_ofNat_of_zero_le (show 0 ≤ b by omega)
  simp only [Int.toNat_natCast]
  rw [leads_all p t a b (by omega) (by omega) (by omega), decide_eq_decide]
  rw [← Int.natCast_mul]
  omega

theorem half_eq (p t a b : Int) (h0 : 0 ≤ p) (h1 : p ≤ 1023) (ht : 1 ≤ t) (ha : 1 ≤ a) (hab : a < b) : leads p.toNat t.toNat (2 * t).toNat a.toNat b.toNat = decide ((b - a) * 1024 * 1024 < (1024 - p) * (1024 - p) * b) := by
  obtain ⟨p, rfl⟩ := Int.eq_ofNat_of_zero_le h0
  obtain ⟨t, rfl⟩ := Int.eq_ofNat_of_zero_le (show 0 ≤ t by omega)
  obtain ⟨a, rfl⟩ := Int.eq_ofNat_of_zero_le (show 0 ≤ a by omega)
  obtain ⟨b, rfl⟩ := Int.eq_ofNat_of_zero_le (show 0 ≤ b by omega)
  rw [show (2 * (t : Int)).toNat = 2 * t from by omega]
  simp only [Int.toNat_natCast]
  rw [leads_half p t a b (by omega), decide_eq_decide]
  rw [show (1024 : Int) - (p : Int) = ((1024 - p : Nat) : Int) from by omega, show (b : Int) - (a : Int) = ((b - a : Nat) : Int) from by omega, ← Int.natCast_mul, ← Int.natCast_mul]
  omega

theorem mul_bound (x y m n : Int) (h0 : 0 ≤ x) (h1 : x ≤ m) (h2 : 0 ≤ y) (h3 : y ≤ n) : 0 ≤ x * y ∧ x * y ≤ m * n :=
  ⟨Int.mul_nonneg h0 h2, Int.mul_le_mul h1 h3 h2 (by omega)⟩

set_option maxHeartbeats 3200000 in
set_option maxRecDepth 1000000 in
theorem walk (a0 : Int) (a1 : Int) (a2 : Int) (a3 : Int) (w0 : (Lit.int .i64 a0).wf = true) (w1 : (Lit.int .i64 a1).wf = true) (w2 : (Lit.int .i64 a2).wf = true) (w3 : (Lit.int .i64 a3).wf = true) (w : World) :
    Calls Try.prog 8 #[.int .i64 a0, .int .i64 a1, .int .i64 a2, .int .i64 a3] w fun e w' => e = .returned (.bool true) ∧ Below w.heap.size w w' := by
  have b0 := bounds_i64 w0
  have b1 := bounds_i64 w1
  have b2 := bounds_i64 w2
  have b3 := bounds_i64 w3
  clear w0 w1 w2 w3
  go_enter Try.func8, Try.ntmps8
  go_wp2_with fail
  refine (pick_any a1 120 _ b1.1 b1.2 (by omega) (by omega)).mono ?_
  rintro e w' ⟨t, t0, t1, rfl, rfl⟩
  clear b1
  go_wp2_with fail
  refine (pick_any a3 19 _ b3.1 b3.2 (by omega) (by omega)).mono ?_
  rintro e w' ⟨d, d0, d1, rfl, rfl⟩
  clear b3
  go_wp2_with fail
  refine (pick_any a2 _ _ b2.1 b2.2 (by omega) (by omega)).mono ?_
  rintro e w' ⟨n, n0, n1, rfl, rfl⟩
  clear b2
  go_wp2_with fail
  refine (pick_any a0 1024 _ b0.1 b0.2 (by omega) (by omega)).mono ?_
  rintro e w' ⟨p, p0, p1, rfl, rfl⟩
  clear b0
  go_wp2_with fail
  generalize hT : 1 + t = T
  generalize hD : 2 + d = D
  generalize hN : 1 + n = N
  have T0 : 1 ≤ T := by omega
  have T1 : T ≤ 120 := by omega
  have D1 : D ≤ 20 := by omega
  have N0 : 1 ≤ N := by omega
  have N1 : N < D := by omega
  have P1 : p ≤ 1023 := by omega
  clear hT hD hN t0 t1 d0 d1 n0 n1 p1
  have q1 := leads_none p.toNat T.toNat N.toNat D.toNat
  have q2 := all_eq p T N D p0 P1 T0 N0 N1
  have q3 := half_eq p T N D p0 P1 T0 N0 N1
  have q4 := leads_first T.toNat N.toNat D.toNat (by omega) (by omega)
  have m1 := mul_bound p D 1023 20 p0 P1 (by omega) D1
  have m2 := mul_bound (1024 - p) (1024 - p) 1024 1024 (by omega) (by omega) (by omega) (by omega)
  have m3 := mul_bound ((1024 - p) * (1024 - p)) D (1024 * 1024) 20 m2.1 m2.2 (by omega) D1
  have HQ1 := hid q1
  have HQ2 := hid q2
  have HQ3 := hid q3
  have HQ4 := hid q4
  clear q1 q2 q3 q4
  refine (lead_int _ _ _ _ _ _ (by omega) (by omega) (by omega) (by omega) (by omega) (by omega) (by omega) (by omega) (by omega)).mono ?_
  rintro e x1 ⟨rfl, hB1⟩
  rw [show (0 : Int).toNat = 0 from rfl, HQ1.out]
  go_wp2_with fail
  refine (lead_int _ _ _ _ _ _ (by omega) (by omega) (by omega) (by omega) (by omega) (by omega) (by omega) (by omega) (by omega)).mono ?_
  rintro e x2 ⟨rfl, hB2⟩
  rw [HQ2.out]
  go_wp2_with fail
  refine (lead_int _ _ _ _ _ _ (by omega) (by omega) (by omega) (by omega) (by omega) (by omega) (by omega) (by omega) (by omega)).mono ?_
  rintro e x3 ⟨rfl, hB3⟩
  rw [HQ3.out]
  go_wp2_with fail
  refine (lead_int _ _ _ _ _ _ (by omega) (by omega) (by omega) (by omega) (by omega) (by omega) (by omega) (by omega) (by omega)).mono ?_
  rintro e x4 ⟨rfl, hB4⟩
  rw [show (0 : Int).toNat = 0 from rfl, show (1 : Int).toNat = 1 from rfl, HQ4.out]
  have s1 := hB1.size
  have s2 := hB2.size
  have s3 := hB3.size
  have HF := hid (hB1.trans ((hB2.mono s1).trans ((hB3.mono (Nat.le_trans s1 s2)).trans (hB4.mono (Nat.le_trans s1 (Nat.le_trans s2 s3))))))
  clear hB1 hB2 hB3 hB4 s1 s2 s3 HQ1 HQ2 HQ3 HQ4
  by_cases c1 : p * D < 1024 * N <;> by_cases c2 : (D - N) * 1024 * 1024 < (1024 - p) * (1024 - p) * D
  all_goals
    go_wp2
    go_ret
    exact ⟨rfl, HF.out⟩
end Go.Proofs.Ytpaakikgfojplaa.corners

