import Derived.Test.YtpaakikgfojplaaCPick
/-
  The walk of Shares, out of the contracts of pick and Leads.
-/
namespace Go.Proofs.Ytpaakikgfojplaa.shares
open Go.Proofs.Ytpaakikgfojplaa Go.RowKit Num

theorem tdiv_bd (a : Int) (h : -9223372036854775808 ≤ a ∧ a ≤ 9223372036854775807) : -9223372036854775808 ≤ a.tdiv 121 ∧ a.tdiv 121 ≤ 9223372036854775807 := by
  rcases Int.le_total 0 a with h0 | h0
  · rw [Int.tdiv_eq_ediv_of_nonneg h0]; omega
  · have e : a.tdiv 121 = -((-a).tdiv 121) := by rw [Int.neg_tdiv, Int.neg_neg]
    rw [e, Int.tdiv_eq_ediv_of_nonneg (by omega)]; omega

theorem cast2 (n : Int) (h : 0 ≤ n) : (2 * n).toNat = 2 * n.toNat := by omega
theorem castadd (x y : Int) (h : 0 ≤ x) (h' : 0 ≤ y) : (x + y).toNat = x.toNat + y.toNat := by omega

set_option maxHeartbeats 6400000 in
set_option maxRecDepth 1000000 in
theorem walk (a0 : Int) (a1 : Int) (a2 : Int) (a3 : Int) (a4 : Int) (a5 : Int) (w0 : (Lit.int .i64 a0).wf = true) (w1 : (Lit.int .i64 a1).wf = true) (w2 : (Lit.int .i64 a2).wf = true) (w3 : (Lit.int .i64 a3).wf = true) (w4 : (Lit.int .i64 a4).wf = true) (w5 : (Lit.int .i64 a5).wf = true) (w : World) :
    Calls Try.prog 7 #[.int .i64 a0, .int .i64 a1, .int .i64 a2, .int .i64 a3, .int .i64 a4, .int .i64 a5] w fun e w' => e = .returned (.bool true) ∧ Below w.heap.size w w' := by
  have b0 := bounds_i64 w0
  have b1 := bounds_i64 w1
  have b2 := bounds_i64 w2
  have b3 := bounds_i64 w3
  have b4 := bounds_i64 w4
  have b5 := bounds_i64 w5
  clear w0 w1 w2 w3 w4 w5
  go_enter Try.func7, Try.ntmps7
  go_wp2_with fail
  refine (pick_any a3 120 _ b3.1 b3.2 (by omega) (by omega)).mono ?_
  rintro e w' ⟨t, t0, t1, rfl, rfl⟩
  clear b3
  go_wp2_with fail
  refine (pick_any a2 _ _ b2.1 b2.2 (by omega) (by omega)).mono ?_
  rintro e w' ⟨x, x0, x1, rfl, rfl⟩
  go_wp2_with fail
  have b6 := tdiv_bd a2 b2
  refine (pick_any (a2.tdiv 121) _ _ b6.1 b6.2 (by omega) (by omega)).mono ?_
  rintro e w' ⟨y, y0, y1, rfl, rfl⟩
  clear b2 b6
  go_wp2_with fail
  refine (pick_any a5 19 _ b5.1 b5.2 (by omega) (by omega)).mono ?_
  rintro e w' ⟨d, d0, d1, rfl, rfl⟩
  clear b5
  go_wp2_with fail
  refine (pick_any a4 _ _ b4.1 b4.2 (by omega) (by omega)).mono ?_
  rintro e w' ⟨n, n0, n1, rfl, rfl⟩
  clear b4
  go_wp2_with fail
  refine (pick_any a0 1024 _ b0.1 b0.2 (by omega) (by omega)).mono ?_
  rintro e w' ⟨p, p0, p1, rfl, rfl⟩
  clear b0
  go_wp2_with fail
  refine (pick_any a1 1024 _ b1.1 b1.2 (by omega) (by omega)).mono ?_
  rintro e w' ⟨q, q0, q1, rfl, rfl⟩
  go_wp2_with fail
  generalize hT : 1 + t = T
  generalize hD : 2 + d = D
  generalize hN : 1 + n = N
  have T0 : 1 ≤ T := by omega
  have T1 : T ≤ 120 := by omega
  have D1 : D ≤ 20 := by omega
  have N0 : 1 ≤ N := by omega
  have N1 : N < D := by omega
  have X1 : x ≤ T := by omega
  have Y1 : x + y ≤ T := by omega
  clear hT hD hN t0 t1 d0 d1 n0 n1 x1 y1
  refine (lead_int _ _ _ _ _ _ (by omega) (by omega) (by omega) (by omega) (by omega) (by omega) (by omega) (by omega) (by omega)).mono ?_
  rintro e v1 ⟨rfl, hB1⟩
  rw [show leads (0 : Int).toNat (1 : Int).toNat (1 : Int).toNat (1 : Int).toNat (2 : Int).toNat = true from by decide]
  go_wp2_with fail
  refine (lead_int _ _ _ _ _ _ (by omega) (by omega) (by omega) (by omega) (by omega) (by omega) (by omega) (by omega) (by omega)).mono ?_
  rintro e v2 ⟨rfl, hB2⟩
  go_wp2_with fail
  refine (lead_int _ _ _ _ _ _ (by omega) (by omega) (by omega) (by omega) (by omega) (by omega) (by omega) (by omega) (by omega)).mono ?_
  rintro e v3 ⟨rfl, hB3⟩
  go_wp2_with fail
  refine (pick_any a1 _ _ b1.1 b1.2 (by omega) (by omega)).mono ?_
  rintro e w' ⟨l, l0, l1, rfl, hv3⟩
  subst hv3
  clear b1
  go_wp2_with fail
  refine (lead_int _ _ _ _ _ _ (by omega) (by omega) (by omega) (by omega) (by omega) (by omega) (by omega) (by omega) (by omega)).mono ?_
  rintro e v4 ⟨rfl, hB4⟩
  go_wp2_with fail
  refine (lead_int _ _ _ _ _ _ (by omega) (by omega) (by omega) (by omega) (by omega) (by omega) (by omega) (by omega) (by omega)).mono ?_
  rintro e v5 ⟨rfl, hB5⟩
  rw [cast2 x x0, cast2 T (by omega), leads_twice]
  have i1 : leads p.toNat x.toNat T.toNat N.toNat D.toNat = true → leads p.toNat (x + y).toNat T.toNat N.toNat D.toNat = true := fun h => by
    rw [castadd x y x0 y0]; exact leads_more _ _ _ _ _ _ (by omega) h
  have i2 : leads p.toNat x.toNat T.toNat N.toNat D.toNat = true → leads l.toNat x.toNat T.toNat N.toNat D.toNat = true := fun h => leads_lower _ _ _ _ _ _ (by omega) h
  have i3 : leads p.toNat x.toNat T.toNat N.toNat D.toNat = true → leads p.toNat x.toNat T.toNat (N + 1).toNat D.toNat = true := fun h => by
    rw [show (N + 1).toNat = N.toNat + 1 from by omega]; exact leads_wide _ _ _ _ _ h
  have i4 : p + q < 1024 → leads p.toNat x.toNat T.toNat N.toNat D.toNat = false → leads q.toNat y.toNat T.toNat N.toNat D.toNat = false → leads (p + q).toNat (x + y).toNat T.toNat N.toNat D.toNat = false := fun h h1 h2 => by
    rw [castadd x y x0 y0, castadd p q p0 q0]; exact leads_both _ _ _ _ _ _ _ (by omega) h1 h2
  generalize leads p.toNat x.toNat T.toNat N.toNat D.toNat = o at *
  generalize leads p.toNat (x + y).toNat T.toNat N.toNat D.toNat = m at *
  generalize leads l.toNat x.toNat T.toNat N.toNat D.toNat = lo at *
  have HI3 := hid i3
  have HI4 := hid i4
  clear i3 i4
  have s1 := hB1.size
  have s2 := hB2.size
  have s3 := hB3.size
  have s4 := hB4.size
  have s5 := hB5.size
  have hF : Below w.heap.size w v5 := hB1.trans ((hB2.mono s1).trans ((hB3.mono (by omega)).trans ((hB4.mono (by omega)).trans (hB5.mono (by omega)))))
  have hS : w.heap.size ≤ v5.heap.size := by omega
  clear hB1 hB2 hB3 hB4 hB5 s1 s2 s3 s4 s5
  cases o
  · clear i1 i2 HI3
    by_cases hnd : N + 1 < D
    · go_wp2_with fail
      refine (lead_int _ _ _ _ _ _ (by omega) (by omega) (by omega) (by omega) (by omega) (by omega) (by omega) (by omega) (by omega)).mono ?_
      rintro e v6 ⟨rfl, hB6⟩
      generalize leads p.toNat x.toNat T.toNat (N + 1).toNat D.toNat = wd
      go_wp2_with fail
      refine (lead_int _ _ _ _ _ _ (by omega) (by omega) (by omega) (by omega) (by omega) (by omega) (by omega) (by omega) (by omega)).mono ?_
      rintro e v7 ⟨rfl, hB7⟩
      have s6 := hB6.size
      have hF7 : Below w.heap.size w v7 := hF.trans ((hB6.mono hS).trans (hB7.mono (by omega)))
      clear hB6 s6
      clear hF hB7
      by_cases hpq : p + q < 1024
      · have HJ := hid (HI4.out hpq (by trivial))
        go_wp2_with fail
        refine (lead_int _ _ _ _ _ _ (by omega) (by omega) (by omega) (by omega) (by omega) (by omega) (by omega) (by omega) (by omega)).mono ?_
        rintro e v8 ⟨rfl, hB8⟩
        have HF := hid (hF7.trans (hB8.mono (by have := hF7.size; omega)))
        clear hB8 hF7 HI4
        generalize leads q.toNat y.toNat T.toNat N.toNat D.toNat = s2 at *
        generalize leads (p + q).toNat (x + y).toNat T.toNat N.toNat D.toNat = bo at *
        cases s2
        · have hbo := HJ.out (by trivial)
          subst hbo
          clear HJ
          go_wp2
          go_ret
          exact ⟨rfl, HF.out⟩
        · clear HJ
          go_wp2
          go_ret
          exact ⟨rfl, HF.out⟩
      · go_wp2
        go_ret
        exact ⟨rfl, hF7⟩
    · go_wp2_with fail
      refine (lead_int _ _ _ _ _ _ (by omega) (by omega) (by omega) (by omega) (by omega) (by omega) (by omega) (by omega) (by omega)).mono ?_
      rintro e v7 ⟨rfl, hB7⟩
      have hF7 : Below w.heap.size w v7 := hF.trans (hB7.mono hS)
      clear hF hB7
      by_cases hpq : p + q < 1024
      · have HJ := hid (HI4.out hpq (by trivial))
        go_wp2_with fail
        refine (lead_int _ _ _ _ _ _ (by omega) (by omega) (by omega) (by omega) (by omega) (by omega) (by omega) (by omega) (by omega)).mono ?_
        rintro e v8 ⟨rfl, hB8⟩
        have HF := hid (hF7.trans (hB8.mono (by have := hF7.size; omega)))
        clear hB8 hF7 HI4
        generalize leads q.toNat y.toNat T.toNat N.toNat D.toNat = s2 at *
        generalize leads (p + q).toNat (x + y).toNat T.toNat N.toNat D.toNat = bo at *
        cases s2
        · have hbo := HJ.out (by trivial)
          subst hbo
          clear HJ
          go_wp2
          go_ret
          exact ⟨rfl, HF.out⟩
        · clear HJ
          go_wp2
          go_ret
          exact ⟨rfl, HF.out⟩
      · go_wp2
        go_ret
        exact ⟨rfl, hF7⟩
  · have e1 := i1 rfl
    have e2 := i2 rfl
    subst e1
    subst e2
    clear i1 i2 HI4
    by_cases hnd : N + 1 < D
    · go_wp2_with fail
      refine (lead_int _ _ _ _ _ _ (by omega) (by omega) (by omega) (by omega) (by omega) (by omega) (by omega) (by omega) (by omega)).mono ?_
      rintro e v6 ⟨rfl, hB6⟩
      rw [HI3.out (by trivial)]
      clear HI3
      go_wp2_with fail
      refine (lead_int _ _ _ _ _ _ (by omega) (by omega) (by omega) (by omega) (by omega) (by omega) (by omega) (by omega) (by omega)).mono ?_
      rintro e v7 ⟨rfl, hB7⟩
      have s6 := hB6.size
      have hF7 : Below w.heap.size w v7 := hF.trans ((hB6.mono hS).trans (hB7.mono (by omega)))
      clear hB6 s6
      clear hF hB7
      by_cases hpq : p + q < 1024
      · go_wp2_with fail
        refine (lead_int _ _ _ _ _ _ (by omega) (by omega) (by omega) (by omega) (by omega) (by omega) (by omega) (by omega) (by omega)).mono ?_
        rintro e v8 ⟨rfl, hB8⟩
        have HF := hid (hF7.trans (hB8.mono (by have := hF7.size; omega)))
        clear hB8 hF7
        generalize leads q.toNat y.toNat T.toNat N.toNat D.toNat = s2
        generalize leads (p + q).toNat (x + y).toNat T.toNat N.toNat D.toNat = bo
        go_wp2
        go_ret
        exact ⟨rfl, HF.out⟩
      · go_wp2
        go_ret
        exact ⟨rfl, hF7⟩
    · clear HI3
      go_wp2_with fail
      refine (lead_int _ _ _ _ _ _ (by omega) (by omega) (by omega) (by omega) (by omega) (by omega) (by omega) (by omega) (by omega)).mono ?_
      rintro e v7 ⟨rfl, hB7⟩
      have hF7 : Below w.heap.size w v7 := hF.trans (hB7.mono hS)
      clear hF hB7
      by_cases hpq : p + q < 1024
      · go_wp2_with fail
        refine (lead_int _ _ _ _ _ _ (by omega) (by omega) (by omega) (by omega) (by omega) (by omega) (by omega) (by omega) (by omega)).mono ?_
        rintro e v8 ⟨rfl, hB8⟩
        have HF := hid (hF7.trans (hB8.mono (by have := hF7.size; omega)))
        clear hB8 hF7
        generalize leads q.toNat y.toNat T.toNat N.toNat D.toNat = s2
        generalize leads (p + q).toNat (x + y).toNat T.toNat N.toNat D.toNat = bo
        go_wp2
        go_ret
        exact ⟨rfl, HF.out⟩
      · go_wp2
        go_ret
        exact ⟨rfl, hF7⟩
end Go.Proofs.Ytpaakikgfojplaa.shares

