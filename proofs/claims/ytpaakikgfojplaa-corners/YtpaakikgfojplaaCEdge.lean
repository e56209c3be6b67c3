import Derived.Test.YtpaakikgfojplaaCMul
/-
  THE WALKS of package draw: multiplyPower, one, isLess, isBelowEdge, Leads; beacon.Leads.
-/
namespace Go.Proofs.Ytpaakikgfojplaa
open Go.RowKit Num

set_option maxHeartbeats 800000 in
set_option maxRecDepth 1000000 in
theorem power_any (base p g cap f n : Nat) (ds : List Nat) (w : World) (h : NumAt base w p g cap ds) (hg : DGood 1125899906842624 ds) (hf1 : 1 ≤ f) (hf : f ≤ 1024) (hlen : ds.length + n ≤ 1000) :
    Calls Try.prog 85 #[.pointer (some ⟨p, 0, none⟩), .int .i64 (f : Int), .int .i64 (n : Int)] w fun e w' => e = .returned (.tuple #[]) ∧
      ∃ g' cap' ds', NumAt base w' p g' cap' ds' ∧ DGood 1125899906842624 ds' ∧ dval 1125899906842624 ds' = f ^ n * dval 1125899906842624 ds ∧ ds'.length ≤ ds.length + n ∧ Below base w w' := by
  go_enter Try.func85, Try.ntmps85
  go_wp2
  go_loopw [6] (fun i wr => ∃ (k g' cap' : Nat) (ds' : List Nat), k ≤ n ∧ i = .int .i64 k ∧ NumAt base wr p g' cap' ds' ∧ DGood 1125899906842624 ds' ∧ dval 1125899906842624 ds' = f ^ k * dval 1125899906842624 ds ∧ ds'.length ≤ ds.length + k ∧ Below base w wr)
    (fun i _ => n - (intOf i).toNat)
  case atStart => exact ⟨0, g, cap, ds, Nat.zero_le _, rfl, h, hg, by simp, by omega, Below.refl _ _⟩
  case round =>
    clear h hg
    obtain ⟨k, g', cap', ds', hk, rfl, hN, hG, hV, hL, hB⟩ := hrel
    have HV := hid hV
    clear hV
    by_cases hlt : k < n
    · go_wp2_with (go_at_call 95; refine (multiply_any base p g' cap' f ds' _ hN hG hf1 hf (by omega)).mono ?_; rintro e w1 ⟨rfl, g2, cap2, ds2, hN2, hG2, hV2, hL2, hB2⟩; have HV2 := hid hV2; clear hV2)
      go_roundw
      case rel =>
        exact ⟨k + 1, g2, cap2, ds2, by omega, by go_num, hN2, hG2, by rw [HV2.out, HV.out, Nat.pow_succ, Nat.mul_comm (f ^ k) f, Nat.mul_assoc], by omega, hB.trans hB2⟩
      case measure => simp [intOf]; omega
    · go_wp2
      go_end0
      have hkn : k = n := by omega
      subst hkn
      exact ⟨rfl, g', cap', ds', hN, hG, HV.out, hL, hB⟩

set_option maxHeartbeats 400000 in
theorem one_any (w : World) :
    Calls Try.prog 84 #[] w fun e w' => e = .returned (.pointer (some ⟨w.heap.size + 1, 0, none⟩)) ∧
      NumAt w.heap.size w' (w.heap.size + 1) w.heap.size 1 [1] ∧ Below w.heap.size w w' := by
  go_enter Try.func84, Try.ntmps84
  go_wp2
  go_ret
  refine ⟨rfl, ⟨by omega, ?_, ?_⟩, ((Below.refl _ _).alloc (Nat.le_refl _) _).alloc (by simp) _⟩
  · have := heap_alloc_new (w.alloc (.cells #[.int .i64 1] 3)) (.cells #[.slice (some ⟨w.heap.size, 0, none⟩) 1 1] 130)
    simpa using this
  · have h := World.ownsRow_lit (base := w.heap.size) (e := 3) (size := 1) w #[.int .i64 1] 1 (Nat.le_refl _) (by unfold maxLen; omega) rfl
    exact h.alloc _

theorem drawB {B : Nat} {a w : World} (h : Below B a w) (n : Nat) : Below B a (w.drewN n) := ⟨h.os, h.tape, h.output, h.size, h.block⟩

/-- Two numbers, one below the other. -/
theorem less_by {B : Nat} {xs ys : List Nat} (hB : 1 ≤ B) (hx : DGood B xs) (hy : DGood B ys) (h : xs.length ≠ ys.length) : decide (xs.length < ys.length) = decide (dval B xs < dval B ys) := by
  rcases Nat.lt_or_ge xs.length ys.length with h' | h'
  · rw [decide_eq_true h', decide_eq_true (lt_of_len hB hx hy h')]
  · have := lt_of_len hB hy hx (by omega)
    rw [decide_eq_false (by omega), decide_eq_false (by omega)]

theorem less_at {B : Nat} {xs ys : List Nat} (hx : DGood B xs) (hy : DGood B ys) (i : Nat) (hi : i < xs.length) (hj : i < ys.length) (hd : xs.drop (i + 1) = ys.drop (i + 1)) (h : xs.getD i 0 ≠ ys.getD i 0) :
    decide (((xs.getD i 0 : Nat) : Int) < ((ys.getD i 0 : Nat) : Int)) = decide (dval B xs < dval B ys) := by
  rcases Nat.lt_or_ge (xs.getD i 0) (ys.getD i 0) with h' | h'
  · rw [decide_eq_true (by omega), decide_eq_true (lt_of_digit hx i hi hj hd h')]
  · have := lt_of_digit hy i hj hi hd.symm (by omega)
    rw [decide_eq_false (by omega), decide_eq_false (by omega)]

set_option maxHeartbeats 1600000 in
set_option maxRecDepth 1000000 in
theorem less_any (base base' p g cap q r cap' : Nat) (xs ys : List Nat) (w : World) (hx : NumAt base w p g cap xs) (hy : NumAt base' w q r cap' ys) (gx : DGood 1125899906842624 xs) (gy : DGood 1125899906842624 ys)
    (hlx : xs.length ≤ 2000) :
    Calls Try.prog 86 #[.pointer (some ⟨p, 0, none⟩), .pointer (some ⟨q, 0, none⟩)] w fun e w' => e = .returned (.bool (decide (dval 1125899906842624 xs < dval 1125899906842624 ys))) ∧ Below w.heap.size w w' := by
  have cx := cell_of_one hx.blk
  have cy := cell_of_one hy.blk
  have ox := hx.own
  have oy := hy.own
  clear hx hy
  by_cases hne : xs.length = ys.length
  · have hb : (((xs.length : Nat) : Int) != ((ys.length : Nat) : Int)) = false := by simp [hne]
    go_enter Try.func86, Try.ntmps86
    go_wp2
    go_quiet (fail)
    go_wp2
    go_loopw [5] (fun i wr => ∃ (k nq : Nat), k ≤ xs.length ∧ i = .int .i64 ((k : Int) - 1) ∧ xs.drop k = ys.drop k ∧ wr = w.drewN nq)
      (fun i _ => (intOf i + 1).toNat)
    case atStart => exact ⟨xs.length, _, Nat.le_refl _, by go_num, by rw [List.drop_of_length_le (by omega), List.drop_of_length_le (by omega)], rfl⟩
    case round =>
      obtain ⟨k, nq, hk, rfl, hd, rfl⟩ := hrel
      rcases Nat.eq_zero_or_pos k with h0 | h0
      · subst h0
        have he : xs = ys := eq_of_drop hd
        have HE := hid he
        clear he hd
        go_wp2
        go_ret
        exact ⟨by rw [HE.out]; simp, by repeat (first | exact Below.refl _ _ | refine drawB ?_ _)⟩
      · obtain ⟨i, rfl⟩ : ∃ i, k = i + 1 := ⟨k - 1, by omega⟩
        rw [show (((i + 1 : Nat) : Int) - 1) = (i : Int) from by omega]
        have c1 := (ox.cellAt i (by omega)).trans (dcells_at xs i (by omega))
        have c2 := (oy.cellAt i (by omega)).trans (dcells_at ys i (by omega))
        have i1 : (0 : Int) ≤ (i : Int) := by omega
        have i2 : (i : Int) < ((xs.length : Nat) : Int) := by omega
        have i3 : (i : Int) < ((ys.length : Nat) : Int) := by omega
        by_cases hq : xs.getD i 0 = ys.getD i 0
        · have HD := hid (drop_step i (by omega) (by omega) hd hq)
          rw [← hq] at c2
          generalize xs.getD i 0 = d at *
          clear hd hq
          go_wp2
          go_quiet (fail)
          go_wp2
          go_roundw
          case rel => exact ⟨i, _, by omega, by go_num, HD.out, rfl⟩
          case measure => simp [intOf]
        · have hbb : (((xs.getD i 0 : Nat) : Int) != ((ys.getD i 0 : Nat) : Int)) = true := by rw [bne_iff_ne]; omega
          have HL := hid (less_at gx gy i (by omega) (by omega) hd hq)
          generalize xs.getD i 0 = d at *
          generalize ys.getD i 0 = d' at *
          clear hd hq
          go_wp2
          go_quiet (fail)
          go_wp2
          go_quiet (fail)
          go_wp2
          go_ret
          exact ⟨by rw [← HL.out]; simp, by repeat (first | exact Below.refl _ _ | refine drawB ?_ _)⟩
  · have hb : (((xs.length : Nat) : Int) != ((ys.length : Nat) : Int)) = true := by rw [bne_iff_ne]; omega
    have hres := less_by (by omega) gx gy hne
    have HR := hid hres
    clear hres ox oy gx gy
    go_enter Try.func86, Try.ntmps86
    go_wp2
    go_quiet (fail)
    go_wp2
    go_quiet (fail)
    go_wp2
    go_ret
    exact ⟨by rw [← HR.out]; simp, by repeat (first | exact Below.refl _ _ | refine drawB ?_ _)⟩

theorem own_keep {w w' : World} {base B n : Nat} {v : Value} {xs : List Value} (h : w.ownsRow base 3 1 v n xs) (hb : Below B w w') (hB : w.heap.size ≤ B) : w'.ownsRow base 3 1 v n xs := by
  refine ⟨h.1, ?_⟩
  rcases h.2 with hn | ⟨g, cap, cur, hv, hb', hg, r⟩
  · exact Or.inl hn
  · refine Or.inr ⟨g, cap, cur, hv, hb', ?_, r⟩
    rw [hb.block g (by have := lt_of_block hg; omega)]; exact hg

theorem NumAt.keep {w w' : World} {base B p g cap : Nat} {ds : List Nat} (h : NumAt base w p g cap ds) (hb : Below B w w') (hB : w.heap.size ≤ B) : NumAt base w' p g cap ds :=
  ⟨h.lo, by rw [hb.block p (by have := lt_of_block h.blk; omega)]; exact h.blk, own_keep h.own hb hB⟩

theorem edge_eq (p s t a b x y : Nat) (hx : x = 1024 ^ t * ((b - a) ^ s * dval 1125899906842624 [1])) (hy : y = (1024 - p) ^ t * (b ^ s * dval 1125899906842624 [1])) : decide (x < y) = leads p s t a b := by
  have e : dval 1125899906842624 [1] = 1 := rfl
  subst hx; subst hy
  unfold leads
  rw [e, Nat.mul_one, Nat.mul_one, Nat.mul_comm (1024 ^ t), Nat.mul_comm ((1024 - p) ^ t)]

set_option maxHeartbeats 1600000 in
set_option maxRecDepth 1000000 in
theorem edge_any (p s t a b : Nat) (w : World) (hp : p ≤ 1023) (ht : t ≤ 240) (hs : s ≤ t) (hb : b ≤ 20) (ha : 1 ≤ a) (hab : a < b) :
    Calls Try.prog 65 #[.int .i64 (p : Int), .int .i64 (s : Int), .int .i64 (t : Int), .int .i64 (a : Int), .int .i64 (b : Int)] w fun e w' => e = .returned (.bool (leads p s t a b)) ∧ Below w.heap.size w w' := by
  have g1 : DGood 1125899906842624 [1] := dgood_one _ (by omega)
  go_enter Try.func65, Try.ntmps65
  go_wp2_with fail
  refine (one_any _).mono ?_
  rintro e w1 ⟨rfl, hN1, hB1⟩
  go_wp2_with fail
  rw [show (b : Int) - (a : Int) = ((b - a : Nat) : Int) from by omega]
  refine (power_any _ _ _ _ (b - a) s [1] _ hN1 g1 (by omega) (by omega) (by simp; omega)).mono ?_
  rintro e w2 ⟨rfl, g2, cap2, ds2, hN2, hG2, hV2, hL2, hB2⟩
  have HV2 := hid hV2
  clear hV2 hN1
  simp only [List.length_singleton] at hL2
  go_wp2_with fail
  rw [show (1024 : Int) = ((1024 : Nat) : Int) from rfl]
  refine (power_any _ _ _ _ 1024 t ds2 _ hN2 hG2 (by omega) (by omega) (by omega)).mono ?_
  rintro e w3 ⟨rfl, g3, cap3, ds3, hN3, hG3, hV3, hL3, hB3⟩
  have HV3 := hid hV3
  clear hV3 hN2
  go_wp2_with fail
  refine (one_any _).mono ?_
  rintro e w4 ⟨rfl, hN4, hB4⟩
  go_wp2_with fail
  refine (power_any _ _ _ _ b s [1] _ hN4 g1 (by omega) (by omega) (by simp; omega)).mono ?_
  rintro e w5 ⟨rfl, g5, cap5, ds5, hN5, hG5, hV5, hL5, hB5⟩
  have HV5 := hid hV5
  clear hV5 hN4
  simp only [List.length_singleton] at hL5
  go_wp2_with fail
  rw [show (1024 : Int) - (p : Int) = ((1024 - p : Nat) : Int) from by omega]
  refine (power_any _ _ _ _ (1024 - p) t ds5 _ hN5 hG5 (by omega) (by omega) (by omega)).mono ?_
  rintro e w6 ⟨rfl, g6, cap6, ds6, hN6, hG6, hV6, hL6, hB6⟩
  have HV6 := hid hV6
  clear hV6 hN5
  have hN36 := hN3.keep (hB4.trans (hB5.trans hB6)) (Nat.le_refl _)
  have hB36 := (hB4.trans (hB5.trans hB6))
  have hB03 := (hB1.trans (hB2.trans hB3))
  go_wp2_with fail
  refine (less_any _ _ _ _ _ _ _ _ ds3 ds6 _ hN36 hN6 hG3 hG6 (by omega)).mono ?_
  rintro e w7 ⟨rfl, hB7⟩
  rw [edge_eq p s t a b _ _ (by rw [HV3.out, HV2.out]) (by rw [HV6.out, HV5.out])]
  have h03 := hB03.size
  have h36 := hB36.size
  have hfin : Below w.heap.size w w7 := hB03.trans ((hB36.mono h03).trans (hB7.mono (by omega)))
  clear hB36 hB03 hN36 hN3 hN6 hB1 hB2 hB3 hB4 hB5 hB6 hB7
  go_wp2
  go_ret
  exact ⟨rfl, hfin⟩
end Go.Proofs.Ytpaakikgfojplaa

