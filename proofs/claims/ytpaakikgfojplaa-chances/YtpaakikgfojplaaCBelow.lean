import Derived.Test.YtpaakikgfojplaaCTimes
import Derived.Test.YtpaakikgfojplaaCLeads
/-
  THE WALKS of the document's own answer (package beaconref): below, Leads.
-/
namespace Go.Proofs.Ytpaakikgfojplaa
open Go.RowKit Num

theorem dcells_one (ds : List Nat) : ∀ u ∈ dcells ds, u.oneCell' = true := by
  intro u hu
  obtain ⟨_, _, rfl⟩ := List.mem_map.1 hu
  rfl

theorem below_eq (p s t a b x y : Nat) (hx : x = 1024 ^ t * ((b - a) ^ s * dval 1024 [1])) (hy : y = (1024 - p) ^ t * (b ^ s * dval 1024 [1])) : decide (x < y) = leads p s t a b := by
  have e : dval 1024 [1] = 1 := rfl
  subst hx; subst hy
  unfold leads
  rw [e, Nat.mul_one, Nat.mul_one, Nat.mul_comm (1024 ^ t), Nat.mul_comm ((1024 - p) ^ t)]

theorem own_lit {base : Nat} (w : World) (h : base ≤ w.heap.size) : (w.alloc (.cells #[.int .i64 1] 3)).ownsRow base 3 1 (.slice (some ⟨w.heap.size, 0, none⟩) [1].length 1) [1].length (dcells [1]) :=
  World.ownsRow_lit (base := base) (e := 3) (size := 1) w #[.int .i64 1] 1 h (by unfold maxLen; omega) rfl

set_option maxHeartbeats 1600000 in
set_option maxRecDepth 1000000 in
theorem below_any (p s t a b : Nat) (w : World) (hp : p ≤ 1023) (ht : t ≤ 240) (hs : s ≤ t) (hb : b ≤ 20) (ha : 1 ≤ a) (hab : a < b) :
    Calls Try.prog 36 #[.int .i64 (p : Int), .int .i64 (s : Int), .int .i64 (t : Int), .int .i64 (a : Int), .int .i64 (b : Int)] w fun e w' => e = .returned (.bool (leads p s t a b)) ∧ Below w.heap.size w w' := by
  obtain ⟨i0, hi, hz0, hz1, hz2⟩ := info_parts Try.info3
  have g1 : DGood 1024 [1] := dgood_one _ (by omega)
  go_enter Try.func36, Try.ntmps36
  go_wp2_with fail
  refine (often_any w.heap.size _ 1 b s [1] _ (own_lit w (Nat.le_refl _)) (by simp) g1 (by omega) (by omega) (by simp; omega)).mono ?_
  rintro e w1 ⟨g1', c1, l1, rfl, O1, G1, V1, L1, B1⟩
  have HV1 := hid V1
  clear V1
  simp only [List.length_singleton] at L1
  have S1 := B1.size
  simp only [World.size_alloc] at S1
  go_wp2_with fail
  rw [show (1024 : Int) - (p : Int) = ((1024 - p : Nat) : Int) from by omega]
  refine (often_any w.heap.size _ _ (1024 - p) t l1 _ O1 (by omega) G1 (by omega) (by omega) (by omega)).mono ?_
  rintro e w2 ⟨g2, c2, l2, rfl, O2, G2, V2, L2, B2⟩
  have HV2 := hid V2
  clear V2 O1
  have S2 := B2.size
  go_wp2_with fail
  rw [show (b : Int) - (a : Int) = ((b - a : Nat) : Int) from by omega]
  refine (often_any w.heap.size _ 1 (b - a) s [1] _ (own_lit w2 (by omega)) (by simp; omega) g1 (by omega) (by omega) (by simp; omega)).mono ?_
  rintro e w3 ⟨g3, c3, l3, rfl, O3, G3, V3, L3, B3⟩
  have HV3 := hid V3
  clear V3
  simp only [List.length_singleton] at L3
  have S3 := B3.size
  simp only [World.size_alloc] at S3
  have O2' := own_keep (O2.alloc _) B3 (Nat.le_refl _)
  have B03 : Below w.heap.size w w3 := ((Below.refl _ _).alloc (Nat.le_refl _) _).trans ((B1.mono (by simp)).trans ((B2.mono (by omega)).trans ((((Below.refl _ _).alloc (by omega) _)).trans (B3.mono (by simp; omega)))))
  clear B1 B2 B3 O2
  have HG2 := hid G2
  have HG3 := hid G3
  have HO2 := hid O2'
  have HO3 := hid O3
  have HB03 := hid B03
  have l30 := G3.some
  clear G2 G3 O2' O3 B03 G1 g1
  go_wp2
  go_loopw [13, 14] (fun o i wr => ∃ k : Nat, k ≤ t ∧ i = .int .i64 k ∧ wr.ownsRow w3.heap.size 3 1 o k (dcells (List.replicate k 0)) ∧ Below w3.heap.size w3 wr)
    (fun _ i _ => t - (intOf i).toNat)
  case atStart => exact ⟨0, Nat.zero_le _, rfl, World.ownsRow_nil _ _ _ _, Below.refl _ _⟩
  case round =>
    obtain ⟨k, hk, rfl, hout, hbel⟩ := hrel
    have hsz := hbel.size
    by_cases hlt : k < t
    · go_wp2_with (at_builtin; refine wpList_append_lies _ rfl (.tmp 35) (.tmp 36) 40 rfl w3.heap.size 3 i0 (.int .i64 0) 1 8 Try.underlying40 hi hz0 hz1 hz2 rfl (by omega) _ k (dcells (List.replicate k 0)) rfl (hout.alloc _) ⟨wr.heap.size, 0, none⟩ 1 1 [.int .i64 0] rfl rfl (cell_one_new _ _ _) (one_int _) (by omega) (by unfold maxLen; omega) (by omega) (by simp; omega) (wr.heap.size + 1) (by simp) ?_)
      intro g4 cap4 w4 hown4 hgrow hat hlt4
      have hrow := fun k (e : Value.ownBlock u13 = some k) => (hout.lt k e).1
      have HB := hid ((hbel.alloc (by omega) _).grown hgrow (by simp; omega) hrow)
      have HOW := hid hown4
      clear hown4 hgrow hat hbel hout hrow
      go_wp2
      go_roundw
      case rel =>
        refine ⟨k + 1, by omega, by go_num, ?_, HB.out⟩
        rw [List.replicate_succ', dcells_append]
        exact HOW.out
      case measure => simp [intOf]; omega
    · have hkt : k = t := by omega
      subst hkt
      have O3 := own_keep HO3.out hbel (Nat.le_refl _)
      have hnews := O3.cells rfl
      have HN := hid hnews
      clear hnews O3
      go_wp2_with (at_builtin; refine wpList_append_lies _ rfl (.tmp 38) (.tmp 39) 40 rfl w3.heap.size 3 i0 (.int .i64 0) 1 8 Try.underlying40 hi hz0 hz1 hz2 rfl (by omega) _ k (dcells (List.replicate k 0)) rfl hout ⟨g3, 0, none⟩ l3.length c3 (dcells l3) rfl (by simp [dcells]) HN.out (dcells_one _) (by omega) (by unfold maxLen; omega) (by omega) (by omega) wr.heap.size rfl ?_)
      intro g5 cap5 w5 hown5 hgrow hat hlt5
      have hrow := fun k (e : Value.ownBlock u13 = some k) => (hout.lt k e).1
      have B5 := hbel.grown hgrow (by omega) hrow
      have O2 := own_keep HO2.out B5 (Nat.le_refl _)
      have e5 : k + l3.length = (List.replicate k 0 ++ l3).length := by simp
      have hown6 : w5.ownsRow w3.heap.size 3 1 (.slice (some ⟨g5, 0, none⟩) (List.replicate k 0 ++ l3).length cap5) (List.replicate k 0 ++ l3).length (dcells (List.replicate k 0 ++ l3)) := by
        rw [← e5, dcells_append]; exact hown5
      have A := above_any _ _ _ _ _ _ l2 (List.replicate k 0 ++ l3) w5 O2 hown6 HG2.out (HG3.out.shift k (by omega)) (by omega)
      rw [← e5] at A
      have HF := hid (HB03.out.trans (B5.mono (by omega)))
      have S5 := B5.size
      clear hown5 hown6 hgrow hat hbel hout hrow B5 O2 e5
      have HA := hid A
      clear A
      go_wp2_with fail
      refine HA.out.mono ?_
      rintro e w6 ⟨rfl, B6⟩
      rw [below_eq p s k a b _ _ (by rw [dval_shift, HV3.out]) (by rw [HV2.out, HV1.out])]
      have HF6 := hid (HF.out.trans (B6.mono (by omega)))
      clear HA HF B6 HN HV1 HV2 HV3 HG2 HG3 HO2 HO3 HB03
      go_wp2
      go_ret
      exact ⟨rfl, HF6.out⟩

set_option maxHeartbeats 1600000 in
set_option maxRecDepth 1000000 in
theorem ref_yes (p s t a b : Nat) (w : World) (hp : p ≤ 1023) (ht1 : 1 ≤ t) (ht : t ≤ 240) (hs : s ≤ t) (hb : b ≤ 20) (ha : 1 ≤ a) (hab : a < b) :
    Calls Try.prog 13 #[.int .i64 (p : Int), .int .i64 (s : Int), .int .i64 (t : Int), .int .i64 (a : Int), .int .i64 (b : Int)] w fun e w' => e = .returned (.tuple #[.bool (leads p s t a b), .int .i64 0]) ∧ Below w.heap.size w w' := by
  go_enter Try.func13, Try.ntmps13
  go_wp2_with (go_at_call 36; refine (below_any p s t a b _ hp ht hs hb ha hab).mono ?_; rintro e w1 ⟨rfl, hB1⟩)
  go_ret2
  exact ⟨rfl, hB1⟩

set_option maxHeartbeats 1600000 in
set_option maxRecDepth 1000000 in
theorem ref_no (p s t a b : Int) (w : World) (h : ¬ okArgs p s t a b) :
    Calls Try.prog 13 #[.int .i64 p, .int .i64 s, .int .i64 t, .int .i64 a, .int .i64 b] w fun e w' => e = .returned (.tuple #[.bool false, .int .i64 1]) ∧ w' = w := by
  have hh : p < 0 ∨ 1024 ≤ p ∨ t < 1 ∨ 240 < t ∨ s < 0 ∨ t < s ∨ b < 2 ∨ 20 < b ∨ a < 1 ∨ b ≤ a := by unfold okArgs at h; omega
  clear h
  by_cases h1 : p < 0
  · go_enter Try.func13, Try.ntmps13
    go_wp2
    go_ret2
    exact ⟨rfl, rfl⟩
  by_cases h2 : 1024 ≤ p
  · go_enter Try.func13, Try.ntmps13
    go_wp2
    go_ret2
    exact ⟨rfl, rfl⟩
  by_cases h3 : t < 1
  · go_enter Try.func13, Try.ntmps13
    go_wp2
    go_ret2
    exact ⟨rfl, rfl⟩
  by_cases h4 : 240 < t
  · go_enter Try.func13, Try.ntmps13
    go_wp2
    go_ret2
    exact ⟨rfl, rfl⟩
  by_cases h5 : s < 0
  · go_enter Try.func13, Try.ntmps13
    go_wp2
    go_ret2
    exact ⟨rfl, rfl⟩
  by_cases h6 : t < s
  · go_enter Try.func13, Try.ntmps13
    go_wp2
    go_ret2
    exact ⟨rfl, rfl⟩
  by_cases h7 : b < 2
  · go_enter Try.func13, Try.ntmps13
    go_wp2
    go_ret2
    exact ⟨rfl, rfl⟩
  by_cases h8 : 20 < b
  · go_enter Try.func13, Try.ntmps13
    go_wp2
    go_ret2
    exact ⟨rfl, rfl⟩
  by_cases h9 : a < 1
  · go_enter Try.func13, Try.ntmps13
    go_wp2
    go_ret2
    exact ⟨rfl, rfl⟩
  have h10 : b ≤ a := by omega
  clear hh
  go_enter Try.func13, Try.ntmps13
  go_wp2
  go_ret2
  exact ⟨rfl, rfl⟩
end Go.Proofs.Ytpaakikgfojplaa

