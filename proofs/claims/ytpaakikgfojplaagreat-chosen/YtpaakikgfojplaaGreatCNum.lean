

/-
  PLAIN MATHEMATICS: numbers written in a base, lowest digit first; times a small factor; which of two is less; the inequalities of leading a slot. It imports nothing of the program.
-/
namespace Go.Proofs.YtpaakikgfojplaaGreat.Num

/-- The number that digits write in base B, the lowest first. -/
def dval (B : Nat) : List Nat → Nat
  | [] => 0
  | d :: ds => d + B * dval B ds

theorem dval_nil (B : Nat) : dval B [] = 0 := rfl
theorem dval_cons (B d : Nat) (ds : List Nat) : dval B (d :: ds) = d + B * dval B ds := rfl

theorem dval_append (B : Nat) (xs ys : List Nat) : dval B (xs ++ ys) = dval B xs + B ^ xs.length * dval B ys := by
  induction xs with
  | nil => simp [dval]
  | cons d ds ih =>
    simp only [List.cons_append, dval, ih, List.length_cons, Nat.pow_succ, Nat.mul_add]
    rw [Nat.mul_comm (B ^ ds.length) B, Nat.mul_assoc, Nat.add_assoc]

theorem dval_zeros (B n : Nat) : dval B (List.replicate n 0) = 0 := by
  induction n with
  | zero => rfl
  | succ n ih => simp [List.replicate_succ, dval, ih]

theorem dval_lt (B : Nat) (ds : List Nat) (h : ∀ d ∈ ds, d < B) : dval B ds < B ^ ds.length := by
  induction ds with
  | nil => simp [dval]
  | cons d ds ih =>
    have h1 := h d (by simp)
    have h2 := ih (fun x hx => h x (by simp [hx]))
    simp only [dval, List.length_cons, Nat.pow_succ]
    have h3 : B * (dval B ds + 1) ≤ B * B ^ ds.length := Nat.mul_le_mul_left _ h2
    rw [Nat.mul_add, Nat.mul_one] at h3
    rw [Nat.mul_comm (B ^ ds.length) B]
    omega

/-- Digits below B, at least one, the highest not 0 (said by the number's size). -/
structure DGood (B : Nat) (ds : List Nat) : Prop where
  small : ∀ d ∈ ds, d < B
  some : 1 ≤ ds.length
  high : B ^ (ds.length - 1) ≤ dval B ds

theorem dgood_one (B : Nat) (h : 2 ≤ B) : DGood B [1] := ⟨by intro d hd; simp at hd; omega, by simp, by simp [dval]⟩

theorem DGood.shift {B : Nat} {ds : List Nat} (h : DGood B ds) (n : Nat) (hB : 1 ≤ B) : DGood B (List.replicate n 0 ++ ds) := by
  refine ⟨?_, by have := h.some; simp; omega, ?_⟩
  · intro d hd
    rw [List.mem_append] at hd
    rcases hd with hd | hd
    · have := List.eq_of_mem_replicate hd; omega
    · exact h.small d hd
  · rw [dval_append, dval_zeros, List.length_append, List.length_replicate, Nat.zero_add]
    have e : n + ds.length - 1 = n + (ds.length - 1) := by have := h.some; omega
    rw [e, Nat.pow_add]
    exact Nat.mul_le_mul_left _ h.high

theorem dval_shift (B n : Nat) (ds : List Nat) : dval B (List.replicate n 0 ++ ds) = B ^ n * dval B ds := by
  rw [dval_append, dval_zeros, List.length_replicate, Nat.zero_add]

/-- More digits: greater. -/
theorem lt_of_len {B : Nat} {xs ys : List Nat} (hB : 1 ≤ B) (hx : DGood B xs) (hy : DGood B ys) (h : xs.length < ys.length) : dval B xs < dval B ys := by
  have h1 := dval_lt B xs hx.small
  have h2 : B ^ xs.length ≤ B ^ (ys.length - 1) := Nat.pow_le_pow_right hB (by omega)
  exact Nat.lt_of_lt_of_le h1 (Nat.le_trans h2 hy.high)

theorem dval_split (B : Nat) (xs : List Nat) (i : Nat) (h : i < xs.length) : dval B xs = dval B (xs.take i) + B ^ i * (xs.getD i 0 + B * dval B (xs.drop (i + 1))) := by
  have e : xs = xs.take i ++ xs.drop i := (List.take_append_drop i xs).symm
  have e2 : xs.drop i = xs.getD i 0 :: xs.drop (i + 1) := by
    rw [List.drop_eq_getElem_cons h]; simp [List.getD, h]
  have e3 : (xs.take i).length = i := by simp; omega
  rw [← dval_cons, ← e2]
  conv => lhs; rw [e]
  rw [dval_append, e3]

/-- The highest digit at which they differ decides. -/
theorem lt_of_digit {B : Nat} {xs ys : List Nat} (hx : DGood B xs) (i : Nat) (hi : i < xs.length) (hj : i < ys.length)
    (hd : xs.drop (i + 1) = ys.drop (i + 1)) (h : xs.getD i 0 < ys.getD i 0) : dval B xs < dval B ys := by
  have h1 : dval B (xs.take i) < B ^ i := by
    have := dval_lt B (xs.take i) (fun d hd => hx.small d (List.mem_of_mem_take hd))
    have e : (xs.take i).length = i := by simp; omega
    rwa [e] at this
  rw [dval_split B xs i hi, dval_split B ys i hj, hd]
  have h2 : B ^ i * (xs.getD i 0 + B * dval B (ys.drop (i + 1)) + 1) ≤ B ^ i * (ys.getD i 0 + B * dval B (ys.drop (i + 1))) := Nat.mul_le_mul_left _ (by omega)
  rw [Nat.mul_add _ _ 1, Nat.mul_one] at h2
  omega

theorem eq_of_drop {xs ys : List Nat} (h : xs.drop 0 = ys.drop 0) : xs = ys := by simpa using h

theorem drop_step {xs ys : List Nat} (i : Nat) (hi : i < xs.length) (hj : i < ys.length) (hd : xs.drop (i + 1) = ys.drop (i + 1)) (h : xs.getD i 0 = ys.getD i 0) : xs.drop i = ys.drop i := by
  rw [List.drop_eq_getElem_cons hi, List.drop_eq_getElem_cons hj, hd]
  simp [List.getD, hi, hj] at h
  rw [h]

/-! ### Times a factor -/

/-- After k of the digits: what is written so far, and what is carried. -/
structure DPart (B f : Nat) (ds : List Nat) (k : Nat) (outs : List Nat) (c : Nat) : Prop where
  len : outs.length = k
  small : ∀ d ∈ outs, d < B
  carry : c < 1024
  eq : dval B outs + B ^ k * c = f * dval B (ds.take k)

theorem DPart.start (B f : Nat) (ds : List Nat) : DPart B f ds 0 [] 0 := ⟨rfl, by simp, by omega, by simp [dval]⟩

theorem prod_lt {B f d c : Nat} (hd : d < B) (hf : f ≤ 1024) (hc : c < 1024) : d * f + c < B * 1024 := by
  have h : d * f ≤ (B - 1) * 1024 := Nat.mul_le_mul (by omega) hf
  have e : (B - 1) * 1024 + 1024 = B * 1024 := by
    have : (B - 1 + 1) * 1024 = B * 1024 := by rw [Nat.sub_add_cancel (by omega)]
    omega
  omega

theorem take_succ_getD (ds : List Nat) (k : Nat) (h : k < ds.length) : ds.take (k + 1) = ds.take k ++ [ds.getD k 0] := by
  rw [List.take_succ_eq_append_getElem h]; simp [List.getD, h]

theorem DPart.step {B f : Nat} {ds : List Nat} {k : Nat} {outs : List Nat} {c : Nat} (h : DPart B f ds k outs c) (hf : f ≤ 1024) (hds : ∀ d ∈ ds, d < B) (hk : k < ds.length) :
    DPart B f ds (k + 1) (outs ++ [(ds.getD k 0 * f + c) % B]) ((ds.getD k 0 * f + c) / B) := by
  have hd : ds.getD k 0 < B := by
    have := hds ds[k] (List.getElem_mem hk)
    simpa [List.getD, hk] using this
  have hp := prod_lt hd hf h.carry
  have hB : 0 < B := by omega
  refine ⟨by simp [h.len], ?_, ?_, ?_⟩
  · intro d hd'
    rw [List.mem_append] at hd'
    rcases hd' with hd' | hd'
    · exact h.small d hd'
    · simp at hd'; rw [hd']; exact Nat.mod_lt _ hB
  · exact Nat.div_lt_of_lt_mul hp
  · have e := h.eq
    have hm := Nat.mod_add_div (ds.getD k 0 * f + c) B
    have e2 : (ds.take k).length = k := by simp; omega
    rw [dval_append, h.len, take_succ_getD ds k hk, dval_append, e2, dval_cons, dval_nil, dval_cons, dval_nil, Nat.mul_zero, Nat.pow_succ]
    simp only [Nat.add_zero]
    generalize (ds.getD k 0 * f + c) % B = m at *
    generalize (ds.getD k 0 * f + c) / B = q at *
    rw [Nat.mul_add, ← e, Nat.mul_assoc, Nat.add_assoc, ← Nat.mul_add, hm, Nat.mul_add]
    have e3 : B ^ k * (ds.getD k 0 * f) = f * (B ^ k * ds.getD k 0) := by
      rw [← Nat.mul_assoc, Nat.mul_comm]
    omega

theorem set_at (outs ds : List Nat) (k x : Nat) (hl : outs.length = k) (hk : k < ds.length) : (outs ++ ds.drop k).set k x = (outs ++ [x]) ++ ds.drop (k + 1) := by
  rw [List.set_append_right _ _ (by omega), hl, Nat.sub_self, List.drop_eq_getElem_cons hk]
  simp only [List.set_cons_zero, List.append_assoc, List.singleton_append]

/-- All digits done, nothing is carried. -/
theorem DPart.done {B f : Nat} {ds : List Nat} {outs : List Nat} (h : DPart B f ds ds.length outs 0) (hf : 1 ≤ f) (hg : DGood B ds) : DGood B outs ∧ dval B outs = f * dval B ds := by
  have e := h.eq
  rw [List.take_length, Nat.mul_zero, Nat.add_zero] at e
  refine ⟨⟨h.small, by rw [h.len]; exact hg.some, ?_⟩, e⟩
  rw [h.len, e]
  exact Nat.le_trans hg.high (Nat.le_mul_of_pos_left _ hf)

/-- All digits done, something is carried: one digit more. -/
theorem DPart.more {B f : Nat} {ds : List Nat} {outs : List Nat} {c : Nat} (h : DPart B f ds ds.length outs c) (hB : 1024 ≤ B) (hc : 0 < c) : DGood B (outs ++ [c]) ∧ dval B (outs ++ [c]) = f * dval B ds := by
  have e := h.eq
  rw [List.take_length] at e
  have e2 : dval B (outs ++ [c]) = f * dval B ds := by
    rw [dval_append, h.len, dval_cons, dval_nil, Nat.mul_zero, Nat.add_zero]; exact e
  refine ⟨⟨?_, by simp, ?_⟩, e2⟩
  · intro d hd
    rw [List.mem_append] at hd
    rcases hd with hd | hd
    · exact h.small d hd
    · simp at hd; have := h.carry; omega
  · rw [dval_append, List.length_append, h.len, dval_cons, dval_nil, Nat.mul_zero, Nat.add_zero]
    show B ^ (ds.length + 1 - 1) ≤ _
    rw [Nat.add_sub_cancel]
    exact Nat.le_trans (Nat.le_mul_of_pos_right _ hc) (Nat.le_add_left _ _)

/-- The highest digit of a good number is not 0. -/
theorem DGood.last {B : Nat} {ds : List Nat} (h : DGood B ds) : ds.getD (ds.length - 1) 0 ≠ 0 := by
  intro h0
  have hl := h.some
  have h1 := h.high
  rw [dval_split B ds (ds.length - 1) (by omega), h0, List.drop_of_length_le (by omega), dval_nil] at h1
  have h2 := dval_lt B (ds.take (ds.length - 1)) (fun d hd => h.small d (List.mem_of_mem_take hd))
  have e : (ds.take (ds.length - 1)).length = ds.length - 1 := by simp
  rw [e] at h2
  simp at h1
  omega

/-! ### Leading a slot -/

/-- proof / 1024 < 1 - (1 - a/b)^(stake/total), both sides to the power of the total. -/
def leads (p s t a b : Nat) : Bool := decide ((b - a) ^ s * 1024 ^ t < b ^ s * (1024 - p) ^ t)

theorem leads_iff (p s t a b : Nat) : leads p s t a b = true ↔ (b - a) ^ s * 1024 ^ t < b ^ s * (1024 - p) ^ t := by simp [leads]
theorem leads_false (p s t a b : Nat) : leads p s t a b = false ↔ b ^ s * (1024 - p) ^ t ≤ (b - a) ^ s * 1024 ^ t := by simp [leads]

theorem pow_lt_iff (x y n : Nat) (hn : 1 ≤ n) : x ^ n < y ^ n ↔ x < y := by
  constructor
  · intro h
    rcases Nat.lt_or_ge x y with h' | h'
    · exact h'
    · have := Nat.pow_le_pow_left h' n; omega
  · intro h; exact Nat.pow_lt_pow_left h (by omega)

theorem leads_none (p t a b : Nat) : leads p 0 t a b = false := by
  rw [leads_false]
  have := Nat.pow_le_pow_left (show 1024 - p ≤ 1024 by omega) t
  simpa using this

theorem leads_all (p t a b : Nat) (ht : 1 ≤ t) (ha : a ≤ b) (hp : p ≤ 1024) : leads p t t a b = decide (p * b < 1024 * a) := by
  rw [Bool.eq_iff_iff, leads_iff, decide_eq_true_iff, ← Nat.mul_pow, ← Nat.mul_pow, pow_lt_iff _ _ _ ht, Nat.sub_mul, Nat.mul_sub]
  have e1 : b * p = p * b := Nat.mul_comm _ _
  have e2 : p * b ≤ 1024 * b := Nat.mul_le_mul_right _ hp
  have e3 : a * 1024 ≤ b * 1024 := Nat.mul_le_mul_right _ ha
  omega

theorem leads_half (p t a b : Nat) (ht : 1 ≤ t) : leads p t (2 * t) a b = decide ((b - a) * 1024 * 1024 < (1024 - p) * (1024 - p) * b) := by
  have e : ∀ x : Nat, x ^ (2 * t) = (x * x) ^ t := fun x => by rw [Nat.pow_mul, Nat.pow_two]
  rw [Bool.eq_iff_iff, leads_iff, decide_eq_true_iff, e, e, ← Nat.mul_pow, ← Nat.mul_pow, pow_lt_iff _ _ _ ht, Nat.mul_assoc, Nat.mul_comm b]

theorem leads_first (t a b : Nat) (ha : 1 ≤ a) (hb : 1 ≤ b) : leads 0 1 t a b = true := by
  rw [leads_iff, Nat.pow_one, Nat.pow_one, Nat.sub_zero]
  exact Nat.mul_lt_mul_of_pos_right (by omega) (Nat.pow_pos (by omega))

theorem leads_twice (p s t a b : Nat) : leads p (2 * s) (2 * t) a b = leads p s t a b := by
  have e : ∀ x n : Nat, x ^ (2 * n) = (x ^ n) ^ 2 := fun x n => by rw [Nat.mul_comm 2, Nat.pow_mul]
  rw [Bool.eq_iff_iff, leads_iff, leads_iff, e, e, e, e, ← Nat.mul_pow, ← Nat.mul_pow, pow_lt_iff _ _ _ (by omega)]

theorem leads_more (p x y t a b : Nat) (hb : 1 ≤ b) (h : leads p x t a b = true) : leads p (x + y) t a b = true := by
  rw [leads_iff] at h ⊢
  rw [Nat.pow_add, Nat.pow_add, Nat.mul_right_comm, Nat.mul_right_comm (b ^ x)]
  have h1 : (b - a) ^ y ≤ b ^ y := Nat.pow_le_pow_left (by omega) y
  have h2 : 0 < b ^ y := Nat.pow_pos hb
  exact Nat.lt_of_le_of_lt (Nat.mul_le_mul_left _ h1) (Nat.mul_lt_mul_of_pos_right h h2)

theorem leads_lower (p q s t a b : Nat) (hq : q ≤ p) (h : leads p s t a b = true) : leads q s t a b = true := by
  rw [leads_iff] at h ⊢
  exact Nat.lt_of_lt_of_le h (Nat.mul_le_mul_left _ (Nat.pow_le_pow_left (by omega) _))

theorem leads_wide (p s t a b : Nat) (h : leads p s t a b = true) : leads p s t (a + 1) b = true := by
  rw [leads_iff] at h ⊢
  exact Nat.lt_of_le_of_lt (Nat.mul_le_mul_right _ (Nat.pow_le_pow_left (by omega) _)) h

theorem cross (p q : Nat) (h : p + q ≤ 1024) : 1024 * (1024 - (p + q)) ≤ (1024 - p) * (1024 - q) := by
  obtain ⟨r, hr⟩ : ∃ r, 1024 = p + q + r := ⟨1024 - (p + q), by omega⟩
  have e1 : 1024 - (p + q) = r := by omega
  have e2 : 1024 - p = q + r := by omega
  have e3 : 1024 - q = p + r := by omega
  rw [e1, e2, e3]
  have e4 : (q + r) * (p + r) = q * p + q * r + (r * p + r * r) := by rw [Nat.add_mul, Nat.mul_add, Nat.mul_add]
  have e5 : 1024 * r = p * r + q * r + r * r := by rw [hr, Nat.add_mul, Nat.add_mul]
  have e6 : r * p = p * r := Nat.mul_comm _ _
  omega

theorem leads_both (p q x y t a b : Nat) (h : p + q ≤ 1024) (h1 : leads p x t a b = false) (h2 : leads q y t a b = false) : leads (p + q) (x + y) t a b = false := by
  rw [leads_false] at h1 h2 ⊢
  have h3 := Nat.mul_le_mul h1 h2
  have h4 : (1024 * (1024 - (p + q))) ^ t ≤ ((1024 - p) * (1024 - q)) ^ t := Nat.pow_le_pow_left (cross p q h) t
  have h5 : 0 < 1024 ^ t := Nat.pow_pos (by omega)
  refine Nat.le_of_mul_le_mul_left ?_ h5
  have e1 : 1024 ^ t * (b ^ (x + y) * (1024 - (p + q)) ^ t) = b ^ (x + y) * (1024 * (1024 - (p + q))) ^ t := by
    rw [Nat.mul_pow, Nat.mul_left_comm]
  have e2 : b ^ x * (1024 - p) ^ t * (b ^ y * (1024 - q) ^ t) = b ^ (x + y) * ((1024 - p) * (1024 - q)) ^ t := by
    rw [Nat.mul_pow, Nat.pow_add, Nat.mul_mul_mul_comm]
  have e3 : (b - a) ^ x * 1024 ^ t * ((b - a) ^ y * 1024 ^ t) = 1024 ^ t * ((b - a) ^ (x + y) * 1024 ^ t) := by
    rw [Nat.pow_add, Nat.mul_mul_mul_comm, ← Nat.mul_assoc, Nat.mul_comm ((b - a) ^ x * (b - a) ^ y * 1024 ^ t)]
  rw [e1, ← e3]
  exact Nat.le_trans (Nat.mul_le_mul_left _ h4) (e2 ▸ h3)

end Go.Proofs.YtpaakikgfojplaaGreat.Num

