import Derived.Test.YtpaakikgfojplabCM3
/-
  PLAIN MATHEMATICS: a header as bytes.
-/
namespace Go.Proofs.Ytpaakikgfojplab.Tx
theorem snoc_ind {α : Type} {P : List α → Prop} (l : List α) (nil : P []) (app : ∀ l a, P l → P (l ++ [a])) : P l := by
  have h : ∀ m : List α, P m.reverse := by
    intro m
    induction m with
    | nil => exact nil
    | cons a m ih => rw [List.reverse_cons]; exact app _ _ ih
  have := h l.reverse
  rwa [List.reverse_reverse] at this
/-- The k bytes of a number, the greatest first. -/
def dig : Nat → Nat → List UInt8
  | _, 0 => []
  | n, k + 1 => dig (n / 256) k ++ [UInt8.ofNat (n % 256)]
def val (l : List UInt8) : Nat := l.foldl (fun a b => a * 256 + b.toNat) 0
def kind (n : Nat) : Nat := if n < 24 then n else if n < 256 then 24 else if n < 65536 then 25 else if n < 4294967296 then 26 else 27
def sz (f : Nat) : Nat := if f = 24 then 1 else if f = 25 then 2 else if f = 26 then 4 else if f = 27 then 8 else 0
def num (n : Nat) : List UInt8 := UInt8.ofNat (kind n) :: dig n (sz (kind n))

theorem dig_len (n k : Nat) : (dig n k).length = k := by
  induction k generalizing n with
  | zero => rfl
  | succ k ih => simp [dig, ih]
theorem val_snoc (l : List UInt8) (b : UInt8) : val (l ++ [b]) = val l * 256 + b.toNat := by simp [val]
theorem val_dig (n k : Nat) : val (dig n k) = n % 256 ^ k := by
  induction k generalizing n with
  | zero => simp [dig, val, Nat.mod_one]
  | succ k ih =>
    rw [dig, val_snoc, ih]
    have e : (UInt8.ofNat (n % 256)).toNat = n % 256 := by simp
    rw [e, Nat.pow_succ, Nat.mul_comm (256 ^ k) 256, Nat.mod_mul]
    omega
theorem val_lt (l : List UInt8) : val l < 256 ^ l.length := by
  refine snoc_ind (P := fun l => val l < 256 ^ l.length) l (by simp [val]) ?_
  · intro l b ih
    rw [val_snoc, List.length_append, List.length_singleton, Nat.pow_succ]
    have := b.toNat_lt
    omega
theorem dig_val (l : List UInt8) : dig (val l) l.length = l := by
  refine snoc_ind (P := fun l => dig (val l) l.length = l) l rfl ?_
  · intro l b ih
    rw [List.length_append, List.length_singleton, dig, val_snoc]
    have hb := b.toNat_lt
    have e1 : (val l * 256 + b.toNat) / 256 = val l := by omega
    have e2 : (val l * 256 + b.toNat) % 256 = b.toNat := by omega
    rw [e1, e2, ih]
    simp
theorem kind_le (n : Nat) : kind n ≤ 27 := by unfold kind; repeat' split
                                              all_goals omega
theorem kind_byte (n : Nat) : (UInt8.ofNat (kind n)).toNat = kind n := by
  have := kind_le n
  simp
  omega
theorem kind_fit {n : Nat} (h : n < 9223372036854775808) (hs : sz (kind n) ≠ 0) : n < 256 ^ sz (kind n) := by
  unfold kind at hs ⊢
  by_cases h1 : n < 24
  · rw [if_pos h1] at hs
    exfalso
    revert hs
    unfold sz
    repeat' split
    all_goals omega
  · rw [if_neg h1] at hs ⊢
    by_cases h2 : n < 256
    · rw [if_pos h2]; simpa [sz] using h2
    · rw [if_neg h2]
      by_cases h3 : n < 65536
      · rw [if_pos h3]; simpa [sz] using h3
      · rw [if_neg h3]
        by_cases h4 : n < 4294967296
        · rw [if_pos h4]; simpa [sz] using h4
        · rw [if_neg h4]; simp [sz]; omega
theorem kind_small {n : Nat} (hs : sz (kind n) = 0) : kind n = n := by
  unfold kind at hs ⊢
  by_cases h1 : n < 24
  · rw [if_pos h1]
  · rw [if_neg h1] at hs
    exfalso
    revert hs
    split
    · simp [sz]
    · split
      · simp [sz]
      · split <;> simp [sz]

/-- One number is read. -/
def rd (t : List UInt8) : Option (Nat × List UInt8) :=
  match t with
  | [] => none
  | b :: r =>
    if 27 < b.toNat ∨ r.length < sz b.toNat then none
    else if sz b.toNat = 8 ∧ 128 ≤ (r.getD 0 0).toNat then none
    else
      let n := if sz b.toNat = 0 then b.toNat else val (r.take (sz b.toNat))
      if kind n ≠ b.toNat then none else some (n, r.drop (sz b.toNat))

theorem val_cons (b : UInt8) (l : List UInt8) : val (b :: l) = b.toNat * 256 ^ l.length + val l := by
  have : ∀ (l : List UInt8) (a : Nat), l.foldl (fun a b => a * 256 + b.toNat) a = a * 256 ^ l.length + val l := by
    intro l
    induction l with
    | nil => intro a; simp [val]
    | cons c l ih =>
      intro a
      unfold val
      rw [List.foldl_cons, List.foldl_cons, ih, ih, List.length_cons, Nat.pow_succ]
      rw [Nat.add_mul, Nat.zero_mul, Nat.zero_add]
      have : a * 256 * 256 ^ l.length = a * (256 ^ l.length * 256) := by rw [Nat.mul_assoc, Nat.mul_comm 256]
      omega
  unfold val
  rw [List.foldl_cons, this, Nat.zero_mul, Nat.zero_add]
  rfl

theorem rd_num (n : Nat) (h : n < 9223372036854775808) (r : List UInt8) : rd (num n ++ r) = some (n, r) := by
  unfold num
  rw [List.cons_append]
  unfold rd
  simp only [kind_byte]
  rw [if_neg (by have := kind_le n; rw [List.length_append, dig_len]; omega)]
  have htake : (dig n (sz (kind n)) ++ r).take (sz (kind n)) = dig n (sz (kind n)) := by
    rw [List.take_append_of_le_length (by rw [dig_len]; omega), List.take_of_length_le (by rw [dig_len]; omega)]
  have hdrop : (dig n (sz (kind n)) ++ r).drop (sz (kind n)) = r := by
    have := List.drop_append_of_le_length (l₁ := dig n (sz (kind n))) (l₂ := r) (i := sz (kind n)) (by rw [dig_len]; omega)
    rw [this, List.drop_of_length_le (by rw [dig_len]; omega)]
    rfl
  rw [if_neg (by
    rintro ⟨h8, hb⟩
    have hd := dig_len n 8
    rw [h8] at hb
    have hv := val_dig n 8
    match hm : dig n 8, hd with
    | c :: l, hl =>
      rw [hm] at hb hv
      rw [val_cons] at hv
      simp at hb hl
      rw [hl, Nat.mod_eq_of_lt (by omega)] at hv
      have : 128 * 256 ^ 7 ≤ c.toNat * 256 ^ 7 := Nat.mul_le_mul_right _ hb
      have : (128 * 256 ^ 7 : Nat) = 9223372036854775808 := by decide
      omega)]
  rw [htake, hdrop, val_dig]
  have e : (if sz (kind n) = 0 then kind n else n % 256 ^ sz (kind n)) = n := by
    split
    · rename_i hs; exact kind_small hs
    · rename_i hs; exact Nat.mod_eq_of_lt (kind_fit h hs)
  rw [e]
  simp

theorem rd_some {t r : List UInt8} {n : Nat} (h : rd t = some (n, r)) : t = num n ++ r ∧ n < 9223372036854775808 := by
  match t, h with
  | b :: q, h =>
    unfold rd at h
    simp only at h
    split at h
    · simp at h
    rename_i h1
    split at h
    · simp at h
    rename_i h2
    by_cases h3 : kind (if sz b.toNat = 0 then b.toNat else val (q.take (sz b.toNat))) ≠ b.toNat
    · rw [if_pos h3] at h; simp at h
    rw [if_neg h3] at h
    have h3' : kind (if sz b.toNat = 0 then b.toNat else val (q.take (sz b.toNat))) = b.toNat := Classical.not_not.1 h3
    simp only [Option.some.injEq, Prod.mk.injEq] at h
    obtain ⟨hn, hr⟩ := h
    rw [hn] at h3'
    subst hr
    have hl : (q.take (sz b.toNat)).length = sz b.toNat := by simp; omega
    have hbb : UInt8.ofNat (kind n) = b := by rw [h3']; simp
    constructor
    · unfold num
      rw [hbb, h3', List.cons_append]
      congr 1
      have : dig n (sz b.toNat) = q.take (sz b.toNat) := by
        by_cases hs : sz b.toNat = 0
        · rw [hs]; simp [dig]
        · rw [if_neg hs] at hn
          rw [← hn]
          have := dig_val (q.take (sz b.toNat))
          rwa [hl] at this
      rw [this, List.take_append_drop]
    · by_cases hs : sz b.toNat = 0
      · rw [if_pos hs] at hn
        have := b.toNat_lt
        omega
      · rw [if_neg hs] at hn
        rw [← hn]
        by_cases h8 : sz b.toNat = 8
        · have hq : ¬ 128 ≤ (q.getD 0 0).toNat := fun e => h2 ⟨h8, e⟩
          rw [h8] at hl ⊢
          match q, hl with
          | c :: q, hl =>
            simp at hl hq
            rw [List.take_succ_cons, val_cons]
            have h7 : (q.take 7).length = 7 := by simp; omega
            have := val_lt (q.take 7)
            rw [h7] at this ⊢
            have h9 : c.toNat * 256 ^ 7 ≤ 127 * 256 ^ 7 := Nat.mul_le_mul_right _ (by omega)
            have : (127 * 256 ^ 7 : Nat) + 256 ^ 7 = 9223372036854775808 := by decide
            omega
        · have hv := val_lt (q.take (sz b.toNat))
          rw [hl] at hv
          have hs4 : sz b.toNat ≤ 4 := by
            revert h8
            unfold sz
            repeat' split
            all_goals omega
          have : 256 ^ sz b.toNat ≤ 256 ^ 4 := Nat.pow_le_pow_right (by decide) hs4
          have : (256 ^ 4 : Nat) = 4294967296 := by decide
          omega
/-- k numbers, one behind the other. -/
def rds : Nat → List UInt8 → Option (List Nat × List UInt8)
  | 0, t => some ([], t)
  | k + 1, t => match rds k t with
    | none => none
    | some (l, r) => match rd r with
      | none => none
      | some (n, r') => some (l ++ [n], r')
def nums (l : List Nat) : List UInt8 := l.flatMap num
theorem nums_snoc (l : List Nat) (n : Nat) : nums (l ++ [n]) = nums l ++ num n := by simp [nums]
theorem rds_some {k : Nat} {t r : List UInt8} {l : List Nat} (h : rds k t = some (l, r)) : t = nums l ++ r ∧ l.length = k ∧ ∀ n ∈ l, n < 9223372036854775808 := by
  induction k generalizing r l with
  | zero =>
    simp [rds] at h
    obtain ⟨rfl, rfl⟩ := h
    simp [nums]
  | succ k ih =>
    rw [rds] at h
    split at h
    · simp at h
    rename_i l1 r1 h1
    split at h
    · simp at h
    rename_i n r2 h2
    simp only [Option.some.injEq, Prod.mk.injEq] at h
    obtain ⟨rfl, rfl⟩ := h
    obtain ⟨e1, e2, e3⟩ := ih h1
    obtain ⟨e4, e5⟩ := rd_some h2
    refine ⟨?_, by simp [e2], ?_⟩
    · rw [e1, e4, nums_snoc, List.append_assoc]
    · intro m hm
      rcases List.mem_append.1 hm with h | h
      · exact e3 m h
      · simp at h; subst h; exact e5
theorem rds_nums (l : List Nat) (r : List UInt8) (h : ∀ n ∈ l, n < 9223372036854775808) : rds l.length (nums l ++ r) = some (l, r) := by
  revert r h
  refine snoc_ind (P := fun l => ∀ (r : List UInt8), (∀ n ∈ l, n < 9223372036854775808) → rds l.length (nums l ++ r) = some (l, r)) l (fun r _ => rfl) ?_
  · intro l n ih r h
    rw [List.length_append, List.length_singleton, rds, nums_snoc, List.append_assoc, ih (num n ++ r) (fun m hm => h m (by simp [hm]))]
    simp only
    rw [rd_num n (h n (by simp))]
/-- The seven numbers of a text. -/
def seven (t : List UInt8) : Option (List Nat) :=
  match t with
  | [] => none
  | b :: r => if b = 135 then (match rds 7 r with | some (l, []) => some l | _ => none) else none
theorem seven_some {t : List UInt8} {l : List Nat} (h : seven t = some l) : t = 135 :: nums l ∧ l.length = 7 ∧ ∀ n ∈ l, n < 9223372036854775808 := by
  unfold seven at h
  split at h
  · simp at h
  rename_i b r
  split at h
  · rename_i hb
    split at h
    · rename_i l1 h1
      simp at h
      subst h
      obtain ⟨e1, e2, e3⟩ := rds_some h1
      subst hb
      exact ⟨by rw [e1]; simp, e2, e3⟩
    · simp at h
  · simp at h
theorem seven_nums {l : List Nat} (hl : l.length = 7) (h : ∀ n ∈ l, n < 9223372036854775808) : seven (135 :: nums l) = some l := by
  unfold seven
  have := rds_nums l [] h
  rw [hl, List.append_nil] at this
  simp [this]
end Go.Proofs.Ytpaakikgfojplab.Tx

