import Derived.Test.YtpaakikgfojplaaGreatCM27
import Derived.SizedLaws
import Derived.Test.YtpaakikgfojplaaGreatCM3
import Derived.Test.YtpaakikgfojplaaGreatCBkI
/-
  What came in, weighed: how long a list may be at the most.
-/
namespace Go.Proofs.YtpaakikgfojplaaGreat
open Go.ChangeShapes Go.WideShapes Go.ChangeAt Go.RowKit Num Bk
set_option linter.unusedVariables false

theorem bytes_int : Tryz.prog.bytesOf 3 = 8 := by kernel_rfl
theorem bytes_op : Tryz.prog.bytesOf 42 = 112 := by kernel_rfl

theorem weight_arg {H : Type} {ts : List TypeId} {ds : List (DataW H)} (h : (DataW.weightsEach Tryz.prog ts ds).all (· ≤ reachBytes) = true) {j : Nat} {t : TypeId} {d : DataW H} (ht : ts[j]? = some t) (hd : ds[j]? = some d) : ∀ n ∈ d.weights Tryz.prog t, n ≤ reachBytes := by
  intro n hn
  have := List.all_eq_true.1 h n (DataW.weights_mem_each ht hd n hn)
  simpa using this

theorem stk_len {H : Type} {enc : TypeId × Value → H} {W : World} {p : Par} {so : Option Addr} {c : Nat} {d : DataW H} {ps : List MemPlace} (h : DataW.Trod enc Tryz.prog W 0 (fun _ => true) true 24 (parV p so c) d ps) (hw : ∀ n ∈ d.weights Tryz.prog 24, n ≤ reachBytes) : p.stakes.length ≤ 17592186044416 := by
  obtain ⟨fuel, hf⟩ := h
  have hf' : DataW.trod enc Tryz.prog W 0 (fun _ => true) true fuel 24 [.int .i64 p.depth, .int .i64 p.epoch, .int .i64 p.room, .int .i64 p.a, .int .i64 p.b, .int .i64 p.nonce, .slice so p.stakes.length c] = some (d, ps) := hf
  obtain ⟨y0, y1, y2, y3, y4, y5, y6, nn, hx, t0, t1, t2, t3, t4, t5, t6⟩ := trod_struct7 Tryz.underlying24 hf'
  have e2 : Tryz.prog.cellsOf 22 = 1 := by kernel_rfl
  simp only [e2, List.drop_zero, List.drop_succ_cons, List.take_succ_cons, List.take_zero] at t6
  have hx' : d = .agg [y0.1, y1.1, y2.1, y3.1, y4.1, y5.1, y6.1] := hx
  rcases open_ints Tryz.underlying22 Tryz.underlying3 (by kernel_rfl) t6 with ⟨hc, _⟩ | ⟨a, l, c', zs, hc, _, hl, hm, hz, hy, hcell, hwz⟩
  · simp only [List.cons.injEq, Value.slice.injEq, and_true] at hc
    omega
  · simp only [List.cons.injEq, Value.slice.injEq, and_true] at hc
    have hz' : zs.length = c' := by simpa using hz
    have hn := hw ((((lits .i64 (zs.take l) : List (DataW H))).length + ((lits .i64 (zs.drop l) : List (DataW H))).length) * Tryz.prog.bytesOf 3) (by
      rw [hx']
      have hy1 : y6.1 = .slice (lits .i64 (zs.take l)) (lits .i64 (zs.drop l)) := by rw [hy]
      simp only [DataW.weights, Tryz.underlying24]
      refine DataW.weights_mem_each (j := 6) (t := 22) (d := y6.1) rfl rfl _ ?_
      rw [hy1]
      simp [DataW.weights, Tryz.underlying22])
    rw [bytes_int] at hn
    simp only [lits, List.length_map, List.length_take, List.length_drop, reachBytes] at hn
    omega

theorem ops_len {H : Type} {enc : TypeId × Value → H} {W : World} {a : Option Addr} {len cap : Nat} {d : DataW H} {ps : List MemPlace} (h : DataW.Trod enc Tryz.prog W 0 (fun _ => true) true 25 (.slice a len cap) d ps) (hw : ∀ n ∈ d.weights Tryz.prog 25, n ≤ reachBytes) : len ≤ 1300000000000 := by
  obtain ⟨fuel, hf⟩ := h
  rcases Go.Deep.open_slice Tryz.underlying25 hf with ⟨hcs, hx⟩ | ⟨x, l, c, m, n, D, Pl, hcs, _, hl, hmx, hm, hx, hel⟩
  · simp [Value.cells] at hcs
    omega
  · simp [Value.cells] at hcs
    obtain ⟨rfl, rfl, rfl⟩ := hcs
    simp only [Prod.mk.injEq] at hx
    obtain ⟨e, s, hd, he⟩ : ∃ e s, d = .slice e s ∧ e.length = len := ⟨_, _, hx.1, by simp⟩
    have hn := hw ((e.length + s.length) * Tryz.prog.bytesOf 42) (by rw [hd]; simp [DataW.weights, Tryz.underlying25])
    rw [bytes_op, he] at hn
    simp only [reachBytes] at hn
    omega

end Go.Proofs.YtpaakikgfojplaaGreat

/-
  PLAIN MATHEMATICS: a header as bytes.
-/
namespace Go.Proofs.YtpaakikgfojplaaGreat.Tx
theorem snoc_ind {α : Type} {P : List α → Prop} (l : List α) (nil : P []) (app : ∀ l a, P l → P (l ++ [a])) : P l := by
  have h : ∀ m : List α, P m.reverse := by
    intro m
    induction m with
    | nil => exact nil
    | cons a m ih => rw [List.reverse_cons]; exact app _ _ ih
  have := h l.reverse
  rwa [List.reverse_reverse] at this
/-- The k bytes of a number, the greatest first. -/
def dig : Nat → Nat → List UInt8
  | _, 0 => []
  | n, k + 1 => dig (n / 256) k ++ [UInt8.ofNat (n % 256)]
def val (l : List UInt8) : Nat := l.foldl (fun a b => a * 256 + b.toNat) 0
def kind (n : Nat) : Nat := if n < 24 then n else if n < 256 then 24 else if n < 65536 then 25 else if n < 4294967296 then 26 else 27
def sz (f : Nat) : Nat := if f = 24 then 1 else if f = 25 then 2 else if f = 26 then 4 else if f = 27 then 8 else 0
def num (n : Nat) : List UInt8 := UInt8.ofNat (kind n) :: dig n (sz (kind n))

theorem dig_len (n k : Nat) : (dig n k).length = k := by
  induction k generalizing n with
  | zero => rfl
  | succ k ih => simp [dig, ih]
theorem val_snoc (l : List UInt8) (b : UInt8) : val (l ++ [b]) = val l * 256 + b.toNat := by simp [val]
theorem val_dig (n k : Nat) : val (dig n k) = n % 256 ^ k := by
  induction k generalizing n with
  | zero => simp [dig, val, Nat.mod_one]
  | succ k ih =>
    rw [dig, val_snoc, ih]
    have e : (UInt8.ofNat (n % 256)).toNat = n % 256 := by simp
    rw [e, Nat.pow_succ, Nat.mul_comm (256 ^ k) 256, Nat.mod_mul]
    omega
theorem val_lt (l : List UInt8) : val l < 256 ^ l.length := by
  refine snoc_ind (P := fun l => val l < 256 ^ l.length) l (by simp [val]) ?_
  · intro l b ih
    rw [val_snoc, List.length_append, List.length_singleton, Nat.pow_succ]
    have := b.toNat_lt
    omega
theorem dig_val (l : List UInt8) : dig (val l) l.length = l := by
  refine snoc_ind (P := fun l => dig (val l) l.length = l) l rfl ?_
  · intro l b ih
    rw [List.length_append, List.length_singleton, dig, val_snoc]
    have hb := b.toNat_lt
    have e1 : (val l * 256 + b.toNat) / 256 = val l := by omega
    have e2 : (val l * 256 + b.toNat) % 256 = b.toNat := by omega
    rw [e1, e2, ih]
    simp
theorem kind_le (n : Nat) : kind n ≤ 27 := by unfold kind; repeat' split
                                              all_goals omega
theorem kind_byte (n : Nat) : (UInt8.ofNat (kind n)).toNat = kind n := by
  have := kind_le n
  simp
  omega
theorem kind_fit {n : Nat} (h : n < 9223372036854775808) (hs : sz (kind n) ≠ 0) : n < 256 ^ sz (kind n) := by
  unfold kind at hs ⊢
  by_cases h1 : n < 24
  · rw [if_pos h1] at hs
    exfalso
    revert hs
    unfold sz
    repeat' split
    all_goals omega
  · rw [if_neg h1] at hs ⊢
    by_cases h2 : n < 256
    · rw [if_pos h2]; simpa [sz] using h2
    · rw [if_neg h2]
      by_cases h3 : n < 65536
      · rw [if_pos h3]; simpa [sz] using h3
      · rw [if_neg h3]
        by_cases h4 : n < 4294967296
        · rw [if_pos h4]; simpa [sz] using h4
        · rw [if_neg h4]; simp [sz]; omega
theorem kind_small {n : Nat} (hs : sz (kind n) = 0) : kind n = n := by
  unfold kind at hs ⊢
  by_cases h1 : n < 24
  · rw [if_pos h1]
  · rw [if_neg h1] at hs
    exfalso
    revert hs
    split
    · simp [sz]
    · split
      · simp [sz]
      · split <;> simp [sz]

/-- One number is read. -/
def rd (t : List UInt8) : Option (Nat × List UInt8) :=
  match t with
  | [] => none
  | b :: r =>
    if 27 < b.toNat ∨ r.length < sz b.toNat then none
    else if sz b.toNat = 8 ∧ 128 ≤ (r.getD 0 0).toNat then none
    else
      let n := if sz b.toNat = 0 then b.toNat else val (r.take (sz b.toNat))
      if kind n ≠ b.toNat then none else some (n, r.drop (sz b.toNat))

theorem val_cons (b : UInt8) (l : List UInt8) : val (b :: l) = b.toNat * 256 ^ l.length + val l := by
  have : ∀ (l : List UInt8) (a : Nat), l.foldl (fun a b => a * 256 + b.toNat) a = a * 256 ^ l.length + val l := by
    intro l
    induction l with
    | nil => intro a; simp [val]
    | cons c l ih =>
      intro a
      unfold val
      rw [List.foldl_cons, List.foldl_cons, ih, ih, List.length_cons, Nat.pow_succ]
      rw [Nat.add_mul, Nat.zero_mul, Nat.zero_add]
      have : a * 256 * 256 ^ l.length = a * (256 ^ l.length * 256) := by rw [Nat.mul_assoc, Nat.mul_comm 256]
      omega
  unfold val
  rw [List.foldl_cons, this, Nat.zero_mul, Nat.zero_add]
  rfl

theorem rd_num (n : Nat) (h : n < 9223372036854775808) (r : List UInt8) : rd (num n ++ r) = some (n, r) := by
  unfold num
  rw [List.cons_append]
  unfold rd
  simp only [kind_byte]
  rw [if_neg (by have := kind_le n; rw [List.length_append, dig_len]; omega)]
  have htake : (dig n (sz (kind n)) ++ r).take (sz (kind n)) = dig n (sz (kind n)) := by
    rw [List.take_append_of_le_length (by rw [dig_len]; omega), List.take_of_length_le (by rw [dig_len]; omega)]
  have hdrop : (dig n (sz (kind n)) ++ r).drop (sz (kind n)) = r := by
    have := List.drop_append_of_le_length (l₁ := dig n (sz (kind n))) (l₂ := r) (i := sz (kind n)) (by rw [dig_len]; omega)
    rw [this, List.drop_of_length_le (by rw [dig_len]; omega)]
    rfl
  rw [if_neg (by
    rintro ⟨h8, hb⟩
    have hd := dig_len n 8
    rw [h8] at hb
    have hv := val_dig n 8
    match hm : dig n 8, hd with
    | c :: l, hl =>
      rw [hm] at hb hv
      rw [val_cons] at hv
      simp at hb hl
      rw [hl, Nat.mod_eq_of_lt (by omega)] at hv
      have : 128 * 256 ^ 7 ≤ c.toNat * 256 ^ 7 := Nat.mul_le_mul_right _ hb
      have : (128 * 256 ^ 7 : Nat) = 9223372036854775808 := by decide
      omega)]
  rw [htake, hdrop, val_dig]
  have e : (if sz (kind n) = 0 then kind n else n % 256 ^ sz (kind n)) = n := by
    split
    · rename_i hs; exact kind_small hs
    · rename_i hs; exact Nat.mod_eq_of_lt (kind_fit h hs)
  rw [e]
  simp

theorem rd_some {t r : List UInt8} {n : Nat} (h : rd t = some (n, r)) : t = num n ++ r ∧ n < 9223372036854775808 := by
  match t, h with
  | b :: q, h =>
    unfold rd at h
    simp only at h
    split at h
    · simp at h
    rename_i h1
    split at h
    · simp at h
    rename_i h2
    by_cases h3 : kind (if sz b.toNat = 0 then b.toNat else val (q.take (sz b.toNat))) ≠ b.toNat
    · rw [if_pos h3] at h; simp at h
    rw [if_neg h3] at h
    have h3' : kind (if sz b.toNat = 0 then b.toNat else val (q.take (sz b.toNat))) = b.toNat := Classical.not_not.1 h3
    simp only [Option.some.injEq, Prod.mk.injEq] at h
    obtain ⟨hn, hr⟩ := h
    rw [hn] at h3'
    subst hr
    have hl : (q.take (sz b.toNat)).length = sz b.toNat := by simp; omega
    have hbb : UInt8.ofNat (kind n) = b := by rw [h3']; simp
    constructor
    · unfold num
      rw [hbb, h3', List.cons_append]
      congr 1
      have : dig n (sz b.toNat) = q.take (sz b.toNat) := by
        by_cases hs : sz b.toNat = 0
        · rw [hs]; simp [dig]
        · rw [if_neg hs] at hn
          rw [← hn]
          have := dig_val (q.take (sz b.toNat))
          rwa [hl] at this
      rw [this, List.take_append_drop]
    · by_cases hs : sz b.toNat = 0
      · rw [if_pos hs] at hn
        have := b.toNat_lt
        omega
      · rw [if_neg hs] at hn
        rw [← hn]
        by_cases h8 : sz b.toNat = 8
        · have hq : ¬ 128 ≤ (q.getD 0 0).toNat := fun e => h2 ⟨h8, e⟩
          rw [h8] at hl ⊢
          match q, hl with
          | c :: q, hl =>
            simp at hl hq
            rw [List.take_succ_cons, val_cons]
            have h7 : (q.take 7).length = 7 := by simp; omega
            have := val_lt (q.take 7)
            rw [h7] at this ⊢
            have h9 : c.toNat * 256 ^ 7 ≤ 127 * 256 ^ 7 := Nat.mul_le_mul_right _ (by omega)
            have : (127 * 256 ^ 7 : Nat) + 256 ^ 7 = 9223372036854775808 := by decide
            omega
        · have hv := val_lt (q.take (sz b.toNat))
          rw [hl] at hv
          have hs4 : sz b.toNat ≤ 4 := by
            revert h8
            unfold sz
            repeat' split
            all_goals omega
          have : 256 ^ sz b.toNat ≤ 256 ^ 4 := Nat.pow_le_pow_right (by decide) hs4
          have : (256 ^ 4 : Nat) = 4294967296 := by decide
          omega
/-- k numbers, one behind the other. -/
def rds : Nat → List UInt8 → Option (List Nat × List UInt8)
  | 0, t => some ([], t)
  | k + 1, t => match rds k t with
    | none => none
    | some (l, r) => match rd r with
      | none => none
      | some (n, r') => some (l ++ [n], r')
def nums (l : List Nat) : List UInt8 := l.flatMap num
theorem nums_snoc (l : List Nat) (n : Nat) : nums (l ++ [n]) = nums l ++ num n := by simp [nums]
theorem rds_some {k : Nat} {t r : List UInt8} {l : List Nat} (h : rds k t = some (l, r)) : t = nums l ++ r ∧ l.length = k ∧ ∀ n ∈ l, n < 9223372036854775808 := by
  induction k generalizing r l with
  | zero =>
    simp [rds] at h
    obtain ⟨rfl, rfl⟩ := h
    simp [nums]
  | succ k ih =>
    rw [rds] at h
    split at h
    · simp at h
    rename_i l1 r1 h1
    split at h
    · simp at h
    rename_i n r2 h2
    simp only [Option.some.injEq, Prod.mk.injEq] at h
    obtain ⟨rfl, rfl⟩ := h
    obtain ⟨e1, e2, e3⟩ := ih h1
    obtain ⟨e4, e5⟩ := rd_some h2
    refine ⟨?_, by simp [e2], ?_⟩
    · rw [e1, e4, nums_snoc, List.append_assoc]
    · intro m hm
      rcases List.mem_append.1 hm with h | h
      · exact e3 m h
      · simp at h; subst h; exact e5
theorem rds_nums (l : List Nat) (r : List UInt8) (h : ∀ n ∈ l, n < 9223372036854775808) : rds l.length (nums l ++ r) = some (l, r) := by
  revert r h
  refine snoc_ind (P := fun l => ∀ (r : List UInt8), (∀ n ∈ l, n < 9223372036854775808) → rds l.length (nums l ++ r) = some (l, r)) l (fun r _ => rfl) ?_
  · intro l n ih r h
    rw [List.length_append, List.length_singleton, rds, nums_snoc, List.append_assoc, ih (num n ++ r) (fun m hm => h m (by simp [hm]))]
    simp only
    rw [rd_num n (h n (by simp))]
/-- The seven numbers of a text. -/
def seven (t : List UInt8) : Option (List Nat) :=
  match t with
  | [] => none
  | b :: r => if b = 135 then (match rds 7 r with | some (l, []) => some l | _ => none) else none
theorem seven_some {t : List UInt8} {l : List Nat} (h : seven t = some l) : t = 135 :: nums l ∧ l.length = 7 ∧ ∀ n ∈ l, n < 9223372036854775808 := by
  unfold seven at h
  split at h
  · simp at h
  rename_i b r
  split at h
  · rename_i hb
    split at h
    · rename_i l1 h1
      simp at h
      subst h
      obtain ⟨e1, e2, e3⟩ := rds_some h1
      subst hb
      exact ⟨by rw [e1]; simp, e2, e3⟩
    · simp at h
  · simp at h
theorem seven_nums {l : List Nat} (hl : l.length = 7) (h : ∀ n ∈ l, n < 9223372036854775808) : seven (135 :: nums l) = some l := by
  unfold seven
  have := rds_nums l [] h
  rw [hl, List.append_nil] at this
  simp [this]
end Go.Proofs.YtpaakikgfojplaaGreat.Tx

/-
  PLAIN MATHEMATICS: a header's text, and the header of a text.
-/
namespace Go.Proofs.YtpaakikgfojplaaGreat.Tx
open Bk
set_option linter.unusedVariables false

def flds (h : Hdr) : List Int := [h.slot, h.pool, h.proof, h.count, h.frm, h.dst, h.amount]
def ofL (l : List Nat) : Hdr := ⟨(l.getD 0 0 : Nat), (l.getD 1 0 : Nat), (l.getD 2 0 : Nat), (l.getD 3 0 : Nat), (l.getD 4 0 : Nat), (l.getD 5 0 : Nat), (l.getD 6 0 : Nat)⟩
/-- Is a number of it below 0? -/
def low (h : Hdr) : Bool := (flds h).any fun x => decide (x < 0)
def enc (h : Hdr) : List UInt8 := 135 :: nums ((flds h).map Int.toNat)
def dec (t : List UInt8) : Option Hdr := (seven t).map ofL
def Fits (h : Hdr) : Prop := ∀ x ∈ flds h, x ≤ 9223372036854775807

theorem low_false {h : Hdr} (hl : low h = false) : 0 ≤ h.slot ∧ 0 ≤ h.pool ∧ 0 ≤ h.proof ∧ 0 ≤ h.count ∧ 0 ≤ h.frm ∧ 0 ≤ h.dst ∧ 0 ≤ h.amount := by
  simp [low, flds] at hl
  omega
theorem ofL_flds {h : Hdr} (hl : low h = false) : ofL ((flds h).map Int.toNat) = h := by
  obtain ⟨h0, h1, h2, h3, h4, h5, h6⟩ := low_false hl
  obtain ⟨a0, a1, a2, a3, a4, a5, a6⟩ := h
  simp [flds, ofL] at *
  omega
theorem seven_list {l : List Nat} (hl : l.length = 7) : (flds (ofL l)).map Int.toNat = l := by
  match l, hl with
  | [a, b, c, d, e, f, g], _ => simp [flds, ofL]
theorem ofL_low (l : List Nat) : low (ofL l) = false := by
  simp [low, flds, ofL]
theorem dec_enc {h : Hdr} (hl : low h = false) (hf : Fits h) : dec (enc h) = some h := by
  unfold dec enc
  rw [seven_nums (by simp [flds])]
  · show some (ofL _) = _
    rw [ofL_flds hl]
  · intro n hn
    rw [List.mem_map] at hn
    obtain ⟨x, hx, rfl⟩ := hn
    have := hf x hx
    omega
theorem dec_some {t : List UInt8} {h : Hdr} (hd : dec t = some h) : t = enc h ∧ low h = false ∧ Fits h := by
  unfold dec at hd
  cases hs : seven t with
  | none => rw [hs] at hd; simp at hd
  | some l =>
    rw [hs] at hd
    simp only [Option.map_some, Option.some.injEq] at hd
    subst hd
    obtain ⟨e1, e2, e3⟩ := seven_some hs
    refine ⟨?_, ofL_low l, ?_⟩
    · unfold enc
      rw [seven_list e2]
      exact e1
    · have hx : ∀ i, l.getD i 0 < 9223372036854775808 := by
        intro i
        by_cases hi : i < l.length
        · rw [List.getD_eq_getElem?_getD, List.getElem?_eq_getElem hi]
          exact e3 _ (List.getElem_mem hi)
        · rw [List.getD_eq_getElem?_getD, List.getElem?_eq_none (by omega)]
          decide
      intro x h
      simp only [flds, ofL, List.mem_cons, List.not_mem_nil, or_false] at h
      have g0 := hx 0
      have g1 := hx 1
      have g2 := hx 2
      have g3 := hx 3
      have g4 := hx 4
      have g5 := hx 5
      have g6 := hx 6
      rcases h with rfl | rfl | rfl | rfl | rfl | rfl | rfl <;> omega
theorem enc_inj {h g : Hdr} (hl : low h = false) (hf : Fits h) (gl : low g = false) (gf : Fits g) (e : enc h = enc g) : h = g := by
  have h1 := dec_enc hl hf
  rw [e, dec_enc gl gf] at h1
  simpa using h1.symm
theorem num_pos (n : Nat) : 1 ≤ (num n).length := by simp [num]
theorem num_le (n : Nat) : (num n).length ≤ 9 := by
  have h : (num n).length = 1 + sz (kind n) := by simp [num, dig_len]; omega
  rw [h]
  unfold sz
  repeat' split
  all_goals omega
theorem nums_le (l : List Nat) : (nums l).length ≤ 9 * l.length := by
  induction l with
  | nil => simp [nums]
  | cons a l ih =>
    have e : nums (a :: l) = num a ++ nums l := by simp [nums]
    rw [e, List.length_append, List.length_cons]
    have := num_le a
    omega
theorem nums_ge (l : List Nat) : l.length ≤ (nums l).length := by
  induction l with
  | nil => simp [nums]
  | cons a l ih =>
    have e : nums (a :: l) = num a ++ nums l := by simp [nums]
    rw [e, List.length_append, List.length_cons]
    have := num_pos a
    omega
theorem enc_len (h : Hdr) : 8 ≤ (enc h).length ∧ (enc h).length ≤ 64 := by
  have h1 := nums_le ((flds h).map Int.toNat)
  have h2 := nums_ge ((flds h).map Int.toNat)
  have h3 : ((flds h).map Int.toNat).length = 7 := by simp [flds]
  unfold enc
  rw [List.length_cons]
  omega
/-- A header's text with one byte more, or one less, is none. -/
theorem dec_more {h : Hdr} (hl : low h = false) (hf : Fits h) (b : UInt8) : dec (enc h ++ [b]) = none := by
  have hr := rds_nums ((flds h).map Int.toNat) [b] (by
    intro n hn
    rw [List.mem_map] at hn
    obtain ⟨x, hx, rfl⟩ := hn
    have := hf x hx
    omega)
  have h3 : ((flds h).map Int.toNat).length = 7 := by simp [flds]
  rw [h3] at hr
  unfold dec enc seven
  simp [hr]
theorem dec_less {h : Hdr} (hl : low h = false) (hf : Fits h) : dec ((enc h).dropLast) = none := by
  cases hd : dec (enc h).dropLast with
  | none => rfl
  | some g =>
    exfalso
    obtain ⟨e, gl, gf⟩ := dec_some hd
    have hne : enc h ≠ [] := by unfold enc; simp
    have e2 := List.dropLast_concat_getLast hne
    rw [e] at e2
    have h1 := dec_more gl gf ((enc h).getLast hne)
    rw [e2, dec_enc hl hf] at h1
    simp at h1
end Go.Proofs.YtpaakikgfojplaaGreat.Tx

/-
  PLAIN MATHEMATICS: peers: what Next, Back and Point answer, and what they leave.
-/
namespace Go.Proofs.YtpaakikgfojplaaGreat.Bk
open Num Tx
set_option linter.unusedVariables false

/-- What a header that comes is told: with ErrTwice the number of the header that is there. -/
def takeId (s : St) (parent : Int) (h : Hdr) : Int := if offerErr s parent h = 10 then ((there s parent h : Nat) : Int) else offerId s parent h
theorem take_no {s : St} {parent : Int} {h : Hdr} (h1 : offerId s parent h = 0) (h2 : offerErr s parent h ≠ 10) : takeId s parent h = 0 := by
  unfold takeId
  rw [if_neg h2, h1]

def peerOk (n : Int) : Bool := decide (0 ≤ n) && decide (n < 4)
def ptAt (s : St) (n : Int) : Nat := s.pts.getD n.toNat 0
def setPt (s : St) (n : Int) (k : Nat) : St := { s with pts := s.pts.set n.toNat k }

theorem inv_setPt {s : St} (hi : Inv s) (n : Int) {k : Nat} (hk : k < s.all.length) : Inv (setPt s n k) := by
  refine ⟨hi.par, hi.tree, hi.len, hi.zero, hi.hdrs, hi.rise, hi.keep, hi.tipin, hi.high, hi.first, hi.full, hi.few, ?_, ?_⟩
  · show (s.pts.set n.toNat k).length = 4
    rw [List.length_set]
    exact hi.pts
  · intro x hx
    rcases List.mem_or_eq_of_mem_set hx with h | h
    · exact hi.ptl x h
    · subst h; exact hk

/-- The error of a header that a peer tells. -/
def toldE (s : St) (n : Int) (h : Hdr) : Int := if offerErr s (ptAt s n : Nat) h = 10 then 0 else offerErr s (ptAt s n : Nat) h
def toldI (s : St) (n : Int) (h : Hdr) : Int := if toldE s n h = 0 then takeId s (ptAt s n : Nat) h else 0
def toldS (s : St) (n : Int) (h : Hdr) : St := if toldE s n h = 0 then setPt (offer s (ptAt s n : Nat) h) n (takeId s (ptAt s n : Nat) h).toNat else s

def nextE (s : St) (n : Int) (t : List UInt8) : Int := if peerOk n = false then 12 else match dec t with | none => 13 | some h => toldE s n h
def nextI (s : St) (n : Int) (t : List UInt8) : Int := if peerOk n = false then 0 else match dec t with | none => 0 | some h => toldI s n h
def nextS (s : St) (n : Int) (t : List UInt8) : St := if peerOk n = false then s else match dec t with | none => s | some h => toldS s n h
def backE (s : St) (n : Int) (id : Int) : Int := if peerOk n = false then 12 else missing s id
def backS (s : St) (n : Int) (id : Int) : St := if backE s n id = 0 then setPt s n id.toNat else s
def pointE (n : Int) : Int := if peerOk n = false then 12 else 0
def pointV (s : St) (n : Int) : Int := if peerOk n = false then 0 else ((ptAt s n : Nat) : Int)

theorem there_lt {s : St} (hi : Inv s) (parent : Int) (h : Hdr) : there s parent h < s.all.length := by
  unfold there
  cases hf : s.keep.find? (fun k => decide (0 < k) && ((pa s.all k : Int) == parent) && eqH (hd s.all k) h) with
  | none => exact hi.len
  | some k => exact ((hi.keep k).1 (List.mem_of_find?_eq_some hf)).1

theorem inv_told {s : St} (hi : Inv s) (n : Int) (h : Hdr) : Inv (toldS s n h) := by
  unfold toldS
  split
  · refine inv_setPt (inv_offer hi _ _) n ?_
    unfold takeId
    rename_i he
    unfold toldE at he
    by_cases h10 : offerErr s (ptAt s n : Nat) h = 10
    · rw [if_pos h10]
      have := there_lt hi (ptAt s n : Nat) h
      have e : offer s (ptAt s n : Nat) h = s := by unfold offer; rw [if_neg (by rw [h10]; decide)]
      rw [e]
      omega
    · rw [if_neg h10] at he ⊢
      unfold offerId offer
      rw [if_pos he, if_pos he]
      simp [taken]
  · exact hi
theorem inv_next {s : St} (hi : Inv s) (n : Int) (t : List UInt8) : Inv (nextS s n t) := by
  unfold nextS
  split
  · exact hi
  · split
    · exact hi
    · exact inv_told hi n _
theorem inv_back {s : St} (hi : Inv s) (n : Int) (id : Int) : Inv (backS s n id) := by
  unfold backS
  split
  · rename_i he
    refine inv_setPt hi n ?_
    unfold backE at he
    split at he
    · omega
    · unfold missing at he
      cases hh : has s.keep id
      · rw [hh] at he
        simp at he
        split at he <;> omega
      · rw [has_iff] at hh
        obtain ⟨k, hk, rfl⟩ := hh
        have := ((hi.keep k).1 hk).1
        omega
  · exact hi
end Go.Proofs.YtpaakikgfojplaaGreat.Bk

