import Derived.Test.YtpaakikgfojplaaCM8
import Derived.Laws.CopyOwn
import Derived.Test.YtpaakikgfojplaaCM7
import Derived.BigRegion
import Derived.Deep.DeepCutAuto
import Derived.Test.YtpaakikgfojplaaCBookWith
/-
  THE WALKS of beaconref: what goes with a header: counts, running, last, stakes.
-/
namespace Go.Proofs.Ytpaakikgfojplaa
open Go.RowKit Num Bk
set_option linter.unusedVariables false

theorem fold_tail {α : Type} (f : α → Nat → α) (a : α) (L : List Nat) (k : Nat) (h1 : 1 ≤ k) (h : k < L.length) : (L.tail.take (k + 1 - 1)).foldl f a = f ((L.tail.take (k - 1)).foldl f a) (L.getD k 0) := by
  obtain ⟨j, rfl⟩ : ∃ j, k = j + 1 := ⟨k - 1, by omega⟩
  cases L with
  | nil => simp at h
  | cons y L =>
    have h' : j < L.length := by simpa using h
    show (L.take (j + 1)).foldl f a = f ((L.take j).foldl f a) ((y :: L).getD (j + 1) 0)
    rw [take_succ_getD L j h', List.foldl_append]
    rfl

theorem fold_tail_end {α : Type} (f : α → Nat → α) (a : α) (L : List Nat) (k : Nat) (h : k = L.length) : (L.tail.take (k - 1)).foldl f a = L.tail.foldl f a := by
  rw [List.take_of_length_le (by simp; omega)]

end Go.Proofs.Ytpaakikgfojplaa

/-
  THE WALKS of beaconref: copied; stakes.
-/
namespace Go.Proofs.Ytpaakikgfojplaa
open Go.RowKit Num Bk
set_option linter.unusedVariables false

theorem icells_one (l : List Int) : ∀ u ∈ icells l, u.oneCell' = true := by
  intro u hu
  obtain ⟨_, _, rfl⟩ := List.mem_map.1 hu
  rfl

theorem Try.size3 : (Try.prog.info? 3).map (·.size) = some 1 := by kernel_rfl

/-- A row that is known whole, owned whole. -/
theorem own_whole {w : World} {base g : Nat} {e : TypeId} {xs : List Value} {arr : Array Value} (h : w.heap[g]? = some (.cells arr e (0, 0))) (hb : base ≤ g) (ha : arr.toList = xs) (hm : xs.length ≤ maxLen) :
    w.ownsRow base e 1 (.slice (some ⟨g, 0, none⟩) xs.length xs.length) xs.length xs := by
  refine ⟨by omega, Or.inr ⟨g, xs.length, arr, rfl, hb, h, Nat.le_refl _, hm, ?_, ?_⟩⟩
  · rw [← ha]; simp
  · rw [ha]; simp

end Go.Proofs.Ytpaakikgfojplaa

/-
  THE WALKS of beaconref: Stake, Count, Draw, Turn.
-/
namespace Go.Proofs.Ytpaakikgfojplaa
open Go.RowKit Num Bk
set_option linter.unusedVariables false

theorem missing_vals (s : St) (id : Int) : missing s id = 0 ∨ missing s id = 2 ∨ missing s id = 3 := by
  unfold missing; split
  · exact Or.inl rfl
  · split
    · exact Or.inr (Or.inl rfl)
    · exact Or.inr (Or.inr rfl)

/-- What Stake and Count answer. -/
def askErr (s : St) (id pool : Int) : Int := if missing s id ≠ 0 then missing s id else if poolOk s pool = false then 5 else 0
def stakeV (s : St) (id pool : Int) : Int := if askErr s id pool = 0 then (stakesAt s.par s.all id.toNat).getD pool.toNat 0 else 0
def countV (s : St) (id pool : Int) : Int := if askErr s id pool = 0 then countAt s.all pool id.toNat else 0

set_option maxHeartbeats 400000 in
theorem refdraw_any (nonce slot pool : Int) (w : World) (h1 : 0 ≤ nonce) (h2 : nonce < 65521) (h3 : 0 ≤ slot) (h4 : slot ≤ 10000) (h5 : 0 ≤ pool) (h6 : pool < 6) :
    Calls Try.prog 15 #[.int .i64 nonce, .int .i64 slot, .int .i64 pool] w fun e w' => e = .returned (.tuple #[.int .i64 (drawN nonce slot pool), .int .i64 0]) ∧ w = w' := by
  have HD := Go.Proofs.Ytpaakikgfojplaa.hid (show drawN nonce slot pool = ((nonce * 4099 + slot * 769 + pool * 97 + 12345) % 65521 * ((nonce * 4099 + slot * 769 + pool * 97 + 12345) % 65521)) % 65521 % 1024 from rfl)
  have hb1 := Int.emod_nonneg (nonce * 4099 + slot * 769 + pool * 97 + 12345) (show (65521 : Int) ≠ 0 by omega)
  have hb2 := Int.emod_lt_of_pos (nonce * 4099 + slot * 769 + pool * 97 + 12345) (show (0 : Int) < 65521 by omega)
  have hb3 : 0 ≤ (nonce * 4099 + slot * 769 + pool * 97 + 12345) % 65521 * ((nonce * 4099 + slot * 769 + pool * 97 + 12345) % 65521) := Int.mul_nonneg hb1 hb1
  have hb4 : (nonce * 4099 + slot * 769 + pool * 97 + 12345) % 65521 * ((nonce * 4099 + slot * 769 + pool * 97 + 12345) % 65521) ≤ 65520 * 65520 := Int.mul_le_mul (by omega) (by omega) hb1 (by omega)
  go_enter Try.func15, Try.ntmps15
  go_wp2
  go_ret2
  exact ⟨by rw [HD.out]; rfl, rfl⟩

theorem ref_int (p s t a b : Int) (w : World) (h0 : 0 ≤ p) (h1 : p ≤ 1023) (h2 : 1 ≤ t) (h3 : t ≤ 240) (h4 : 0 ≤ s) (h5 : s ≤ t) (h6 : b ≤ 20) (h7 : 1 ≤ a) (h8 : a < b) :
    Calls Try.prog 13 #[.int .i64 p, .int .i64 s, .int .i64 t, .int .i64 a, .int .i64 b] w fun e w' => e = .returned (.tuple #[.bool (leads p.toNat s.toNat t.toNat a.toNat b.toNat), .int .i64 0]) ∧ Below w.heap.size w w' := by
  obtain ⟨p, rfl⟩ := Int.eq_ofNat_of_zero_le h0
  obtain ⟨s, rfl⟩ := Int.eq_ofNat_of_zero_le h4
  obtain ⟨t, rfl⟩ := Int.eq_ofNat_of_zero_le (show 0 ≤ t by omega)
  obtain ⟨a, rfl⟩ := Int.eq_ofNat_of_zero_le (show 0 ≤ a by omega)
  obtain ⟨b, rfl⟩ := Int.eq_ofNat_of_zero_le (show 0 ≤ b by omega)
  simp only [Int.toNat_natCast]
  exact ref_yes p s t a b w (by omega) (by omega) (by omega) (by omega) (by omega) (by omega) (by omega)


def turnV (s : St) (id slot pool : Int) : Value :=
  if turnErr s id slot pool = 0 then .agg #[.int .i64 (nonceAt s id.toNat slot), .int .i64 (proofAt s id.toNat slot pool), .int .i64 (stakeAt s id.toNat slot pool), .bool (leadsAt s id.toNat slot pool)]
  else .agg #[.int .i64 0, .int .i64 0, .int .i64 0, .bool false]

theorem sum_take (l : List Int) (k : Nat) (h : k < l.length) : (l.take (k + 1)).sum = (l.take k).sum + l.getD k 0 := by
  rw [List.take_succ_eq_append_getElem h, List.sum_append]
  simp [List.getD, h]

theorem sum_take_le (l : List Int) (h : ∀ x ∈ l, 0 ≤ x) (k : Nat) : 0 ≤ (l.take k).sum ∧ (l.take k).sum ≤ l.sum := by
  have e : l.sum = (l.take k).sum + (l.drop k).sum := by rw [← List.sum_append, List.take_append_drop]
  have h1 := le_sum (l.take k) (fun x hx => h x (List.mem_of_mem_take hx)) (l.take k).length
  have h2 := le_sum (l.drop k) (fun x hx => h x (List.mem_of_mem_drop hx)) (l.drop k).length
  simp [List.getD] at h1 h2
  omega

end Go.Proofs.Ytpaakikgfojplaa

/-
  THE WALKS of beaconref: Turn (whole), there, refused.
-/
namespace Go.Proofs.Ytpaakikgfojplaa
open Go.RowKit Num Bk
set_option linter.unusedVariables false

theorem below_zero {w A : World} {cs : Array Value} {t : TypeId} (hA : w.alloc (.cells cs t) = A) : A.heap.size = w.heap.size + 1 ∧ Below w.heap.size w A ∧ A.heap[w.heap.size]? = some (.cells cs t (0, 0)) := by
  subst hA
  exact ⟨by simp, (Below.refl _ _).alloc (Nat.le_refl _) _, heap_alloc_new w _⟩

theorem turn_ok {s : St} (hv : Inv s) {id slot pool : Int} (he : turnErr s id slot pool = 0) : ∃ k pN : Nat, id = (k : Int) ∧ pool = (pN : Int) ∧ k ∈ s.keep ∧ missing s id = 0 ∧ slotOk s k slot = true ∧ pN < s.par.stakes.length := by
  unfold turnErr at he
  by_cases hm : missing s id = 0
  · rw [if_neg (by simpa using hm)] at he
    obtain ⟨k, hk, rfl⟩ := missing_zero hm
    rw [Int.toNat_natCast] at he
    cases hs : slotOk s k slot
    · rw [if_pos hs] at he; omega
    · rw [if_neg (by simp [hs])] at he
      cases hp : poolOk s pool
      · rw [if_pos hp] at he; omega
      · simp [poolOk] at hp
        obtain ⟨pN, rfl⟩ := Int.eq_ofNat_of_zero_le hp.1
        exact ⟨k, pN, rfl, rfl, hk, hm, hs, by omega⟩
  · rw [if_pos (by simpa using hm)] at he; omega

end Go.Proofs.Ytpaakikgfojplaa

/-
  Two headers compared, as one operation.
-/
namespace Go.Proofs.Ytpaakikgfojplaa
open Go.RowKit Num Bk

theorem run_eql_hdr (w : World) (b0 b1 b2 b3 b4 b5 b6 a0 a1 a2 a3 a4 a5 a6 : Int) :
    (binOp .eql 30 (.agg #[.int .i64 b0, .int .i64 b1, .int .i64 b2, .int .i64 b3, .int .i64 b4, .int .i64 b5, .int .i64 b6]) (.agg #[.int .i64 a0, .int .i64 a1, .int .i64 a2, .int .i64 a3, .int .i64 a4, .int .i64 a5, .int .i64 a6])).run Try.prog w =
      .ok (.bool (eqH ⟨b0, b1, b2, b3, b4, b5, b6⟩ ⟨a0, a1, a2, a3, a4, a5, a6⟩)) w := by
  go_simp
  unfold eqH
  (repeat' split) <;> simp_all
end Go.Proofs.Ytpaakikgfojplaa

/-
  THE WALKS of beaconref: there.
-/
namespace Go.Proofs.Ytpaakikgfojplaa
open Go.RowKit Num Bk
set_option linter.unusedVariables false
attribute [local go_sem ↓] run_eql_hdr

def hdrV (h : Hdr) : Value := .agg #[.int .i64 h.slot, .int .i64 h.pool, .int .i64 h.proof, .int .i64 h.count, .int .i64 h.frm, .int .i64 h.dst, .int .i64 h.amount]

/-- Is k the header with this parent that is the same in all? -/
def isIt (s : St) (parent : Int) (h : Hdr) (k : Nat) : Bool := decide (0 < k) && ((pa s.all k : Int) == parent) && eqH (hd s.all k) h

theorem there_eq (s : St) (parent : Int) (h : Hdr) : there s parent h = (s.keep.find? (isIt s parent h)).getD 0 := rfl

theorem find_take (P : Nat → Bool) (l : List Nat) (k : Nat) (h : k < l.length) : (l.take (k + 1)).find? P = (((l.take k).find? P).or (if P (l.getD k 0) then some (l.getD k 0) else none)) := by
  rw [take_succ_getD l k h, List.find?_append]
  simp only [List.find?_cons, List.find?_nil]
  cases P (l.getD k 0) <;> rfl

theorem find_some_take (P : Nat → Bool) (l : List Nat) (k v : Nat) (h : (l.take k).find? P = some v) : l.find? P = some v := by
  have e : l = l.take k ++ l.drop k := (List.take_append_drop k l).symm
  rw [e, List.find?_append, h]; rfl

end Go.Proofs.Ytpaakikgfojplaa

/-
  THE WALKS of beaconref: refused.
-/
namespace Go.Proofs.Ytpaakikgfojplaa
open Go.RowKit Num Bk
set_option linter.unusedVariables false

end Go.Proofs.Ytpaakikgfojplaa

/-
  THE WALKS of beaconref: Offer.
-/
namespace Go.Proofs.Ytpaakikgfojplaa
open Go.RowKit Num Bk
set_option linter.unusedVariables false
attribute [local go_sem ↓] Go.wp_at_zero Go.wp_at_succ

end Go.Proofs.Ytpaakikgfojplaa

/-
  THE WALKS of the statements' book: running, there, wanted, came.
-/
namespace Go.Proofs.Ytpaakikgfojplaa
open Go.RowKit Num Bk
set_option linter.unusedVariables false

set_option maxHeartbeats 3200000 in
set_option maxRecDepth 1000000 in
theorem brunning_any (b xc gs cs ga ca : Nat) (s : St) (id : Nat) (w : World) (hr : BookAt w b xc gs cs ga ca s) (hv : Inv s) (hl : id < s.all.length) :
    Calls Try.prog 29 #[.pointer (some ⟨b, 0, none⟩), .int .i64 (id : Int)] w fun e w' => e = .returned (.int .i64 (runAt s.par s.all id)) ∧ Below w.heap.size w w' := by
  have hi := hv.wk
  have hh := hi.hs id hl
  have hll : (line s.all id).reverse.length = height s.all id + 1 := by rw [List.length_reverse, line_length hi.tree]
  have hsm := hi.small
  have e1 := hv.par.e1
  have e2 := hv.par.e2
  have HPA : Hid (∀ i, i < height s.all id → pa s.all ((line s.all id).reverse.getD i 0) = (line s.all id).reverse.getD (i + 1) 0 ∧ 0 < (line s.all id).reverse.getD i 0) := fun i h => rev_pa hi.tree id i h
  have HLT : Hid (∀ i, i ≤ height s.all id → (line s.all id).reverse.getD i 0 < s.all.length) := fun i h => by have := rev_le hi.tree id i h; omega
  have HR0 := Go.Proofs.Ytpaakikgfojplaa.hid (rev_zero hi.tree id)
  have HRE := Go.Proofs.Ytpaakikgfojplaa.hid (rev_end hi.tree id)
  have HTR := Go.Proofs.Ytpaakikgfojplaa.hid hi.tree
  have HV := Go.Proofs.Ytpaakikgfojplaa.hid hv
  go_enter Try.func29, Try.ntmps29
  go_wp2_with fail
  refine (bline_any b xc gs cs ga ca s id _ hr hi hl).mono ?_
  rintro e w1 ⟨g, cap, rfl, ho, hb⟩
  have hr1 := hr.keep hb
  have HLL := Go.Proofs.Ytpaakikgfojplaa.hid hll
  have hRb : (line s.all id).reverse.length ≤ 20001 := by omega
  have hRp : 1 ≤ (line s.all id).reverse.length := by omega
  clear hr hll hv
  generalize (line s.all id).reverse = R at *
  generalize height s.all id = ht at *
  have hgl := own_lt ho
  have c6 := cell_of_cells (j := 6) hr1.blk rfl
  have hnb := HV.out.par
  have n1 := hnb.n1
  have n2 := hnb.n2
  clear hnb
  have hRL : R.length = ht + 1 := HLL.out
  rw [hRL]
  have hht : ht ≤ 20000 := by omega
  clear hRL
  go_wp2
  clear c6
  go_loopw [6, 7] (fun n i wr => ∃ (j : Nat) (m : Int), j ≤ ht ∧ i = .int .i64 ((j : Int) - 1) ∧ n = .int .i64 m ∧ 0 ≤ m ∧ m < 65521 ∧ Hid (m = runAt s.par s.all (R.getD j 0)) ∧ Below w1.heap.size w1 wr)
    (fun _ i _ => (intOf i + 1).toNat)
  case atStart => exact ⟨ht, s.par.nonce, Nat.le_refl _, by go_num, rfl, n1, n2, by unfold Hid; rw [HRE.out, runAt_zero], Below.refl _ _⟩
  case round =>
    obtain ⟨j, m, hj, rfl, rfl, hm0, hm1, HM, hbel⟩ := hrel
    have hr2 := hr1.keep hbel
    have hsz := hbel.size
    rcases Nat.eq_zero_or_pos j with hj0 | hj0
    · subst hj0
      have HE := Go.Proofs.Ytpaakikgfojplaa.hid (show m = runAt s.par s.all id by rw [HM.out, HR0.out])
      have HB := Go.Proofs.Ytpaakikgfojplaa.hid (hb.trans (hbel.mono hb.size))
      clear HM hr2 hbel
      go_wp2
      go_ret
      exact ⟨by rw [← HE.out]; rfl, HB.out⟩
    · obtain ⟨k, rfl⟩ : ∃ k, j = k + 1 := ⟨j - 1, by omega⟩
      rw [show (((k + 1 : Nat) : Int) - 1) = (k : Int) from by omega]
      have cE := cell_of_cells (j := 2) hr2.blk rfl
      have hkh : k < ht := by omega
      have hRLb := HLL.out
      have c1 := ((row_keep ho hbel (Nat.le_refl _)).cellAt k (by omega)).trans (dcells_at R k (by omega))
      have c8 := cell_of_cells (j := 8) hr2.blk rfl
      have hbl := lt_of_block hr2.blk
      have hpa := HPA.out k hkh
      have hdl := HLT.out k (by omega)
      have hpl := HLT.out (k + 1) (by omega)
      have hc := hr2.hdr_at hdl
      have hok := HV.out.hdrs _ hpa.2 hdl
      have hst := runAt_step s.par HTR.out hpa.2
      rw [hpa.1, ← HM.out] at hst
      have HST := Go.Proofs.Ytpaakikgfojplaa.hid hst
      have hsl := slot_bounds HV.out hdl
      have hpf0 := hok.proof0
      have hpf1 := hok.proof1
      clear hst HM hok
      generalize hDD : R.getD k 0 = d at *
      have HDD := Go.Proofs.Ytpaakikgfojplaa.hid hDD
      clear hDD
      generalize hDP : R.getD (k + 1) 0 = dp at *
      have HDP := Go.Proofs.Ytpaakikgfojplaa.hid hDP
      clear hDP
      have i1 : (0 : Int) ≤ (k : Int) := by omega
      have i2 : (k : Int) < ((R.length : Nat) : Int) := by omega
      have i3 : (0 : Int) ≤ (d : Int) := by omega
      have i4 : (d : Int) < ((s.all.length : Nat) : Int) := by omega
      have h0 := hc.c0
      have h1 := hc.c1
      have h2 := hc.c2
      have h3 := hc.c3
      have h4 := hc.c4
      have h5 := hc.c5
      have h6 := hc.c6
      clear hRLb i2
      have i2 : (k : Int) < ((ht : Nat) : Int) + 1 := by omega
      generalize hd s.all d = H at *
      clear hc hr2 hpa
      have hz : (s.par.epoch == 0) = false := by rw [beq_eq_false_iff_ne]; omega
      have hm2 := Int.emod_nonneg H.slot (show s.par.epoch ≠ 0 by omega)
      have hm3 := Int.emod_lt_of_pos H.slot (show 0 < s.par.epoch by omega)
      have hm4 : H.slot.tmod s.par.epoch = H.slot % s.par.epoch := Int.tmod_eq_emod_of_nonneg hsl.1
      have hm5 : 0 ≤ (m * 257 + H.proof + 1) % 65521 := Int.emod_nonneg _ (by omega)
      have hm6 : (m * 257 + H.proof + 1) % 65521 < 65521 := Int.emod_lt_of_pos _ (by omega)
      go_wp2
      go_region_held3 (fun w' => w'.cell? ⟨b, 8, none⟩ = some (.slice (some ⟨ga, 0, none⟩) s.all.length ca) ∧ w'.cell? ⟨g, k, none⟩ = some (.int .i64 (d : Int)) ∧ w'.cell? ⟨ga, d * 8, none⟩ = some (.int .i64 H.slot) ∧ w'.cell? ⟨ga, d * 8 + 1, none⟩ = some (.int .i64 H.pool) ∧ w'.cell? ⟨ga, d * 8 + 2, none⟩ = some (.int .i64 H.proof) ∧ w'.cell? ⟨ga, d * 8 + 3, none⟩ = some (.int .i64 H.count) ∧ w'.cell? ⟨ga, d * 8 + 4, none⟩ = some (.int .i64 H.frm) ∧ w'.cell? ⟨ga, d * 8 + 5, none⟩ = some (.int .i64 H.dst) ∧ w'.cell? ⟨ga, d * 8 + 6, none⟩ = some (.int .i64 H.amount)) (go_keep) (fail)
      by_cases hp : H.slot % s.par.epoch * 3 < 2 * s.par.epoch
      · have HE := Go.Proofs.Ytpaakikgfojplaa.hid (show runAt s.par s.all d = (m * 257 + H.proof + 1) % 65521 by rw [HST.out]; unfold runS; rw [if_pos (by omega)])
        go_wp2
        go_quiet (fail)
        go_wp2
        go_roundw
        case rel => exact ⟨k, (m * 257 + H.proof + 1) % 65521, by omega, by go_num, rfl, hm5, hm6, by unfold Hid; rw [HDD.out, HE.out], drawB (hbel.alloc hsz _) _⟩
        case measure => simp [intOf]
      · have HE := Go.Proofs.Ytpaakikgfojplaa.hid (show runAt s.par s.all d = m by rw [HST.out]; unfold runS; rw [if_neg (by omega)])
        go_wp2
        go_quiet (fail)
        go_wp2
        go_roundw
        case rel => exact ⟨k, m, by omega, by go_num, rfl, hm0, hm1, by unfold Hid; rw [HDD.out, HE.out], drawB (hbel.alloc hsz _) _⟩
        case measure => simp [intOf]

end Go.Proofs.Ytpaakikgfojplaa

