import Derived.Test.YtpaakikgfojplabCBookStep
import Derived.Test.YtpaakikgfojplabCNd
import Derived.Test.YtpaakikgfojplabCM18
/-
  MATHEMATICS: the path as the program tells it; what a step does to the tip, to what is final, and to the chosen line.
-/
namespace Go.Proofs.Ytpaakikgfojplab
open Go.RowKit Num Bk
set_option linter.unusedVariables false

namespace Bk

/-- The number of the parent as the program keeps it. -/
def parI (all : List Itm) (k : Nat) : Int := if k = 0 then -1 else pa all k

/-- A walk down a list of falling numbers, from one parent to the next. -/
def downK (all : List Itm) : List Nat → Int → List Nat
  | [], _ => []
  | k :: r, at' => if (k : Int) = at' then k :: downK all r (parI all k) else downK all r at'

theorem downK_none (all : List Itm) : ∀ (l : List Nat) (q : Int), (∀ k ∈ l, (k : Int) ≠ q) → downK all l q = [] := by
  intro l
  induction l with
  | nil => intro q _; rfl
  | cons k r ih =>
    intro q h
    rw [downK, if_neg (h k (by simp))]
    exact ih q (fun j hj => h j (by simp [hj]))

theorem line_drop_step {all : List Itm} (ht : Tree all) {t : Nat} (h0 : 0 < t) {n : Nat} (hn : n ≤ height all (pa all t) + 1) : (line all t).drop n = (line all (pa all t)).drop n ++ [t] := by
  rw [line_step ht h0, List.drop_append_of_le_length (by rw [line_length ht]; exact hn)]

theorem down_line {all : List Itm} (ht : Tree all) (f : Nat) (K : List Nat) (hK : ∀ i, f ∈ line all i → (∃ j ∈ K, i ∈ line all j) → i ∈ K) (hf : ∀ i ∈ K, f ∈ line all i) :
    ∀ (r : List Nat), (∀ j ∈ r, j ∈ K) → (r.Pairwise (· > ·)) → (∀ i ∈ K, ∀ j ∈ r, i < j → i ∈ r) → ∀ t ∈ r, downK all r (t : Int) = ((line all t).drop (height all f)).reverse := by
  intro r
  induction r with
  | nil => intro _ _ _ t h; simp at h
  | cons k r ih =>
    intro hsub hp hdn t ht'
    rw [List.pairwise_cons] at hp
    have hsub' : ∀ j ∈ r, j ∈ K := fun j hj => hsub j (by simp [hj])
    have hdn' : ∀ i ∈ K, ∀ j ∈ r, i < j → i ∈ r := by
      intro i hi j hj hij
      have := hdn i hi j (by simp [hj]) hij
      rcases List.mem_cons.1 this with h | h
      · subst h
        have := hp.1 j hj
        omega
      · exact h
    rcases List.mem_cons.1 ht' with e | e
    · subst e
      rw [downK, if_pos rfl]
      have hft := hf t (hsub t (by simp))
      by_cases h0 : t = 0
      · subst h0
        rw [line_zero] at hft
        simp at hft
        subst hft
        rw [height_zero, line_zero, List.drop_zero]
        rw [downK_none all r (parI all 0) (by intro j hj; simp [parI])]
        rfl
      · have h0' : 0 < t := by omega
        have hpt := ht t h0'
        have hpar : parI all t = ((pa all t : Nat) : Int) := by unfold parI; rw [if_neg h0]
        rw [hpar]
        by_cases hft' : f = t
        · subst hft'
          have hl := line_length ht f
          have hh := height_step ht h0'
          have hd : (line all f).drop (height all f) = [f] := by
            rw [line_drop_step ht h0' (by omega), List.drop_eq_nil_of_le (by rw [line_length ht]; omega)]
            rfl
          rw [hd]
          rw [downK_none all r _ (by
            intro j hj e
            have hfj := hf j (hsub' j hj)
            have := line_le ht _ _ hfj
            have := hp.1 j hj
            omega)]
          rfl
        · have hfp : f ∈ line all (pa all t) := by
            rw [line_step ht h0', List.mem_append] at hft
            rcases hft with h | h
            · exact h
            · simp at h; exact absurd h hft'
          have hpk : pa all t ∈ K := hK _ hfp ⟨t, hsub t (by simp), by rw [line_step ht h0']; simp [line_self ht]⟩
          have hpr : pa all t ∈ r := by
            have := hdn _ hpk t (by simp) hpt
            rcases List.mem_cons.1 this with h | h
            · omega
            · exact h
          rw [ih hsub' hp.2 hdn' _ hpr, line_drop_step ht h0' (by have := height_mem ht hfp; omega), List.reverse_append]
          rfl
    · have hne : (k : Int) ≠ (t : Int) := by
        have := hp.1 t e
        omega
      rw [downK, if_neg hne]
      exact ih hsub' hp.2 hdn' t e

/-- What is past, and the walk down turned round: the tip's line. -/
theorem path_line {s : St} (hi : Inv s) : (line s.all (fin s)).dropLast ++ (downK s.all s.keep.reverse (tip s : Int)).reverse = line s.all (tip s) := by
  have ht := hi.tree
  have hf := (hi.keep (tip s)).1 hi.tipin
  have hd := down_line ht (fin s) s.keep (by
    rintro i h1 ⟨j, hj, h2⟩
    have := line_le ht _ _ h2
    have := inv_lt hi hj
    exact (hi.keep i).2 ⟨by omega, h1⟩) (fun i h => ((hi.keep i).1 h).2) s.keep.reverse (by intro j hj; simpa using hj) (by
      rw [List.pairwise_reverse]; exact hi.rise) (by intro i h1 j h2 h3; simpa using h1) (tip s) (by simpa using hi.tipin)
  have e : (line s.all (fin s)).dropLast = (line s.all (tip s)).take (height s.all (fin s)) := by
    rw [List.dropLast_eq_take, line_length ht, Nat.add_sub_cancel, line_prefix ht _ _ hf.2, List.take_take, Nat.min_eq_left (by omega)]
  rw [hd, List.reverse_reverse, e, List.take_append_drop]

/-! ### A step -/

structure Grow (s s' : St) : Prop where
  inv : Inv s'
  par : s'.par = s.par
  fin : Bk.fin s ∈ line s'.all (tip s')
  pre : (line s'.all (tip s')).take (height s.all (Bk.fin s) + 1) = (line s.all (tip s)).take (height s.all (Bk.fin s) + 1)
  tip : line s'.all (Bk.tip s') = line s.all (Bk.tip s) ∨ (Bk.tip s' = s.all.length ∧ s'.all.length = s.all.length + 1 ∧ (line s'.all (Bk.tip s')).length = (line s.all (Bk.tip s)).length + 1)

theorem fin_tip {s : St} (hi : Inv s) : fin s ∈ line s.all (tip s) := ((hi.keep _).1 hi.tipin).2

theorem fin_height {s : St} (hi : Inv s) : height s.all (fin s) = height s.all (tip s) - s.par.depth.toNat := (finOf_mem hi.tree s.par hi.par (tip s)).2

theorem Grow.refl {s : St} (hi : Inv s) : Grow s s := ⟨hi, rfl, fin_tip hi, rfl, Or.inl rfl⟩

theorem grow_taken {s : St} (hi : Inv s) {p : Nat} {h : Hdr} (ha : Accept s p h) : Grow s (taken s p h) := by
  have hst := stepped hi ha
  have hi' := hst.inv
  have hpl := inv_lt hi ha.keep
  have hl := hi.len
  have hall : (taken s p h).all = s.all ++ [⟨h, p⟩] := rfl
  have htl := inv_lt hi hi.tipin
  have hf : fin s ∈ line (taken s p h).all (tip (taken s p h)) := line_trans hi'.tree hst.final (fin_tip hi')
  have h1 := line_prefix hi'.tree _ _ hf
  have h2 := line_prefix hi.tree _ _ (fin_tip hi)
  have h3 : line (taken s p h).all (fin s) = line s.all (fin s) := line_old hi.tree hl (x := ⟨h, p⟩) hpl _ (fin_lt hi)
  have h4 : height (taken s p h).all (fin s) = height s.all (fin s) := height_old hi.tree hl (x := ⟨h, p⟩) hpl _ (fin_lt hi)
  refine ⟨hi', rfl, hf, ?_, ?_⟩
  · rw [← h2, ← h3, h1, h4]
  · rcases hst.tip with ⟨e, _, _⟩ | ⟨e, hh⟩
    · left
      rw [e, hall, line_old hi.tree hl (x := ⟨h, p⟩) hpl _ htl]
    · right
      refine ⟨e, by rw [hall]; simp, ?_⟩
      rw [e, hall, line_new hi.tree hl (x := ⟨h, p⟩) hpl, List.length_append, line_length hi.tree, line_length hi.tree]
      show height s.all p + 1 + 1 = _
      omega

theorem grow_offer {s : St} (hi : Inv s) (parent : Int) (h : Hdr) : Grow s (offer s parent h) := by
  unfold offer
  split
  · rename_i he
    exact grow_taken hi (accept_of he).1
  · exact Grow.refl hi

/-- How far two lists go together. -/
structure Same (a b : List Nat) (k : Nat) : Prop where
  la : k ≤ a.length
  lb : k ≤ b.length
  eq : a.take k = b.take k
  stop : k = a.length ∨ k = b.length ∨ a.getD k 0 ≠ b.getD k 0

theorem take_getD {l : List Nat} {n k : Nat} (h : k < n) : (l.take n).getD k 0 = l.getD k 0 := by
  simp only [List.getD, List.getElem?_take]
  rw [if_pos h]

theorem same_deep {s s' : St} (hi : Inv s) (hg : Grow s s') {k : Nat} (h : Same (line s.all (tip s)) (line s'.all (tip s')) k) : ((line s.all (tip s)).length : Int) - k ≤ s.par.depth := by
  have hd := hi.par.d1
  have hfh := fin_height hi
  have hl := line_length hi.tree (tip s)
  have hk : height s.all (fin s) + 1 ≤ k := by
    rcases Nat.lt_or_ge k (height s.all (fin s) + 1) with h1 | h1
    · exfalso
      have hpl := congrArg List.length hg.pre
      simp only [List.length_take] at hpl
      have hmm := height_mem hi.tree (fin_tip hi)
      rcases h.stop with e | e | e
      · omega
      · omega
      · apply e
        rw [← take_getD (l := line s.all (tip s)) h1, ← take_getD (l := line s'.all (tip s')) h1, hg.pre]
    · exact h1
  omega

theorem same_line {a b : List Nat} {k : Nat} (h : Same a b k) (e : b = a) : k = a.length ∧ k = b.length := by
  subst e
  rcases h.stop with h1 | h1 | h1
  · exact ⟨h1, h1⟩
  · exact ⟨h1, h1⟩
  · exact absurd rfl h1

end Bk

theorem grow_step {s : St} (hi : Inv s) (o : Stp) : Grow s (stepS s o) := by
  unfold stepS
  split
  · exact Grow.refl hi
  · exact grow_offer hi _ _

end Go.Proofs.Ytpaakikgfojplab

/-
  THE WALKS of the statements' sameInts and tells.
-/
namespace Go.Proofs.Ytpaakikgfojplab
open Go.RowKit Num Bk
set_option linter.unusedVariables false

set_option maxHeartbeats 1600000 in
set_option maxRecDepth 1000000 in
theorem bsame_is (b1 g1 c1 b2 g2 c2 : Nat) (ds : List Nat) (w : World) (h1 : w.ownsRow b1 3 1 (.slice (some ⟨g1, 0, none⟩) ds.length c1) ds.length (dcells ds)) (h2 : w.ownsRow b2 3 1 (.slice (some ⟨g2, 0, none⟩) ds.length c2) ds.length (dcells ds)) (hl : ds.length ≤ 1000000) :
    Calls Try.prog 50 #[.slice (some ⟨g1, 0, none⟩) ds.length c1, .slice (some ⟨g2, 0, none⟩) ds.length c2] w fun e w' => e = .returned (.bool true) ∧ Below w.heap.size w w' := by
  go_enter Try.func50, Try.ntmps50
  go_wp2
  go_loopw [5] (fun i wr => ∃ k : Nat, k ≤ ds.length ∧ i = .int .i64 k ∧ Below w.heap.size w wr) (fun i _ => ds.length - (intOf i).toNat)
  case atStart => exact ⟨0, Nat.zero_le _, rfl, Below.refl _ _⟩
  case round =>
    obtain ⟨k, hk, rfl, hbel⟩ := hrel
    by_cases hlt : k < ds.length
    · have c1 := ((row_keep h1 hbel (Nat.le_refl _)).cellAt k (by omega)).trans (dcells_at ds k hlt)
      have c2 := ((row_keep h2 hbel (Nat.le_refl _)).cellAt k (by omega)).trans (dcells_at ds k hlt)
      have i1 : (0 : Int) ≤ (k : Int) := by omega
      have i2 : (k : Int) < ((ds.length : Nat) : Int) := by omega
      generalize ds.getD k 0 = d at *
      clear h1 h2
      go_wp2
      go_quiet (fail)
      go_wp2
      go_roundw
      case rel => exact ⟨k + 1, by omega, by go_num, drawB hbel _⟩
      case measure => simp [intOf]; omega
    · go_wp2
      go_ret
      exact ⟨rfl, hbel⟩

set_option maxHeartbeats 3200000 in
set_option maxRecDepth 1000000 in
theorem tells_any {Rep : World → Nat → (Nat → Prop) → St → Prop} (P : PSpec Rep) (b xc gs cs ga ca : Nat) (s : St) (F : Nat → Prop) (w : World) (hb : Both Rep w b xc gs cs ga ca F s) :
    Calls Try.prog 25 #[.pointer (some ⟨b, 0, none⟩)] w fun e w' => e = .returned (.bool true) ∧ Below w.heap.size w w' := by
  have hv := hb.inv
  have hw := hv.wk
  have htl := inv_lt hv hv.tipin
  have hkl := hw.kl
  have hll := line_length hv.tree (tip s)
  have hhs := height_small hv htl
  have hsm := hw.small
  have hnl : (line s.all (tip s)).length ≤ 20000 := by omega
  clear hll hhs
  go_enter Try.func25, Try.ntmps25
  have c0 := cell_of_cells (j := 0) hb.book.blk rfl
  go_wp2_with fail
  refine (P.tip w xc F s hb.rep hv).mono ?_
  rintro e w1 ⟨rfl, hb1⟩
  have hB1 := hb.keep P hb1
  clear c0
  have c0 := cell_of_cells (j := 0) hB1.book.blk rfl
  go_wp2_with fail
  refine (P.final w1 xc F s hB1.rep hv).mono ?_
  rintro e w2 ⟨rfl, hb2⟩
  have hB2 := hB1.keep P hb2
  have hbw2 := hb1.trans (hb2.mono hb1.size)
  clear c0 hB1 hb1 hb2
  have c0 := cell_of_cells (j := 0) hB2.book.blk rfl
  go_wp2_with fail
  refine (P.kept w2 xc F s hB2.rep hv).mono ?_
  rintro e w3 ⟨gk, ck, rfl, hok, hb3⟩
  have hB3 := hB2.keep P hb3
  have hbw3 := hbw2.trans (hb3.mono hbw2.size)
  clear c0 hB2 hb3 hbw2
  have c0 := cell_of_cells (j := 0) hB3.book.blk rfl
  go_wp2_with fail
  refine (P.path w3 xc F s hB3.rep hv).mono ?_
  rintro e w4 ⟨gp, cp, rfl, hop, hb4⟩
  have hB4 := hB3.keep P hb4
  have hok4 := row_keep hok hb4 (Nat.le_refl _)
  have hbw4 := hbw3.trans (hb4.mono hbw3.size)
  clear c0 hB3 hb4 hbw3 hok hb
  go_wp2_with fail
  refine (btip_any b xc gs cs ga ca s _ hB4.book hv).mono ?_
  rintro e w5 ⟨rfl, hb5⟩
  have hB5 := hB4.keep P hb5
  have hok5 := row_keep hok4 hb5 (Nat.le_refl _)
  have hop5 := row_keep hop hb5 (Nat.le_refl _)
  have hbw5 := hbw4.trans (hb5.mono hbw4.size)
  clear hB4 hb5 hbw4 hok4 hop
  go_wp2_with fail
  refine (bfinal_any b xc gs cs ga ca s _ hB5.book hv).mono ?_
  rintro e w6 ⟨rfl, hb6⟩
  have hB6 := hB5.keep P hb6
  have hok6 := row_keep hok5 hb6 (Nat.le_refl _)
  have hop6 := row_keep hop5 hb6 (Nat.le_refl _)
  have hbw6 := hbw5.trans (hb6.mono hbw5.size)
  clear hB5 hb6 hbw5 hok5 hop5
  go_wp2_with fail
  refine (bkept_any b xc gs cs ga ca s _ hB6.book hv).mono ?_
  rintro e w7 ⟨g7, c7, rfl, ho7, hb7⟩
  have hB7 := hB6.keep P hb7
  have hok7 := row_keep hok6 hb7 (Nat.le_refl _)
  have hop7 := row_keep hop6 hb7 (Nat.le_refl _)
  have hbw7 := hbw6.trans (hb7.mono hbw6.size)
  clear hB6 hb7 hbw6 hok6 hop6
  go_wp2_with fail
  refine (bsame_is _ gk ck _ g7 c7 s.keep _ hok7 ho7 (by omega)).mono ?_
  rintro e w8 ⟨rfl, hb8⟩
  have hB8 := hB7.keep P hb8
  have hop8 := row_keep hop7 hb8 (Nat.le_refl _)
  have hbw8 := hbw7.trans (hb8.mono hbw7.size)
  clear hB7 hb8 hbw7 hok7 hop7 ho7
  go_wp2_with fail
  refine (bline_any b xc gs cs ga ca s (tip s) _ hB8.book hw htl).mono ?_
  rintro e w9 ⟨g9, c9, rfl, ho9, hb9⟩
  have hop9 := row_keep hop8 hb9 (Nat.le_refl _)
  have HB9 := Go.Proofs.Ytpaakikgfojplab.hid (hbw8.trans (hb9.mono hbw8.size))
  clear hB8 hb9 hbw8 hop8
  clear htl hw
  generalize hLL : line s.all (tip s) = L at *
  generalize tip s = tp at *
  generalize fin s = fn at *
  rw [List.length_reverse] at ho9 ⊢
  have HO9 := Go.Proofs.Ytpaakikgfojplab.hid ho9
  have HP9 := Go.Proofs.Ytpaakikgfojplab.hid hop9
  clear ho9 hop9
  go_wp2
  go_loopw [11] (fun i wr => ∃ k : Nat, k ≤ L.length ∧ i = .int .i64 k ∧ Below w9.heap.size w9 wr) (fun i _ => L.length - (intOf i).toNat)
  case atStart => exact ⟨0, Nat.zero_le _, rfl, Below.refl _ _⟩
  case round =>
    obtain ⟨k, hk, rfl, hbel⟩ := hrel
    by_cases hlt : k < L.length
    · obtain ⟨m, hm⟩ : ∃ m, L.length = m + k + 1 := ⟨L.length - k - 1, by omega⟩
      have cp := ((row_keep HP9.out hbel (Nat.le_refl _)).cellAt k (by omega)).trans (dcells_at L k hlt)
      have cr := ((row_keep HO9.out hbel (Nat.le_refl _)).cellAt m (by omega)).trans (dcells_at L.reverse m (by rw [List.length_reverse]; omega))
      have h2 : L.reverse.getD m 0 = L.getD k 0 := by
        simp only [List.getD, List.getElem?_reverse (show m < L.length by omega)]
        rw [show L.length - 1 - m = k by omega]
      rw [h2] at cr
      have i1 : (0 : Int) ≤ (k : Int) := by omega
      have i2 : (0 : Int) ≤ (m : Int) := by omega
      have hmb : m ≤ 20000 := by omega
      have hkb : k ≤ 20000 := by omega
      clear h2
      generalize L.getD k 0 = d at *
      rw [hm]
      clear HO9 HP9 hLL
      go_wp2
      go_quiet (fail)
      go_wp2
      go_roundw
      case rel => exact ⟨k + 1, by omega, by go_num, drawB hbel _⟩
      case measure => simp [intOf]; omega
    · clear HO9 HP9
      go_wp2
      go_ret
      exact ⟨rfl, HB9.out.trans (hbel.mono HB9.out.size)⟩

end Go.Proofs.Ytpaakikgfojplab

