import Derived.Test.YtpaakikgfojplaaCBkI
/-
  PLAIN MATHEMATICS: how great what goes with a header can be.
-/
namespace Go.Proofs.Ytpaakikgfojplaa.Bk
open Num
set_option linter.unusedVariables false

theorem inv_pa {s : St} (hi : Inv s) {i : Nat} (h0 : 0 < i) (h : i < s.all.length) : pa s.all i < s.all.length := by
  have := hi.tree i h0; omega

/-- Induction along the lines of the headers that came. -/
theorem inv_ind {s : St} (hi : Inv s) (p : Nat → Prop) (h0 : p 0) (hs : ∀ i, 0 < i → i < s.all.length → HdrOk s.par s.all i → p (pa s.all i) → p i) : ∀ i, i < s.all.length → p i := by
  refine line_ind hi.tree (fun i => i < s.all.length → p i) (fun _ => h0) ?_
  intro i h hp hl
  exact hs i h hl (hi.hdrs i h hl) (hp (inv_pa hi h hl))

theorem slot_height {s : St} (hi : Inv s) : ∀ i, i < s.all.length → i = 0 ∨ (height s.all i : Int) ≤ (hd s.all i).slot + 1 := by
  refine inv_ind hi _ (Or.inl rfl) ?_
  intro i h hl ho hp
  right
  rw [height_step hi.tree h]
  rcases ho.slot2 with h2 | h2
  · rw [h2, height_zero]; have := ho.slot0; omega
  · rcases hp with h3 | h3
    · rw [h3, height_zero]; have := ho.slot0; omega
    · omega

theorem height_small {s : St} (hi : Inv s) {i : Nat} (h : i < s.all.length) : height s.all i ≤ 10001 := by
  rcases Nat.eq_zero_or_pos i with h0 | h0
  · subst h0; rw [height_zero]; omega
  · rcases slot_height hi i h with h1 | h1
    · omega
    · have := (hi.hdrs i h0 h).slot1; omega

theorem all_small {s : St} (hi : Inv s) : s.all.length ≤ 410081 := by
  have h1 := hi.few
  have h2 := height_small hi (inv_lt hi hi.tipin)
  have h3 := hi.full
  have h4 := hi.par.r2
  omega

theorem slot_bounds {s : St} (hi : Inv s) {i : Nat} (h : i < s.all.length) : 0 ≤ (hd s.all i).slot ∧ (hd s.all i).slot ≤ 10000 := by
  rcases Nat.eq_zero_or_pos i with h0 | h0
  · subst h0
    unfold hd
    rw [hi.zero]
    exact ⟨Int.le_refl _, by decide⟩
  · exact ⟨(hi.hdrs i h0 h).slot0, (hi.hdrs i h0 h).slot1⟩

theorem count_bounds {s : St} (hi : Inv s) (pool : Int) : ∀ i, i < s.all.length → 0 ≤ countAt s.all pool i ∧ countAt s.all pool i ≤ height s.all i := by
  refine inv_ind hi _ (by rw [countAt_zero, height_zero]; omega) ?_
  intro i h hl ho hp
  rw [countAt_step pool hi.tree h, height_step hi.tree h]
  unfold countS
  split
  · rename_i e
    have := ho.count0
    rw [e] at this
    omega
  · omega

theorem run_bounds {s : St} (hi : Inv s) : ∀ i, i < s.all.length → 0 ≤ runAt s.par s.all i ∧ runAt s.par s.all i < 65521 := by
  refine inv_ind hi _ (by rw [runAt_zero]; exact ⟨hi.par.n1, hi.par.n2⟩) ?_
  intro i h hl ho hp
  rw [runAt_step s.par hi.tree h]
  unfold runS
  split
  · exact ⟨Int.emod_nonneg _ (by omega), Int.emod_lt_of_pos _ (by omega)⟩
  · exact hp

theorem sum_set (l : List Int) (i : Nat) (h : i < l.length) (x : Int) : (l.set i x).sum = l.sum - l.getD i 0 + x := by
  induction l generalizing i with
  | nil => simp at h
  | cons a l ih =>
    cases i with
    | zero => simp [List.getD]; omega
    | succ i =>
      simp at h
      have := ih i h
      simp [List.getD] at this ⊢
      omega

theorem getD_set (l : List Int) (i j : Nat) (x : Int) (h : i < l.length) : (l.set i x).getD j 0 = if i = j then x else l.getD j 0 := by
  simp only [List.getD, List.getElem?_set]
  split
  · simp
  · rfl

theorem moveS_length (s : List Int) (h : Hdr) : (moveS s h).length = s.length := by simp [moveS]

theorem moveS_sum (s : List Int) (h : Hdr) (h1 : h.frm.toNat < s.length) (h2 : h.dst.toNat < s.length) : (moveS s h).sum = s.sum := by
  unfold moveS
  rw [sum_set _ _ (by simpa using h2), sum_set _ _ h1]
  omega

theorem moveS_at (s : List Int) (h : Hdr) (h1 : h.frm.toNat < s.length) (h2 : h.dst.toNat < s.length) (j : Nat) :
    (moveS s h).getD j 0 = s.getD j 0 - (if h.frm.toNat = j then h.amount else 0) + (if h.dst.toNat = j then h.amount else 0) := by
  unfold moveS
  rw [getD_set _ _ _ _ (by simpa using h2), getD_set _ _ _ _ h1, getD_set _ _ _ _ h1]
  by_cases e1 : h.dst.toNat = j <;> by_cases e2 : h.frm.toNat = j
  · subst e1; rw [if_pos rfl, if_pos e2, if_pos e2, if_pos rfl, e2]
  · subst e1; rw [if_pos rfl, if_neg e2, if_neg e2, if_pos rfl]; omega
  · rw [if_neg e1, if_pos e2, if_pos e2, if_neg e1, e2]; omega
  · rw [if_neg e1, if_neg e2, if_neg e2, if_neg e1]; omega

theorem nonneg_at (l : List Int) : (∀ x ∈ l, 0 ≤ x) ↔ ∀ j, 0 ≤ l.getD j 0 := by
  constructor
  · intro h j
    rcases Nat.lt_or_ge j l.length with hj | hj
    · have := h l[j] (List.getElem_mem hj)
      simpa [List.getD, hj] using this
    · simp [List.getD, List.getElem?_eq_none hj]
  · intro h x hx
    obtain ⟨j, hj, rfl⟩ := List.getElem_of_mem hx
    have := h j
    simpa [List.getD, hj] using this

theorem le_sum (l : List Int) (h : ∀ x ∈ l, 0 ≤ x) (j : Nat) : l.getD j 0 ≤ l.sum := by
  induction l generalizing j with
  | nil => simp [List.getD]
  | cons a l ih =>
    have ha := h a (by simp)
    have hr := fun x hx => h x (List.mem_cons_of_mem a hx)
    have hs : 0 ≤ l.sum := by
      have := ih hr l.length
      simp [List.getD] at this
      exact this
    cases j with
    | zero => simp [List.getD]; omega
    | succ j =>
      have := ih hr j
      simp [List.getD] at this ⊢
      omega

theorem sum_le (l : List Int) (h : ∀ x ∈ l, x ≤ 40) : l.sum ≤ 40 * l.length := by
  induction l with
  | nil => simp
  | cons a l ih =>
    have := h a (by simp)
    have := ih (fun x hx => h x (List.mem_cons_of_mem a hx))
    simp
    omega

theorem total_small {p : Par} (hp : ParOk p) : 1 ≤ total p ∧ total p ≤ 240 := by
  have h1 := sum_le p.stakes (fun x hx => (hp.s1 x hx).2)
  have h2 := hp.l2
  have h3 := hp.s2
  unfold total
  omega

structure StakesOk (p : Par) (l : List Int) : Prop where
  len : l.length = p.stakes.length
  pos : ∀ x ∈ l, 0 ≤ x
  sum : l.sum = total p

theorem stakes_ok {s : St} (hi : Inv s) : ∀ i, i < s.all.length → StakesOk s.par (stakesAt s.par s.all i) := by
  refine inv_ind hi _ ⟨rfl, fun x hx => (hi.par.s1 x hx).1, rfl⟩ ?_
  intro i h hl ho hp
  rw [stakesAt_step s.par hi.tree h]
  have f0 := ho.frm0
  have f1 := ho.frm1
  have d0 := ho.dst0
  have d1 := ho.dst1
  have hl' := hp.len
  have h1 : (hd s.all i).frm.toNat < (stakesAt s.par s.all (pa s.all i)).length := by rw [hl']; omega
  have h2 : (hd s.all i).dst.toNat < (stakesAt s.par s.all (pa s.all i)).length := by rw [hl']; omega
  refine ⟨by rw [moveS_length, hl'], ?_, by rw [moveS_sum _ _ h1 h2]; exact hp.sum⟩
  rw [nonneg_at]
  intro j
  rw [moveS_at _ _ h1 h2]
  have hn := (nonneg_at _).1 hp.pos j
  have ha := ho.amount0
  have hb := ho.amount1
  split
  · rename_i e; rw [e] at hb; split <;> omega
  · split <;> omega

theorem stake_bounds {s : St} (hi : Inv s) {i : Nat} (h : i < s.all.length) (j : Nat) : 0 ≤ (stakesAt s.par s.all i).getD j 0 ∧ (stakesAt s.par s.all i).getD j 0 ≤ total s.par := by
  have ho := stakes_ok hi i h
  have := le_sum _ ho.pos j
  rw [ho.sum] at this
  exact ⟨(nonneg_at _).1 ho.pos j, this⟩

theorem last_lt {s : St} (hi : Inv s) (e : Int) {i : Nat} (h : i < s.all.length) : lastAt s.par s.all e i < s.all.length := by
  have := line_le hi.tree i _ (lastAt_mem s.par hi.tree e i); omega

theorem fin_lt {s : St} (hi : Inv s) : fin s < s.all.length := by
  have h := (finOf_mem hi.tree s.par hi.par (tip s)).1
  have := line_le hi.tree _ _ h
  have := inv_lt hi hi.tipin
  unfold fin
  omega

theorem line_take {all : List Itm} (ht : Tree all) (i n : Nat) (hn : n ≤ height all i) : line all ((line all i).getD n 0) = (line all i).take (n + 1) ∧ (line all i).getD n 0 ∈ line all i ∧ height all ((line all i).getD n 0) = n := by
  obtain ⟨k, h1, h2, h3⟩ := line_at ht i n hn
  have e : (line all i).getD n 0 = k := by simp [List.getD, h1]
  rw [e]
  exact ⟨by rw [line_prefix ht i k h2, h3], h2, h3⟩

theorem line_pa {all : List Itm} (ht : Tree all) (i n : Nat) (hn : n < height all i) : pa all ((line all i).getD (n + 1) 0) = (line all i).getD n 0 ∧ 0 < (line all i).getD (n + 1) 0 := by
  obtain ⟨h1, h2, h3⟩ := line_take ht i n (by omega)
  obtain ⟨g1, g2, g3⟩ := line_take ht i (n + 1) (by omega)
  generalize (line all i).getD n 0 = a at *
  generalize (line all i).getD (n + 1) 0 = b at *
  have hb : 0 < b := by
    rcases Nat.eq_zero_or_pos b with h | h
    · rw [h, height_zero] at g3; omega
    · exact h
  refine ⟨?_, hb⟩
  have hs := height_step ht hb
  have hm : pa all b ∈ line all i := by
    refine line_trans ht ?_ g2
    rw [line_step ht hb]
    simp [line_self ht]
  exact line_unique ht hm h2 (by omega)

theorem fold_take_line {α : Type} {all : List Itm} (ht : Tree all) (f : α → Nat → α) (a : α) (i n : Nat) (hn : n ≤ height all i) : ((line all i).tail.take n).foldl f a = (line all ((line all i).getD n 0)).tail.foldl f a := by
  rw [(line_take ht i n hn).1]
  have e : ((line all i).take (n + 1)).tail = (line all i).tail.take n := by
    cases line all i with
    | nil => simp
    | cons y l => simp
  rw [e]

/-- What the reading of lines, heights, the tip and the final header asks of a chain. -/
structure Wk (s : St) : Prop where
  tree : Tree s.all
  len : 0 < s.all.length
  kne : 0 < s.keep.length
  klt : ∀ k ∈ s.keep, k < s.all.length
  kl : s.keep.length ≤ 100
  small : s.all.length ≤ 500000
  hs : ∀ i, i < s.all.length → height s.all i ≤ 20000
  d1 : 1 ≤ s.par.depth
  d2 : s.par.depth ≤ 8

theorem Inv.wk {s : St} (hi : Inv s) : Wk s := by
  have h1 := all_small hi
  have h2 := hi.full
  have h3 := hi.par.r2
  have h4 := hi.tipin
  refine ⟨hi.tree, hi.len, ?_, fun k hk => inv_lt hi hk, by omega, by omega, fun i h => by have := height_small hi h; omega, hi.par.d1, hi.par.d2⟩
  cases e : s.keep with
  | nil => rw [e] at h4; simp at h4
  | cons a l => simp

/-- A header has come; what is kept is not yet told anew. -/
def mid (s : St) (p : Nat) (h : Hdr) : St := { s with all := s.all ++ [⟨h, p⟩], keep := s.keep ++ [s.all.length] }

theorem taken_eq (s : St) (p : Nat) (h : Hdr) : taken s p h = { mid s p h with keep := (mid s p h).keep.filter fun k => has (line (mid s p h).all k) (fin (mid s p h)) } := rfl

theorem mid_wk {s : St} (hi : Inv s) {p : Nat} {h : Hdr} (hp : p ∈ s.keep) : Wk (mid s p h) := by
  have h1 := all_small hi
  have h2 := hi.full
  have h3 := hi.par.r2
  have hpl := inv_lt hi hp
  refine ⟨tree_more hi.tree hi.len (x := ⟨h, p⟩) hpl, by simp [mid], by simp [mid], ?_, by simp [mid]; omega, by simp [mid]; omega, ?_, hi.par.d1, hi.par.d2⟩
  · intro k hk
    simp [mid] at hk ⊢
    rcases hk with hk | hk
    · have := inv_lt hi hk; omega
    · omega
  · intro i h
    simp [mid] at h
    rcases Nat.lt_or_ge i s.all.length with h4 | h4
    · show height (s.all ++ [_]) i ≤ 20000
      rw [height_old hi.tree hi.len (x := ⟨_, p⟩) hpl i h4]
      have := height_small hi h4; omega
    · have e : i = s.all.length := by omega
      subst e
      show height (s.all ++ [_]) s.all.length ≤ 20000
      rw [height_new hi.tree hi.len (x := ⟨_, p⟩) hpl]
      have := height_small hi hpl
      show height s.all p + 1 ≤ 20000
      omega

theorem Wk.tip {s : St} (hw : Wk s) : tip s ∈ s.keep := (tipL_spec s.all s.keep (by intro e; have := hw.kne; rw [e] at this; simp at this)).1

theorem Wk.fin_lt {s : St} (hw : Wk s) : fin s < s.all.length := by
  have ht := hw.klt _ hw.tip
  unfold fin finOf
  split
  · exact hw.len
  · obtain ⟨k, h2, h3, h4⟩ := line_at hw.tree (Bk.tip s) (height s.all (Bk.tip s) - s.par.depth.toNat) (by omega)
    have e : (line s.all (Bk.tip s)).getD (height s.all (Bk.tip s) - s.par.depth.toNat) 0 = k := by simp [List.getD, h2]
    rw [e]
    have := line_le hw.tree _ _ h3
    omega

end Go.Proofs.Ytpaakikgfojplaa.Bk

