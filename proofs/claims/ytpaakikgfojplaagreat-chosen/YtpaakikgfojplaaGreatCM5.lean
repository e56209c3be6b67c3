import Derived.Test.YtpaakikgfojplaaGreatCBkI
import Derived.Test.YtpaakikgfojplaaGreatCM3
/-
  PLAIN MATHEMATICS: how great what goes with a header can be.
-/
namespace Go.Proofs.YtpaakikgfojplaaGreat.Bk
open Num
set_option linter.unusedVariables false

theorem inv_pa {s : St} (hi : Inv s) {i : Nat} (h0 : 0 < i) (h : i < s.all.length) : pa s.all i < s.all.length := by
  have := hi.tree i h0; omega

/-- Induction along the lines of the headers that came. -/
theorem inv_ind {s : St} (hi : Inv s) (p : Nat → Prop) (h0 : p 0) (hs : ∀ i, 0 < i → i < s.all.length → HdrOk s.par s.all i → p (pa s.all i) → p i) : ∀ i, i < s.all.length → p i := by
  refine line_ind hi.tree (fun i => i < s.all.length → p i) (fun _ => h0) ?_
  intro i h hp hl
  exact hs i h hl (hi.hdrs i h hl) (hp (inv_pa hi h hl))

theorem slot_height {s : St} (hi : Inv s) : ∀ i, i < s.all.length → i = 0 ∨ (height s.all i : Int) ≤ (hd s.all i).slot + 1 := by
  refine inv_ind hi _ (Or.inl rfl) ?_
  intro i h hl ho hp
  right
  rw [height_step hi.tree h]
  rcases ho.slot2 with h2 | h2
  · rw [h2, height_zero]; have := ho.slot0; omega
  · rcases hp with h3 | h3
    · rw [h3, height_zero]; have := ho.slot0; omega
    · omega

theorem height_small {s : St} (hi : Inv s) {i : Nat} (h : i < s.all.length) : height s.all i ≤ 10001 := by
  rcases Nat.eq_zero_or_pos i with h0 | h0
  · subst h0; rw [height_zero]; omega
  · rcases slot_height hi i h with h1 | h1
    · omega
    · have := (hi.hdrs i h0 h).slot1; omega

theorem all_small {s : St} (hi : Inv s) : s.all.length ≤ 410081 := by
  have h1 := hi.few
  have h2 := height_small hi (inv_lt hi hi.tipin)
  have h3 := hi.full
  have h4 := hi.par.r2
  omega

theorem slot_bounds {s : St} (hi : Inv s) {i : Nat} (h : i < s.all.length) : 0 ≤ (hd s.all i).slot ∧ (hd s.all i).slot ≤ 10000 := by
  rcases Nat.eq_zero_or_pos i with h0 | h0
  · subst h0
    unfold hd
    rw [hi.zero]
    exact ⟨Int.le_refl _, by decide⟩
  · exact ⟨(hi.hdrs i h0 h).slot0, (hi.hdrs i h0 h).slot1⟩

theorem count_bounds {s : St} (hi : Inv s) (pool : Int) : ∀ i, i < s.all.length → 0 ≤ countAt s.all pool i ∧ countAt s.all pool i ≤ height s.all i := by
  refine inv_ind hi _ (by rw [countAt_zero, height_zero]; omega) ?_
  intro i h hl ho hp
  rw [countAt_step pool hi.tree h, height_step hi.tree h]
  unfold countS
  split
  · rename_i e
    have := ho.count0
    rw [e] at this
    omega
  · omega

theorem run_bounds {s : St} (hi : Inv s) : ∀ i, i < s.all.length → 0 ≤ runAt s.par s.all i ∧ runAt s.par s.all i < 65521 := by
  refine inv_ind hi _ (by rw [runAt_zero]; exact ⟨hi.par.n1, hi.par.n2⟩) ?_
  intro i h hl ho hp
  rw [runAt_step s.par hi.tree h]
  unfold runS
  split
  · exact ⟨Int.emod_nonneg _ (by omega), Int.emod_lt_of_pos _ (by omega)⟩
  · exact hp

theorem sum_set (l : List Int) (i : Nat) (h : i < l.length) (x : Int) : (l.set i x).sum = l.sum - l.getD i 0 + x := by
  induction l generalizing i with
  | nil => simp at h
  | cons a l ih =>
    cases i with
    | zero => simp [List.getD]; omega
    | succ i =>
      simp at h
      have := ih i h
      simp [List.getD] at this ⊢
      omega

theorem getD_set (l : List Int) (i j : Nat) (x : Int) (h : i < l.length) : (l.set i x).getD j 0 = if i = j then x else l.getD j 0 := by
  simp only [List.getD, List.getElem?_set]
  split
  · simp
  · rfl

theorem moveS_length (s : List Int) (h : Hdr) : (moveS s h).length = s.length := by simp [moveS]

theorem moveS_sum (s : List Int) (h : Hdr) (h1 : h.frm.toNat < s.length) (h2 : h.dst.toNat < s.length) : (moveS s h).sum = s.sum := by
  unfold moveS
  rw [sum_set _ _ (by simpa using h2), sum_set _ _ h1]
  omega

theorem moveS_at (s : List Int) (h : Hdr) (h1 : h.frm.toNat < s.length) (h2 : h.dst.toNat < s.length) (j : Nat) :
    (moveS s h).getD j 0 = s.getD j 0 - (if h.frm.toNat = j then h.amount else 0) + (if h.dst.toNat = j then h.amount else 0) := by
  unfold moveS
  rw [getD_set _ _ _ _ (by simpa using h2), getD_set _ _ _ _ h1, getD_set _ _ _ _ h1]
  by_cases e1 : h.dst.toNat = j <;> by_cases e2 : h.frm.toNat = j
  · subst e1; rw [if_pos rfl, if_pos e2, if_pos e2, if_pos rfl, e2]
  · subst e1; rw [if_pos rfl, if_neg e2, if_neg e2, if_pos rfl]; omega
  · rw [if_neg e1, if_pos e2, if_pos e2, if_neg e1, e2]; omega
  · rw [if_neg e1, if_neg e2, if_neg e2, if_neg e1]; omega

theorem nonneg_at (l : List Int) : (∀ x ∈ l, 0 ≤ x) ↔ ∀ j, 0 ≤ l.getD j 0 := by
  constructor
  · intro h j
    rcases Nat.lt_or_ge j l.length with hj | hj
    · have := h l[j] (List.getElem_mem hj)
      simpa [List.getD, hj] using this
    · simp [List.getD, List.getElem?_eq_none hj]
  · intro h x hx
    obtain ⟨j, hj, rfl⟩ := List.getElem_of_mem hx
    have := h j
    simpa [List.getD, hj] using this

theorem le_sum (l : List Int) (h : ∀ x ∈ l, 0 ≤ x) (j : Nat) : l.getD j 0 ≤ l.sum := by
  induction l generalizing j with
  | nil => simp [List.getD]
  | cons a l ih =>
    have ha := h a (by simp)
    have hr := fun x hx => h x (List.mem_cons_of_mem a hx)
    have hs : 0 ≤ l.sum := by
      have := ih hr l.length
      simp [List.getD] at this
      exact this
    cases j with
    | zero => simp [List.getD]; omega
    | succ j =>
      have := ih hr j
      simp [List.getD] at this ⊢
      omega

theorem sum_le (l : List Int) (h : ∀ x ∈ l, x ≤ 40) : l.sum ≤ 40 * l.length := by
  induction l with
  | nil => simp
  | cons a l ih =>
    have := h a (by simp)
    have := ih (fun x hx => h x (List.mem_cons_of_mem a hx))
    simp
    omega

theorem total_small {p : Par} (hp : ParOk p) : 1 ≤ total p ∧ total p ≤ 240 := by
  have h1 := sum_le p.stakes (fun x hx => (hp.s1 x hx).2)
  have h2 := hp.l2
  have h3 := hp.s2
  unfold total
  omega

structure StakesOk (p : Par) (l : List Int) : Prop where
  len : l.length = p.stakes.length
  pos : ∀ x ∈ l, 0 ≤ x
  sum : l.sum = total p

theorem stakes_ok {s : St} (hi : Inv s) : ∀ i, i < s.all.length → StakesOk s.par (stakesAt s.par s.all i) := by
  refine inv_ind hi _ ⟨rfl, fun x hx => (hi.par.s1 x hx).1, rfl⟩ ?_
  intro i h hl ho hp
  rw [stakesAt_step s.par hi.tree h]
  have f0 := ho.frm0
  have f1 := ho.frm1
  have d0 := ho.dst0
  have d1 := ho.dst1
  have hl' := hp.len
  have h1 : (hd s.all i).frm.toNat < (stakesAt s.par s.all (pa s.all i)).length := by rw [hl']; omega
  have h2 : (hd s.all i).dst.toNat < (stakesAt s.par s.all (pa s.all i)).length := by rw [hl']; omega
  refine ⟨by rw [moveS_length, hl'], ?_, by rw [moveS_sum _ _ h1 h2]; exact hp.sum⟩
  rw [nonneg_at]
  intro j
  rw [moveS_at _ _ h1 h2]
  have hn := (nonneg_at _).1 hp.pos j
  have ha := ho.amount0
  have hb := ho.amount1
  split
  · rename_i e; rw [e] at hb; split <;> omega
  · split <;> omega

theorem stake_bounds {s : St} (hi : Inv s) {i : Nat} (h : i < s.all.length) (j : Nat) : 0 ≤ (stakesAt s.par s.all i).getD j 0 ∧ (stakesAt s.par s.all i).getD j 0 ≤ total s.par := by
  have ho := stakes_ok hi i h
  have := le_sum _ ho.pos j
  rw [ho.sum] at this
  exact ⟨(nonneg_at _).1 ho.pos j, this⟩

theorem last_lt {s : St} (hi : Inv s) (e : Int) {i : Nat} (h : i < s.all.length) : lastAt s.par s.all e i < s.all.length := by
  have := line_le hi.tree i _ (lastAt_mem s.par hi.tree e i); omega

theorem fin_lt {s : St} (hi : Inv s) : fin s < s.all.length := by
  have h := (finOf_mem hi.tree s.par hi.par (tip s)).1
  have := line_le hi.tree _ _ h
  have := inv_lt hi hi.tipin
  unfold fin
  omega

theorem line_take {all : List Itm} (ht : Tree all) (i n : Nat) (hn : n ≤ height all i) : line all ((line all i).getD n 0) = (line all i).take (n + 1) ∧ (line all i).getD n 0 ∈ line all i ∧ height all ((line all i).getD n 0) = n := by
  obtain ⟨k, h1, h2, h3⟩ := line_at ht i n hn
  have e : (line all i).getD n 0 = k := by simp [List.getD, h1]
  rw [e]
  exact ⟨by rw [line_prefix ht i k h2, h3], h2, h3⟩

theorem line_pa {all : List Itm} (ht : Tree all) (i n : Nat) (hn : n < height all i) : pa all ((line all i).getD (n + 1) 0) = (line all i).getD n 0 ∧ 0 < (line all i).getD (n + 1) 0 := by
  obtain ⟨h1, h2, h3⟩ := line_take ht i n (by omega)
  obtain ⟨g1, g2, g3⟩ := line_take ht i (n + 1) (by omega)
  generalize (line all i).getD n 0 = a at *
  generalize (line all i).getD (n + 1) 0 = b at *
  have hb : 0 < b := by
    rcases Nat.eq_zero_or_pos b with h | h
    · rw [h, height_zero] at g3; omega
    · exact h
  refine ⟨?_, hb⟩
  have hs := height_step ht hb
  have hm : pa all b ∈ line all i := by
    refine line_trans ht ?_ g2
    rw [line_step ht hb]
    simp [line_self ht]
  exact line_unique ht hm h2 (by omega)

theorem fold_take_line {α : Type} {all : List Itm} (ht : Tree all) (f : α → Nat → α) (a : α) (i n : Nat) (hn : n ≤ height all i) : ((line all i).tail.take n).foldl f a = (line all ((line all i).getD n 0)).tail.foldl f a := by
  rw [(line_take ht i n hn).1]
  have e : ((line all i).take (n + 1)).tail = (line all i).tail.take n := by
    cases line all i with
    | nil => simp
    | cons y l => simp
  rw [e]

/-- What the reading of lines, heights, the tip and the final header asks of a chain. -/
structure Wk (s : St) : Prop where
  tree : Tree s.all
  len : 0 < s.all.length
  kne : 0 < s.keep.length
  klt : ∀ k ∈ s.keep, k < s.all.length
  kl : s.keep.length ≤ 100
  small : s.all.length ≤ 500000
  hs : ∀ i, i < s.all.length → height s.all i ≤ 20000
  d1 : 1 ≤ s.par.depth
  d2 : s.par.depth ≤ 8

theorem Inv.wk {s : St} (hi : Inv s) : Wk s := by
  have h1 := all_small hi
  have h2 := hi.full
  have h3 := hi.par.r2
  have h4 := hi.tipin
  refine ⟨hi.tree, hi.len, ?_, fun k hk => inv_lt hi hk, by omega, by omega, fun i h => by have := height_small hi h; omega, hi.par.d1, hi.par.d2⟩
  cases e : s.keep with
  | nil => rw [e] at h4; simp at h4
  | cons a l => simp

/-- A header has come; what is kept is not yet told anew. -/
def mid (s : St) (p : Nat) (h : Hdr) : St := { s with all := s.all ++ [⟨h, p⟩], keep := s.keep ++ [s.all.length] }

theorem taken_eq (s : St) (p : Nat) (h : Hdr) : taken s p h = { mid s p h with keep := (mid s p h).keep.filter fun k => has (line (mid s p h).all k) (fin (mid s p h)) } := rfl

theorem mid_wk {s : St} (hi : Inv s) {p : Nat} {h : Hdr} (hp : p ∈ s.keep) : Wk (mid s p h) := by
  have h1 := all_small hi
  have h2 := hi.full
  have h3 := hi.par.r2
  have hpl := inv_lt hi hp
  refine ⟨tree_more hi.tree hi.len (x := ⟨h, p⟩) hpl, by simp [mid], by simp [mid], ?_, by simp [mid]; omega, by simp [mid]; omega, ?_, hi.par.d1, hi.par.d2⟩
  · intro k hk
    simp [mid] at hk ⊢
    rcases hk with hk | hk
    · have := inv_lt hi hk; omega
    · omega
  · intro i h
    simp [mid] at h
    rcases Nat.lt_or_ge i s.all.length with h4 | h4
    · show height (s.all ++ [_]) i ≤ 20000
      rw [height_old hi.tree hi.len (x := ⟨_, p⟩) hpl i h4]
      have := height_small hi h4; omega
    · have e : i = s.all.length := by omega
      subst e
      show height (s.all ++ [_]) s.all.length ≤ 20000
      rw [height_new hi.tree hi.len (x := ⟨_, p⟩) hpl]
      have := height_small hi hpl
      show height s.all p + 1 ≤ 20000
      omega

theorem Wk.tip {s : St} (hw : Wk s) : tip s ∈ s.keep := (tipL_spec s.all s.keep (by intro e; have := hw.kne; rw [e] at this; simp at this)).1

theorem Wk.fin_lt {s : St} (hw : Wk s) : fin s < s.all.length := by
  have ht := hw.klt _ hw.tip
  unfold fin finOf
  split
  · exact hw.len
  · obtain ⟨k, h2, h3, h4⟩ := line_at hw.tree (Bk.tip s) (height s.all (Bk.tip s) - s.par.depth.toNat) (by omega)
    have e : (line s.all (Bk.tip s)).getD (height s.all (Bk.tip s) - s.par.depth.toNat) 0 = k := by simp [List.getD, h2]
    rw [e]
    have := line_le hw.tree _ _ h3
    omega

end Go.Proofs.YtpaakikgfojplaaGreat.Bk

/-
  The document's chain (package beaconref) in memory: its block, its rows; what stays when nothing old is written.
-/
namespace Go.Proofs.YtpaakikgfojplaaGreat
open Go.RowKit Num Bk
set_option linter.unusedVariables false

def icells (l : List Int) : List Value := l.map (Value.int .i64)
def hcells (h : Hdr) : List Value := [.int .i64 h.slot, .int .i64 h.pool, .int .i64 h.proof, .int .i64 h.count, .int .i64 h.frm, .int .i64 h.dst, .int .i64 h.amount]
def itcells (x : Itm) : List Value := [.int .i64 x.hdr.slot, .int .i64 x.hdr.pool, .int .i64 x.hdr.proof, .int .i64 x.hdr.count, .int .i64 x.hdr.frm, .int .i64 x.hdr.dst, .int .i64 x.hdr.amount, .int .i64 (x.par : Int)]
def acells (l : List Itm) : List Value := l.flatMap itcells

theorem itcells_length (x : Itm) : (itcells x).length = 8 := rfl
theorem acells_length (l : List Itm) : (acells l).length = l.length * 8 := by
  induction l with
  | nil => rfl
  | cons x l ih => simp [acells, itcells] at ih ⊢; omega
theorem acells_append (l m : List Itm) : acells (l ++ m) = acells l ++ acells m := by simp [acells]

theorem acells_at (l : List Itm) (i j : Nat) (hi : i < l.length) (hj : j < 8) : (acells l)[i * 8 + j]? = (itcells (item l i))[j]? := by
  induction l generalizing i with
  | nil => simp at hi
  | cons x l ih =>
    have e : acells (x :: l) = itcells x ++ acells l := by simp [acells]
    rw [e]
    cases i with
    | zero =>
      rw [List.getElem?_append_left (by rw [itcells_length]; omega)]
      simp [item, List.getD]
    | succ i =>
      rw [List.getElem?_append_right (by rw [itcells_length]; omega), itcells_length]
      have := ih i (by simpa using hi)
      have e2 : (i + 1) * 8 + j - 8 = i * 8 + j := by omega
      rw [e2, this]
      simp [item, List.getD]

theorem icells_length (l : List Int) : (icells l).length = l.length := by simp [icells]
theorem icells_at (l : List Int) (k : Nat) (h : k < l.length) : (icells l)[k]? = some (.int .i64 (l.getD k 0)) := by simp [icells, List.getD, h]
theorem icells_set (l : List Int) (k : Nat) (x : Int) : (icells l).set k (.int .i64 x) = icells (l.set k x) := by simp [icells, List.map_set]
theorem icells_append (l m : List Int) : icells (l ++ m) = icells l ++ icells m := by simp [icells]

structure RefAt (w : World) (x gs cs ga ca gk ck : Nat) (s : St) : Prop where
  blk : w.heap[x]? = some (.cells #[.int .i64 s.par.depth, .int .i64 s.par.epoch, .int .i64 s.par.room, .int .i64 s.par.a, .int .i64 s.par.b, .int .i64 s.par.nonce,
      .slice (some ⟨gs, 0, none⟩) s.par.stakes.length cs, .slice (some ⟨ga, 0, none⟩) s.all.length ca, .slice (some ⟨gk, 0, none⟩) s.keep.length ck,
      .int .i64 (s.pts.getD 0 0 : Nat), .int .i64 (s.pts.getD 1 0 : Nat), .int .i64 (s.pts.getD 2 0 : Nat), .int .i64 (s.pts.getD 3 0 : Nat)] 73 (0, 0))
  stk : w.ownsRow 0 3 1 (.slice (some ⟨gs, 0, none⟩) s.par.stakes.length cs) s.par.stakes.length (icells s.par.stakes)
  all : w.ownsRow 0 70 8 (.slice (some ⟨ga, 0, none⟩) s.all.length ca) s.all.length (acells s.all)
  kep : w.ownsRow 0 3 1 (.slice (some ⟨gk, 0, none⟩) s.keep.length ck) s.keep.length (dcells s.keep)
  ne : gs ≠ gk

theorem cell_of_cells {w : World} {b j : Nat} {cs : Array Value} {t : TypeId} {v : Value} (h : w.heap[b]? = some (.cells cs t (0, 0))) (hv : cs[j]? = some v) : w.cell? ⟨b, j, none⟩ = some v := by
  simp [World.cell?, h, hv]
theorem free_of_cells {w : World} {b j : Nat} {cs : Array Value} {t : TypeId} (h : w.heap[b]? = some (.cells cs t (0, 0))) : w.frozen? ⟨b, j, none⟩ = false := by
  simp [World.frozen?, h]

/-- A row stays while nothing old is written. -/
theorem row_keep {w w' : World} {base B n e size : Nat} {v : Value} {xs : List Value} (h : w.ownsRow base e size v n xs) (hb : Below B w w') (hB : w.heap.size ≤ B) : w'.ownsRow base e size v n xs := by
  refine ⟨h.1, ?_⟩
  rcases h.2 with hn | ⟨g, cap, cur, hv, hb', hg, r⟩
  · exact Or.inl hn
  · refine Or.inr ⟨g, cap, cur, hv, hb', ?_, r⟩
    rw [hb.block g (by have := lt_of_block hg; omega)]; exact hg

theorem row_weak {w : World} {b0 b1 n e size : Nat} {v : Value} {xs : List Value} (h : w.ownsRow b1 e size v n xs) (hb : b0 ≤ b1) : w.ownsRow b0 e size v n xs := by
  refine ⟨h.1, ?_⟩
  rcases h.2 with hn | ⟨g, cap, cur, hv, hb', r⟩
  · exact Or.inl hn
  · exact Or.inr ⟨g, cap, cur, hv, by omega, r⟩

/-- What an owned value looks like. -/
theorem own_any {w : World} {base n e size : Nat} {v : Value} {xs : List Value} (h : w.ownsRow base e size v n xs) : ∃ ao cap, v = .slice ao n cap ∧ (0 < n → ∃ g, ao = some ⟨g, 0, none⟩) := by
  rcases h.2 with ⟨rfl, rfl⟩ | ⟨g, cap, cur, hv, _⟩
  · exact ⟨none, 0, rfl, fun h => by omega⟩
  · exact ⟨_, _, hv, fun _ => ⟨g, rfl⟩⟩

theorem RefAt.keep {w w' : World} {x gs cs ga ca gk ck : Nat} {s : St} (h : RefAt w x gs cs ga ca gk ck s) (hb : Below w.heap.size w w') : RefAt w' x gs cs ga ca gk ck s :=
  ⟨by rw [hb.block x (lt_of_block h.blk)]; exact h.blk, row_keep h.stk hb (Nat.le_refl _), row_keep h.all hb (Nat.le_refl _), row_keep h.kep hb (Nat.le_refl _), h.ne⟩

theorem RefAt.par_at {w : World} {x gs cs ga ca gk ck : Nat} {s : St} (h : RefAt w x gs cs ga ca gk ck s) {i : Nat} (hi : i < s.all.length) : w.cell? ⟨ga, i * 8 + 7, none⟩ = some (.int .i64 ((pa s.all i : Nat) : Int)) := by
  rw [h.all.cellAt _ (by omega), acells_at _ _ _ hi (by omega)]; rfl

end Go.Proofs.YtpaakikgfojplaaGreat

/-
  A frame by footprint: of what was there nothing turns but blocks of F.
-/
namespace Go.Proofs.YtpaakikgfojplaaGreat
open Go.RowKit Num Bk
set_option linter.unusedVariables false

structure Fr (F : Nat → Prop) (w w' : World) : Prop where
  os : w'.os = w.os
  tape : w'.tape = w.tape
  output : w'.output = w.output
  size : w.heap.size ≤ w'.heap.size
  block : ∀ k, k < w.heap.size → ¬ F k → w'.heap[k]? = w.heap[k]?

theorem Fr.refl (F : Nat → Prop) (w : World) : Fr F w w := ⟨rfl, rfl, rfl, Nat.le_refl _, fun _ _ _ => rfl⟩
theorem Fr.trans {F : Nat → Prop} {a b c : World} (h : Fr F a b) (k : Fr F b c) : Fr F a c :=
  ⟨k.os.trans h.os, k.tape.trans h.tape, k.output.trans h.output, Nat.le_trans h.size k.size, fun i hi hF => (k.block i (Nat.lt_of_lt_of_le hi h.size) hF).trans (h.block i hi hF)⟩
theorem Fr.mono {F G : Nat → Prop} {w w' : World} (h : Fr F w w') (hG : ∀ k, k < w.heap.size → F k → G k) : Fr G w w' :=
  ⟨h.os, h.tape, h.output, h.size, fun k hk hn => h.block k hk (fun hf => hn (hG k hk hf))⟩
/-- Two steps, the second by a footprint that may hold new blocks. -/
theorem Fr.trans' {F G : Nat → Prop} {a b c : World} (h : Fr F a b) (k : Fr G b c) (hG : ∀ i, i < a.heap.size → G i → F i) : Fr F a c :=
  ⟨k.os.trans h.os, k.tape.trans h.tape, k.output.trans h.output, Nat.le_trans h.size k.size, fun i hi hF => (k.block i (Nat.lt_of_lt_of_le hi h.size) (fun g => hF (hG i hi g))).trans (h.block i hi hF)⟩
theorem Fr.drew {F : Nat → Prop} {a w : World} (h : Fr F a w) : Fr F a w.drew := ⟨h.os, h.tape, h.output, h.size, h.block⟩
theorem Fr.drewN {F : Nat → Prop} {a w : World} (h : Fr F a w) (n : Nat) : Fr F a (w.drewN n) := ⟨h.os, h.tape, h.output, h.size, h.block⟩
theorem Fr.alloc {F : Nat → Prop} {a w : World} (h : Fr F a w) (o : Obj) : Fr F a (w.alloc o) :=
  h.trans ⟨rfl, rfl, rfl, by simp, fun k hk _ => Below.heap_alloc _ _ _ hk⟩
theorem Fr.setCell {F : Nat → Prop} {a w : World} (h : Fr F a w) {p : Addr} (hp : F p.block ∨ a.heap.size ≤ p.block) (u : Value) : Fr F a (w.setCell p u) := by
  refine ⟨h.os, h.tape, h.output, by have := h.size; simpa [World.setCell] using this, fun k hk hF => ?_⟩
  rw [Below.heap_setCell _ _ _ _ (by rintro rfl; rcases hp with hp | hp; exact hF hp; omega)]
  exact h.block k hk hF
theorem Fr.grown {F : Nat → Prop} {a w w' : World} {row : Option Nat} (h : Fr F a w) (hg : w.grownBy w' row) (hr : ∀ k, row = some k → F k ∨ a.heap.size ≤ k) : Fr F a w' :=
  ⟨hg.os.trans h.os, hg.tape.trans h.tape, hg.output.trans h.output, Nat.le_trans h.size hg.size, fun k hk hF => by
    rw [hg.block k (Nat.lt_of_lt_of_le hk h.size) (fun e => by rcases hr k e.symm with h' | h'; exact hF h'; omega)]
    exact h.block k hk hF⟩
theorem Fr.of_below {B : Nat} {w w' : World} (h : Below B w w') (F : Nat → Prop) (hF : ∀ k, k < w.heap.size → B ≤ k → F k) : Fr F w w' :=
  ⟨h.os, h.tape, h.output, h.size, fun k hk hn => h.block k (by rcases Nat.lt_or_ge k B with h' | h'; exact h'; exact absurd (hF k hk h') hn)⟩
theorem Fr.below {F : Nat → Prop} {w w' : World} (h : Fr F w w') {B : Nat} (hB : B ≤ w.heap.size) (hF : ∀ k, F k → B ≤ k) : Below B w w' :=
  ⟨h.os, h.tape, h.output, h.size, fun k hk => h.block k (by omega) (fun hf => by have := hF k hf; omega)⟩

theorem row_fr {F : Nat → Prop} {w w' : World} {base n e size : Nat} {v : Value} {xs : List Value} (h : w.ownsRow base e size v n xs) (hb : Fr F w w') (hF : ∀ g, v.ownBlock = some g → ¬ F g) : w'.ownsRow base e size v n xs := by
  refine ⟨h.1, ?_⟩
  rcases h.2 with hn | ⟨g, cap, cur, hv, hb', hg, r⟩
  · exact Or.inl hn
  · refine Or.inr ⟨g, cap, cur, hv, hb', ?_, r⟩
    rw [hb.block g (lt_of_block hg) (hF g (by rw [hv]; rfl))]; exact hg

theorem RefAt.fr {F : Nat → Prop} {w w' : World} {x gs cs ga ca gk ck : Nat} {s : St} (h : RefAt w x gs cs ga ca gk ck s) (hb : Fr F w w') (h1 : ¬ F x) (h2 : ¬ F gs) (h3 : ¬ F ga) (h4 : ¬ F gk) : RefAt w' x gs cs ga ca gk ck s :=
  ⟨by rw [hb.block x (lt_of_block h.blk) h1]; exact h.blk, row_fr h.stk hb (by intro g e; simp [Value.ownBlock] at e; subst e; exact h2),
    row_fr h.all hb (by intro g e; simp [Value.ownBlock] at e; subst e; exact h3), row_fr h.kep hb (by intro g e; simp [Value.ownBlock] at e; subst e; exact h4), h.ne⟩

/-- The blocks of a chain are four. -/
theorem block_ne {w : World} {b b' : Nat} {cs cs' : Array Value} {t t' : TypeId} (h : w.heap[b]? = some (.cells cs t (0, 0))) (h' : w.heap[b']? = some (.cells cs' t' (0, 0))) (ht : t ≠ t') : b ≠ b' := by
  rintro rfl
  rw [h] at h'
  simp at h'
  exact ht h'.2

theorem row_block {w : World} {base n e size g cap : Nat} {xs : List Value} (h : w.ownsRow base e size (.slice (some ⟨g, 0, none⟩) n cap) n xs) : ∃ cur, w.heap[g]? = some (.cells cur e (0, 0)) ∧ base ≤ g := by
  rcases h.2 with ⟨h', _⟩ | ⟨g', cap', cur, h', hb, hg, _⟩
  · simp at h'
  · simp only [Value.slice.injEq, Option.some.injEq, Addr.mk.injEq, and_true, true_and] at h'
    obtain ⟨rfl, rfl⟩ := h'
    exact ⟨cur, hg, hb⟩

theorem RefAt.four {w : World} {x gs cs ga ca gk ck : Nat} {s : St} (h : RefAt w x gs cs ga ca gk ck s) : x ≠ gs ∧ x ≠ ga ∧ x ≠ gk ∧ gs ≠ ga ∧ ga ≠ gk ∧ gs ≠ gk := by
  obtain ⟨c1, h1, _⟩ := row_block h.stk
  obtain ⟨c2, h2, _⟩ := row_block h.all
  obtain ⟨c3, h3, _⟩ := row_block h.kep
  exact ⟨block_ne h.blk h1 (by decide), block_ne h.blk h2 (by decide), block_ne h.blk h3 (by decide), block_ne h1 h2 (by decide), block_ne h2 h3 (by decide), h.ne⟩

/-- The blocks of a chain are old. -/
theorem own_lt {w : World} {base n e size g cap : Nat} {xs : List Value} (h : w.ownsRow base e size (.slice (some ⟨g, 0, none⟩) n cap) n xs) : g < w.heap.size := (h.lt g rfl).2
theorem RefAt.lts {w : World} {x gs cs ga ca gk ck : Nat} {s : St} (h : RefAt w x gs cs ga ca gk ck s) : x < w.heap.size ∧ gs < w.heap.size ∧ ga < w.heap.size ∧ gk < w.heap.size :=
  ⟨lt_of_block h.blk, own_lt h.stk, own_lt h.all, own_lt h.kep⟩

end Go.Proofs.YtpaakikgfojplaaGreat

/-
  PLAIN MATHEMATICS: a book's own way to the tip and to what is kept.
-/
namespace Go.Proofs.YtpaakikgfojplaaGreat.Bk
open Num
set_option linter.unusedVariables false

theorem sorted_eq : ∀ (l m : List Nat), l.Pairwise (· < ·) → m.Pairwise (· < ·) → (∀ x, x ∈ l ↔ x ∈ m) → l = m := by
  intro l
  induction l with
  | nil =>
    intro m _ _ h
    cases m with
    | nil => rfl
    | cons b m => have := (h b).2 (by simp); simp at this
  | cons a l ih =>
    intro m hl hm h
    cases m with
    | nil => have := (h a).1 (by simp); simp at this
    | cons b m =>
      rw [List.pairwise_cons] at hl hm
      have hab : a = b := by
        have h1 := (h a).1 (by simp)
        have h2 := (h b).2 (by simp)
        rcases List.mem_cons.1 h1 with h1 | h1
        · exact h1
        · rcases List.mem_cons.1 h2 with h2 | h2
          · exact h2.symm
          · have := hm.1 a h1; have := hl.1 b h2; omega
      subst hab
      congr 1
      refine ih m hl.2 hm.2 ?_
      intro x
      constructor
      · intro hx
        rcases List.mem_cons.1 ((h x).1 (List.mem_cons_of_mem _ hx)) with e | e
        · have := hl.1 x hx; omega
        · exact e
      · intro hx
        rcases List.mem_cons.1 ((h x).2 (List.mem_cons_of_mem _ hx)) with e | e
        · have := hm.1 x hx; omega
        · exact e

theorem keep_eq {s : St} (hi : Inv s) : (List.range s.all.length).filter (fun i => has (line s.all i) (fin s)) = s.keep := by
  refine sorted_eq _ _ (List.Pairwise.filter _ List.pairwise_lt_range) hi.rise ?_
  intro x
  rw [List.mem_filter, List.mem_range, has_nat, hi.keep]

/-- The first of the highest among the first k. -/
def Best (all : List Itm) (k b : Nat) : Prop := (∀ i, i < k → height all i ≤ height all b) ∧ ∀ i, i < b → height all i < height all b

theorem best_tip {s : St} (hi : Inv s) {b : Nat} (hb : b < s.all.length) (h : Best s.all s.all.length b) : b = tip s := by
  have ht := inv_lt hi hi.tipin
  have h1 := h.1 _ ht
  have h2 := hi.high b hb
  rcases Nat.lt_trichotomy b (tip s) with h3 | h3 | h3
  · have := hi.first b h3; omega
  · exact h3
  · have := h.2 _ h3; omega

theorem range_take (n k : Nat) (h : k ≤ n) : (List.range n).take k = List.range k := by
  rw [List.take_range]; congr 1; omega

theorem filter_range_succ (k : Nat) (p : Nat → Bool) : (List.range (k + 1)).filter p = (List.range k).filter p ++ (if p k then [k] else []) := by
  rw [List.range_succ, List.filter_append]
  simp only [List.filter_cons, List.filter_nil]

/-- What is final, off the line turned round. -/
theorem fin_rev {s : St} (hw : Wk s) (h : ¬ (height s.all (tip s) : Int) < s.par.depth) : (line s.all (tip s)).reverse.getD s.par.depth.toNat 0 = fin s := by
  unfold fin finOf
  rw [if_neg h]
  have hl := line_length hw.tree (tip s)
  have hd := hw.d1
  simp only [List.getD]
  rw [List.getElem?_reverse (by omega), hl]
  congr 2

theorem rev_at {all : List Itm} (ht : Tree all) (id i : Nat) (h : i ≤ height all id) : (line all id).reverse.getD i 0 = (line all id).getD (height all id - i) 0 := by
  have hl := line_length ht id
  simp only [List.getD]
  rw [List.getElem?_reverse (by omega), hl]
  congr 2

theorem rev_pa {all : List Itm} (ht : Tree all) (id i : Nat) (h : i < height all id) : pa all ((line all id).reverse.getD i 0) = (line all id).reverse.getD (i + 1) 0 ∧ 0 < (line all id).reverse.getD i 0 := by
  have h1 := line_pa ht id (height all id - i - 1) (by omega)
  rw [show height all id - i - 1 + 1 = height all id - i by omega] at h1
  rw [rev_at ht id i (by omega), rev_at ht id (i + 1) (by omega), show height all id - (i + 1) = height all id - i - 1 by omega]
  exact h1

theorem rev_le {all : List Itm} (ht : Tree all) (id i : Nat) (h : i ≤ height all id) : (line all id).reverse.getD i 0 ≤ id := by
  rw [rev_at ht id i h]
  exact line_le ht id _ (line_take ht id _ (by omega)).2.1

theorem rev_zero {all : List Itm} (ht : Tree all) (id : Nat) : (line all id).reverse.getD 0 0 = id := by
  rw [rev_at ht id 0 (by omega)]
  obtain ⟨_, h2, h3⟩ := line_take ht id (height all id - 0) (by omega)
  exact line_unique ht h2 (line_self ht id) (by omega)

theorem rev_end {all : List Itm} (ht : Tree all) (id : Nat) : (line all id).reverse.getD (height all id) 0 = 0 := by
  rw [rev_at ht id _ (Nat.le_refl _)]
  obtain ⟨_, h2, h3⟩ := line_take ht id (height all id - height all id) (by omega)
  exact line_unique ht h2 (line_zero_mem ht id) (by rw [h3, height_zero]; omega)

end Go.Proofs.YtpaakikgfojplaaGreat.Bk

