import Derived.Test.YtpaakikgfojplaaGreatCM39
import Derived.Test.YtpaakikgfojplaaGreatCBc3
import Derived.Test.YtpaakikgfojplaaGreatCM32
import Derived.Test.YtpaakikgfojplaaGreatCNd
/-
  THE WALKS of the program's New: tree.Begin.
-/
namespace Go.Proofs.YtpaakikgfojplaaGreat
open Go.RowKit Num Bk
set_option linter.unusedVariables false

def zeroT : Array Value := #[.int .i64 0, .int .i64 0, .int .i64 0, .slice none 0 0, .slice none 0 0]
def treA (d r : Int) (g : Nat) : Array Value := #[.int .i64 d, .int .i64 r, .int .i64 0, .slice (some ⟨g, 0, none⟩) 1 1, .slice none 0 0]
theorem info_tre : (Tryz.prog.info? 61).map (·.size) = some 5 := by kernel_rfl
theorem treA_one (d r : Int) (g : Nat) : (treA d r g).all (·.oneCell') = true := by simp [treA, Value.oneCell']
theorem zeroT_one : zeroT.all (·.oneCell') = true := by simp [zeroT, Value.oneCell']

/-- The first header's node. -/
def firstN (g : Pg) : Nd := ⟨0, -1, 0, zeroH, g⟩
def buildN2 (parts : Array (Nat × Value)) : Sem Value := Instr.build 95 parts
theorem buildN2_eq (parts : Array (Nat × Value)) : Instr.build 95 parts = buildN2 parts := rfl
theorem run_buildN2 (w : World) (a : Int) (g : Pg) : (buildN2 #[(1, .int .i64 a), (4, .agg (pgA g))]).run Tryz.prog w = .ok (.agg (ndA ⟨0, a, 0, zeroH, g⟩)) w := by
  unfold buildN2
  exact run_build w 95 _ (ndA ⟨0, a, 0, zeroH, g⟩) (by kernel_rfl)

attribute [local go_sem ↓] buildN2_eq buildNs_eq
attribute [local go_sem] run_buildN2 run_buildNs

set_option maxHeartbeats 6400000 in
set_option maxRecDepth 1000000 in
theorem tbegin_no (d r : Int) (g : Pg) (w : World) (h : d < 1 ∨ 8 < d ∨ r < 2 ∨ 40 < r) :
    Calls Tryz.prog 17 #[.int .i64 d, .int .i64 r, .agg (pgA g)] w fun e w' => e = .returned (.tuple #[.agg zeroT, .int .i64 1]) ∧ Below w.heap.size w w' := by
  go_enter Tryz.func17, Tryz.ntmps17
  go_upto_region 1 with fail
  generalize hA : (w.alloc (.cells (pgA g) 56)).alloc (.cells #[.int .i64 0, .int .i64 0, .int .i64 0, .slice none 0 0, .slice none 0 0] 61) = A at *
  obtain ⟨hsA, hbA, k0, k1⟩ : w.heap.size + 2 ≤ A.heap.size ∧ Below w.heap.size w A ∧ A.heap[w.heap.size]? = some (.cells (pgA g) 56 (0, 0)) ∧ A.heap[w.heap.size + 1]? = some (.cells zeroT 61 (0, 0)) := by
    subst hA
    exact blocks2 (Below.refl _ _)
  clear hA
  by_cases q1 : d < 1
  · go_wp2_with (refine wpList_store_row rfl 61 _ _ rfl (w.heap.size + 1) zeroT rfl rfl 61 zeroT k1 info_tre rfl zeroT_one ?_)
    refine bodyPost_ret (results_ct rfl _ _ _ (w.heap.size + 1) 61 zeroT (0, 0) _ rfl (setRow_heap _ _ _ _ _ _ k1) rfl Tryz.underlying61 info_tre) rfl ⟨rfl, Below.setRow hbA (by omega) _⟩
  by_cases q2 : 8 < d
  · go_wp2_with (refine wpList_store_row rfl 61 _ _ rfl (w.heap.size + 1) zeroT rfl rfl 61 zeroT k1 info_tre rfl zeroT_one ?_)
    refine bodyPost_ret (results_ct rfl _ _ _ (w.heap.size + 1) 61 zeroT (0, 0) _ rfl (setRow_heap _ _ _ _ _ _ k1) rfl Tryz.underlying61 info_tre) rfl ⟨rfl, Below.setRow hbA (by omega) _⟩
  by_cases q3 : r < 2
  · go_wp2_with (refine wpList_store_row rfl 61 _ _ rfl (w.heap.size + 1) zeroT rfl rfl 61 zeroT k1 info_tre rfl zeroT_one ?_)
    refine bodyPost_ret (results_ct rfl _ _ _ (w.heap.size + 1) 61 zeroT (0, 0) _ rfl (setRow_heap _ _ _ _ _ _ k1) rfl Tryz.underlying61 info_tre) rfl ⟨rfl, Below.setRow hbA (by omega) _⟩
  have q4 : 40 < r := by omega
  go_wp2_with (refine wpList_store_row rfl 61 _ _ rfl (w.heap.size + 1) zeroT rfl rfl 61 zeroT k1 info_tre rfl zeroT_one ?_)
  refine bodyPost_ret (results_ct rfl _ _ _ (w.heap.size + 1) 61 zeroT (0, 0) _ rfl (setRow_heap _ _ _ _ _ _ k1) rfl Tryz.underlying61 info_tre) rfl ⟨rfl, Below.setRow hbA (by omega) _⟩

set_option maxHeartbeats 6400000 in
set_option maxRecDepth 1000000 in
theorem tbegin_yes (d r : Int) (g : Pg) (w : World) (h1 : 1 ≤ d) (h2 : d ≤ 8) (h3 : 2 ≤ r) (h4 : r ≤ 40) :
    Calls Tryz.prog 17 #[.int .i64 d, .int .i64 r, .agg (pgA g)] w fun e w' => ∃ b, e = .returned (.tuple #[.agg (treA d r b), .int .i64 0]) ∧ w'.heap[b]? = some (.cells (ndA (firstN g)) 95 (0, 0)) ∧ w.heap.size ≤ b ∧ Below w.heap.size w w' := by
  go_enter Tryz.func17, Tryz.ntmps17
  go_upto_region 1 with fail
  generalize hA : (w.alloc (.cells (pgA g) 56)).alloc (.cells #[.int .i64 0, .int .i64 0, .int .i64 0, .slice none 0 0, .slice none 0 0] 61) = A at *
  obtain ⟨hsA, hbA, k0, k1⟩ : w.heap.size + 2 ≤ A.heap.size ∧ Below w.heap.size w A ∧ A.heap[w.heap.size]? = some (.cells (pgA g) 56 (0, 0)) ∧ A.heap[w.heap.size + 1]? = some (.cells zeroT 61 (0, 0)) := by
    subst hA
    exact blocks2 (Below.refl _ _)
  clear hA
  go_upto_region 4 with (first | refine wpList_load_row rfl 56 _ rfl w.heap.size rfl 56 (pgA g) (0, 0) _ k0 Tryz.underlying56 rfl (info_page _) ?_ | refine wpList_store_row rfl 95 _ _ rfl A.heap.size (ndA (firstN g)) rfl rfl 95 (ndA zeroN) (heap_alloc_new A _) (info_nodeA _) rfl (nd_one _) ?_)
  generalize hW : (A.alloc (.cells #[.int .i64 0, .int .i64 0, .int .i64 0, .int .i64 0, .int .i64 0, .int .i64 0, .int .i64 0, .int .i64 0, .int .i64 0, .int .i64 0, .int .i64 0, .int .i64 0, .int .i64 0, .int .i64 0, .int .i64 0, .int .i64 0, .int .i64 0, .int .i64 0, .int .i64 0, .int .i64 0, .int .i64 0, .int .i64 0, .int .i64 0, .int .i64 0, .int .i64 0, .int .i64 0, .int .i64 0, .int .i64 0, .int .i64 0, .int .i64 0, .int .i64 0, .int .i64 0, .int .i64 0, .int .i64 0, .int .i64 0, .int .i64 0, .int .i64 0] 95)).setRow A.heap.size (ndA (firstN g)) = W at *
  obtain ⟨hsW, hbW, hWR⟩ := row_new hW
  clear hW
  have m1 : W.heap[w.heap.size + 1]? = _ := (hbW.block _ (by omega)).trans k1
  have hbw := hbA.trans (hbW.mono (by omega))
  have hk1 : ∀ o, (W.alloc o).heap[w.heap.size + 1]? = some (.cells zeroT 61 (0, 0)) := fun o => (Below.heap_alloc _ _ _ (lt_of_block m1)).trans m1
  generalize A.heap.size = B at *
  clear k0 k1 hbA hbW m1
  have hwW : w.heap.size + 1 < W.heap.size := by omega
  go_wp2_with (first | refine wpList_load_row rfl 95 _ rfl B rfl 95 (ndA (firstN g)) (0, 0) _ hWR Tryz.underlying95 rfl (info_nodeA _) ?_ | refine wpList_store_row rfl 61 _ _ rfl (w.heap.size + 1) (treA d r W.heap.size) rfl rfl 61 zeroT (hk1 _) info_tre rfl (treA_one _ _ _) ?_)
  refine bodyPost_ret (results_ct rfl _ _ _ (w.heap.size + 1) 61 (treA d r W.heap.size) (0, 0) _ rfl (setRow_heap _ _ _ _ _ _ (hk1 _)) rfl Tryz.underlying61 info_tre) rfl ⟨W.heap.size, rfl, ?_, by omega, Below.setRow (hbw.alloc (by omega) _) (by omega) _⟩
  rw [setRow_other _ _ _ _ (by omega)]
  exact heap_alloc_new W _

end Go.Proofs.YtpaakikgfojplaaGreat

/-
  MATHEMATICS: the path as the program tells it; what a step does to the tip, to what is final, and to the chosen line.
-/
namespace Go.Proofs.YtpaakikgfojplaaGreat
open Go.RowKit Num Bk
set_option linter.unusedVariables false

namespace Bk

/-- The number of the parent as the program keeps it. -/
def parI (all : List Itm) (k : Nat) : Int := if k = 0 then -1 else pa all k

/-- A walk down a list of falling numbers, from one parent to the next. -/
def downK (all : List Itm) : List Nat → Int → List Nat
  | [], _ => []
  | k :: r, at' => if (k : Int) = at' then k :: downK all r (parI all k) else downK all r at'

theorem downK_none (all : List Itm) : ∀ (l : List Nat) (q : Int), (∀ k ∈ l, (k : Int) ≠ q) → downK all l q = [] := by
  intro l
  induction l with
  | nil => intro q _; rfl
  | cons k r ih =>
    intro q h
    rw [downK, if_neg (h k (by simp))]
    exact ih q (fun j hj => h j (by simp [hj]))

theorem line_drop_step {all : List Itm} (ht : Tree all) {t : Nat} (h0 : 0 < t) {n : Nat} (hn : n ≤ height all (pa all t) + 1) : (line all t).drop n = (line all (pa all t)).drop n ++ [t] := by
  rw [line_step ht h0, List.drop_append_of_le_length (by rw [line_length ht]; exact hn)]

theorem down_line {all : List Itm} (ht : Tree all) (f : Nat) (K : List Nat) (hK : ∀ i, f ∈ line all i → (∃ j ∈ K, i ∈ line all j) → i ∈ K) (hf : ∀ i ∈ K, f ∈ line all i) :
    ∀ (r : List Nat), (∀ j ∈ r, j ∈ K) → (r.Pairwise (· > ·)) → (∀ i ∈ K, ∀ j ∈ r, i < j → i ∈ r) → ∀ t ∈ r, downK all r (t : Int) = ((line all t).drop (height all f)).reverse := by
  intro r
  induction r with
  | nil => intro _ _ _ t h; simp at h
  | cons k r ih =>
    intro hsub hp hdn t ht'
    rw [List.pairwise_cons] at hp
    have hsub' : ∀ j ∈ r, j ∈ K := fun j hj => hsub j (by simp [hj])
    have hdn' : ∀ i ∈ K, ∀ j ∈ r, i < j → i ∈ r := by
      intro i hi j hj hij
      have := hdn i hi j (by simp [hj]) hij
      rcases List.mem_cons.1 this with h | h
      · subst h
        have := hp.1 j hj
        omega
      · exact h
    rcases List.mem_cons.1 ht' with e | e
    · subst e
      rw [downK, if_pos rfl]
      have hft := hf t (hsub t (by simp))
      by_cases h0 : t = 0
      · subst h0
        rw [line_zero] at hft
        simp at hft
        subst hft
        rw [height_zero, line_zero, List.drop_zero]
        rw [downK_none all r (parI all 0) (by intro j hj; simp [parI])]
        rfl
      · have h0' : 0 < t := by omega
        have hpt := ht t h0'
        have hpar : parI all t = ((pa all t : Nat) : Int) := by unfold parI; rw [if_neg h0]
        rw [hpar]
        by_cases hft' : f = t
        · subst hft'
          have hl := line_length ht f
          have hh := height_step ht h0'
          have hd : (line all f).drop (height all f) = [f] := by
            rw [line_drop_step ht h0' (by omega), List.drop_eq_nil_of_le (by rw [line_length ht]; omega)]
            rfl
          rw [hd]
          rw [downK_none all r _ (by
            intro j hj e
            have hfj := hf j (hsub' j hj)
            have := line_le ht _ _ hfj
            have := hp.1 j hj
            omega)]
          rfl
        · have hfp : f ∈ line all (pa all t) := by
            rw [line_step ht h0', List.mem_append] at hft
            rcases hft with h | h
            · exact h
            · simp at h; exact absurd h hft'
          have hpk : pa all t ∈ K := hK _ hfp ⟨t, hsub t (by simp), by rw [line_step ht h0']; simp [line_self ht]⟩
          have hpr : pa all t ∈ r := by
            have := hdn _ hpk t (by simp) hpt
            rcases List.mem_cons.1 this with h | h
            · omega
            · exact h
          rw [ih hsub' hp.2 hdn' _ hpr, line_drop_step ht h0' (by have := height_mem ht hfp; omega), List.reverse_append]
          rfl
    · have hne : (k : Int) ≠ (t : Int) := by
        have := hp.1 t e
        omega
      rw [downK, if_neg hne]
      exact ih hsub' hp.2 hdn' t e

/-- What is past, and the walk down turned round: the tip's line. -/
theorem path_line {s : St} (hi : Inv s) : (line s.all (fin s)).dropLast ++ (downK s.all s.keep.reverse (tip s : Int)).reverse = line s.all (tip s) := by
  have ht := hi.tree
  have hf := (hi.keep (tip s)).1 hi.tipin
  have hd := down_line ht (fin s) s.keep (by
    rintro i h1 ⟨j, hj, h2⟩
    have := line_le ht _ _ h2
    have := inv_lt hi hj
    exact (hi.keep i).2 ⟨by omega, h1⟩) (fun i h => ((hi.keep i).1 h).2) s.keep.reverse (by intro j hj; simpa using hj) (by
      rw [List.pairwise_reverse]; exact hi.rise) (by intro i h1 j h2 h3; simpa using h1) (tip s) (by simpa using hi.tipin)
  have e : (line s.all (fin s)).dropLast = (line s.all (tip s)).take (height s.all (fin s)) := by
    rw [List.dropLast_eq_take, line_length ht, Nat.add_sub_cancel, line_prefix ht _ _ hf.2, List.take_take, Nat.min_eq_left (by omega)]
  rw [hd, List.reverse_reverse, e, List.take_append_drop]

/-! ### A step -/

structure Grow (s s' : St) : Prop where
  inv : Inv s'
  par : s'.par = s.par
  fin : Bk.fin s ∈ line s'.all (tip s')
  pre : (line s'.all (tip s')).take (height s.all (Bk.fin s) + 1) = (line s.all (tip s)).take (height s.all (Bk.fin s) + 1)
  tip : line s'.all (Bk.tip s') = line s.all (Bk.tip s) ∨ (Bk.tip s' = s.all.length ∧ s'.all.length = s.all.length + 1 ∧ (line s'.all (Bk.tip s')).length = (line s.all (Bk.tip s)).length + 1)

theorem fin_tip {s : St} (hi : Inv s) : fin s ∈ line s.all (tip s) := ((hi.keep _).1 hi.tipin).2

theorem fin_height {s : St} (hi : Inv s) : height s.all (fin s) = height s.all (tip s) - s.par.depth.toNat := (finOf_mem hi.tree s.par hi.par (tip s)).2

theorem Grow.refl {s : St} (hi : Inv s) : Grow s s := ⟨hi, rfl, fin_tip hi, rfl, Or.inl rfl⟩

theorem grow_taken {s : St} (hi : Inv s) {p : Nat} {h : Hdr} (ha : Accept s p h) : Grow s (taken s p h) := by
  have hst := stepped hi ha
  have hi' := hst.inv
  have hpl := inv_lt hi ha.keep
  have hl := hi.len
  have hall : (taken s p h).all = s.all ++ [⟨h, p⟩] := rfl
  have htl := inv_lt hi hi.tipin
  have hf : fin s ∈ line (taken s p h).all (tip (taken s p h)) := line_trans hi'.tree hst.final (fin_tip hi')
  have h1 := line_prefix hi'.tree _ _ hf
  have h2 := line_prefix hi.tree _ _ (fin_tip hi)
  have h3 : line (taken s p h).all (fin s) = line s.all (fin s) := line_old hi.tree hl (x := ⟨h, p⟩) hpl _ (fin_lt hi)
  have h4 : height (taken s p h).all (fin s) = height s.all (fin s) := height_old hi.tree hl (x := ⟨h, p⟩) hpl _ (fin_lt hi)
  refine ⟨hi', rfl, hf, ?_, ?_⟩
  · rw [← h2, ← h3, h1, h4]
  · rcases hst.tip with ⟨e, _, _⟩ | ⟨e, hh⟩
    · left
      rw [e, hall, line_old hi.tree hl (x := ⟨h, p⟩) hpl _ htl]
    · right
      refine ⟨e, by rw [hall]; simp, ?_⟩
      rw [e, hall, line_new hi.tree hl (x := ⟨h, p⟩) hpl, List.length_append, line_length hi.tree, line_length hi.tree]
      show height s.all p + 1 + 1 = _
      omega

theorem grow_offer {s : St} (hi : Inv s) (parent : Int) (h : Hdr) : Grow s (offer s parent h) := by
  unfold offer
  split
  · rename_i he
    exact grow_taken hi (accept_of he).1
  · exact Grow.refl hi

/-- How far two lists go together. -/
structure Same (a b : List Nat) (k : Nat) : Prop where
  la : k ≤ a.length
  lb : k ≤ b.length
  eq : a.take k = b.take k
  stop : k = a.length ∨ k = b.length ∨ a.getD k 0 ≠ b.getD k 0

theorem take_getD {l : List Nat} {n k : Nat} (h : k < n) : (l.take n).getD k 0 = l.getD k 0 := by
  simp only [List.getD, List.getElem?_take]
  rw [if_pos h]

theorem same_deep {s s' : St} (hi : Inv s) (hg : Grow s s') {k : Nat} (h : Same (line s.all (tip s)) (line s'.all (tip s')) k) : ((line s.all (tip s)).length : Int) - k ≤ s.par.depth := by
  have hd := hi.par.d1
  have hfh := fin_height hi
  have hl := line_length hi.tree (tip s)
  have hk : height s.all (fin s) + 1 ≤ k := by
    rcases Nat.lt_or_ge k (height s.all (fin s) + 1) with h1 | h1
    · exfalso
      have hpl := congrArg List.length hg.pre
      simp only [List.length_take] at hpl
      have hmm := height_mem hi.tree (fin_tip hi)
      rcases h.stop with e | e | e
      · omega
      · omega
      · apply e
        rw [← take_getD (l := line s.all (tip s)) h1, ← take_getD (l := line s'.all (tip s')) h1, hg.pre]
    · exact h1
  omega

theorem same_line {a b : List Nat} {k : Nat} (h : Same a b k) (e : b = a) : k = a.length ∧ k = b.length := by
  subst e
  rcases h.stop with h1 | h1 | h1
  · exact ⟨h1, h1⟩
  · exact ⟨h1, h1⟩
  · exact absurd rfl h1

end Bk

theorem grow_step {s : St} (hi : Inv s) (o : Stp) : Grow s (stepS s o) := by
  unfold stepS
  split
  · exact Grow.refl hi
  · exact grow_offer hi _ _

end Go.Proofs.YtpaakikgfojplaaGreat

