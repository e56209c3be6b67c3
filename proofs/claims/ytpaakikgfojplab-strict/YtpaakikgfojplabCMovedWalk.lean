import Derived.Test.YtpaakikgfojplabCM19
/-
  THE WALK of the law Moved, under what the program's chain owes.
-/
namespace Go.Proofs.Ytpaakikgfojplab
open Go.RowKit Num Bk
set_option linter.unusedVariables false

theorem New.below {Rep : World → Nat → (Nat → Prop) → St → Prop} (P : PSpec Rep) {w wr w' : World} {b xc gs cs ga ca : Nat} {F : Nat → Prop} {s : St} (h : New Rep w wr b xc gs cs ga ca F s) (hb : Below wr.heap.size wr w') : New Rep w w' b xc gs cs ga ca F s :=
  ⟨h.1.keep P hb, h.2.1.trans (hb.mono h.2.1.size), h.2.2⟩

theorem New.left {Rep : World → Nat → (Nat → Prop) → St → Prop} {w wr w' : World} {b xc gs cs ga ca : Nat} {F F1 : Nat → Prop} {s : St} (h : New Rep w wr b xc gs cs ga ca F s) (r1 : Rep w' xc F1 s) (f1 : Fr F wr w') (n1 : ∀ k, F1 k → F k ∨ wr.heap.size ≤ k) : New Rep w w' b xc gs cs ga ca F1 s := by
  obtain ⟨hB, hb, hF, h3⟩ := h
  have hs := hb.size
  refine ⟨hB.left r1 f1 n1, below_fr hb f1 hF, fun k hk => ?_, h3⟩
  rcases n1 k hk with h | h
  · exact hF k h
  · omega

/-- The book, the chain, and a list of its own beside them. -/
structure Mid (Rep : World → Nat → (Nat → Prop) → St → Prop) (w wr : World) (b xc gs cs ga ca : Nat) (F : Nat → Prop) (s : St) (g cap : Nat) (l : List Nat) : Prop where
  new : New Rep w wr b xc gs cs ga ca F s
  own : wr.ownsRow 0 3 1 (.slice (some ⟨g, 0, none⟩) l.length cap) l.length (dcells l)
  out : ¬ F g

theorem Mid.below {Rep : World → Nat → (Nat → Prop) → St → Prop} (P : PSpec Rep) {w wr w' : World} {b xc gs cs ga ca g cap : Nat} {F : Nat → Prop} {s : St} {l : List Nat} (h : Mid Rep w wr b xc gs cs ga ca F s g cap l) (hb : Below wr.heap.size wr w') : Mid Rep w w' b xc gs cs ga ca F s g cap l :=
  ⟨h.new.below P hb, row_keep h.own hb (Nat.le_refl _), h.out⟩

theorem Mid.left {Rep : World → Nat → (Nat → Prop) → St → Prop} {w wr w' : World} {b xc gs cs ga ca g cap : Nat} {F : Nat → Prop} {s : St} {l : List Nat} (h : Mid Rep w wr b xc gs cs ga ca F s g cap l) (hL : Left Rep wr w' xc F s) : ∃ F', Mid Rep w w' b xc gs cs ga ca F' s g cap l := by
  obtain ⟨F1, r1, f1, n1⟩ := hL
  have hgl := own_lt h.own
  exact ⟨F1, h.new.left r1 f1 n1, row_fr h.own f1 (by intro k e; simp [Value.ownBlock] at e; subst e; exact h.out), fun h1 => (n1 g h1).elim h.out (fun h => by omega)⟩

theorem ask_zero {s : St} {id : Nat} (hk : id ∈ s.keep) {pool : Nat} (hp : pool < s.par.stakes.length) : askErr s (id : Int) (pool : Int) = 0 := by
  unfold askErr
  rw [if_neg (by simp [missing_keep hk]), if_neg]
  have : poolOk s (pool : Int) = true := by simp [poolOk]; omega
  simp [this]
theorem ask_five {s : St} {id : Nat} (hk : id ∈ s.keep) {pool : Int} (hp : pool < 0 ∨ (s.par.stakes.length : Int) ≤ pool) : askErr s (id : Int) pool = 5 := by
  unfold askErr
  rw [if_neg (by simp [missing_keep hk]), if_pos]
  simp only [poolOk, Bool.and_eq_false_iff, decide_eq_false_iff_not]
  omega
theorem stakeV_is {s : St} {id : Nat} (hk : id ∈ s.keep) {pool : Nat} (hp : pool < s.par.stakes.length) : stakeV s (id : Int) (pool : Int) = stakeOf s id pool := by
  unfold stakeV stakeOf
  rw [if_pos (ask_zero hk hp), Int.toNat_natCast, Int.toNat_natCast]
theorem countV_is {s : St} {id : Nat} (hk : id ∈ s.keep) {pool : Nat} (hp : pool < s.par.stakes.length) : countV s (id : Int) (pool : Int) = countAt s.all (pool : Int) id := by
  unfold countV
  rw [if_pos (ask_zero hk hp), Int.toNat_natCast]

/-- The sum of the first k. -/
def sumTo (l : List Int) (k : Nat) : Int := (l.take k).sum
theorem sumTo_succ (l : List Int) (k : Nat) (h : k < l.length) : sumTo l (k + 1) = sumTo l k + l.getD k 0 := by
  unfold sumTo
  rw [List.take_add_one, List.sum_append, List.getElem?_eq_getElem h]
  simp [List.getD, h]
theorem sumTo_all (l : List Int) : sumTo l l.length = l.sum := by unfold sumTo; simp
theorem sumTo_bounds (l : List Int) (h : ∀ x ∈ l, 0 ≤ x) (k : Nat) : 0 ≤ sumTo l k ∧ sumTo l k ≤ l.sum := by
  unfold sumTo
  have e := List.take_append_drop k l
  have h1 : l.sum = (l.take k).sum + (l.drop k).sum := by rw [← List.sum_append, e]
  have h2 := sum_nonneg (l.take k) (fun x hx => h x (List.mem_of_mem_take hx))
  have h3 := sum_nonneg (l.drop k) (fun x hx => h x (List.mem_of_mem_drop hx))
  omega

theorem mid_stake {Rep : World → Nat → (Nat → Prop) → St → Prop} (P : PSpec Rep) {w wr W : World} {b xc gs cs ga ca g cap : Nat} {F : Nat → Prop} {s : St} {l : List Nat} (h : Mid Rep w wr b xc gs cs ga ca F s g cap l) (hb : Below wr.heap.size wr W) (id pool : Int) (h1 : I64 id) (h2 : I64 pool) :
    Calls Try.prog 52 #[.pointer (some ⟨xc, 0, none⟩), .int .i64 id, .int .i64 pool] W fun e w' => e = .returned (.tuple #[.int .i64 (stakeV s id pool), .int .i64 (askErr s id pool)]) ∧ ∃ F', Mid Rep w w' b xc gs cs ga ca F' s g cap l :=
  (P.stake W xc F s id pool (h.below P hb).new.1.rep h.new.1.inv h1 h2).mono (fun _ _ ⟨e, hL⟩ => ⟨e, (h.below P hb).left hL⟩)

theorem mid_count {Rep : World → Nat → (Nat → Prop) → St → Prop} (P : PSpec Rep) {w wr W : World} {b xc gs cs ga ca g cap : Nat} {F : Nat → Prop} {s : St} {l : List Nat} (h : Mid Rep w wr b xc gs cs ga ca F s g cap l) (hb : Below wr.heap.size wr W) (id pool : Int) (h1 : I64 id) (h2 : I64 pool) :
    Calls Try.prog 53 #[.pointer (some ⟨xc, 0, none⟩), .int .i64 id, .int .i64 pool] W fun e w' => e = .returned (.tuple #[.int .i64 (countV s id pool), .int .i64 (askErr s id pool)]) ∧ ∃ F', Mid Rep w w' b xc gs cs ga ca F' s g cap l :=
  (P.count W xc F s id pool (h.below P hb).new.1.rep h.new.1.inv h1 h2).mono (fun _ _ ⟨e, hL⟩ => ⟨e, (h.below P hb).left hL⟩)

end Go.Proofs.Ytpaakikgfojplab

