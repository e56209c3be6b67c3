import Derived.Test.YtpaakikgfojplabCEdge
import Derived.Test.YtpaakikgfojplabCNum
/-
  THE WALKS of the document's own numbers (package beaconref): times, often, above, below, Leads, by contracts.
-/
namespace Go.Proofs.Ytpaakikgfojplab
open Go.RowKit Num

theorem one_int (n : Int) : ∀ u ∈ [Value.int .i64 n], u.oneCell' = true := by
  intro u hu; simp at hu; subst hu; rfl

theorem own_weak {w : World} {b0 b1 n : Nat} {v : Value} {xs : List Value} (h : w.ownsRow b1 3 1 v n xs) (hb : b0 ≤ b1) : w.ownsRow b0 3 1 v n xs := by
  refine ⟨h.1, ?_⟩
  rcases h.2 with hn | ⟨g, cap, cur, hv, hb', r⟩
  · exact Or.inl hn
  · exact Or.inr ⟨g, cap, cur, hv, by omega, r⟩

theorem more_by {B : Nat} {xs ys : List Nat} (hB : 1 ≤ B) (hx : DGood B xs) (hy : DGood B ys) (h : xs.length ≠ ys.length) : decide (ys.length < xs.length) = decide (dval B ys < dval B xs) := less_by hB hy hx (Ne.symm h)

end Go.Proofs.Ytpaakikgfojplab

/-
  THE CONTRACT of beacon.Leads: where its numbers may be, the inequality; else ErrArg.
-/
namespace Go.Proofs.Ytpaakikgfojplab
open Go.RowKit Num

/-- The numbers that may be. -/
def okArgs (p s t a b : Int) : Prop := 0 ≤ p ∧ p < 1024 ∧ 1 ≤ t ∧ t ≤ 240 ∧ 0 ≤ s ∧ s ≤ t ∧ 2 ≤ b ∧ b ≤ 20 ∧ 1 ≤ a ∧ a < b

end Go.Proofs.Ytpaakikgfojplab

/-
  THE WALKS of the document's own answer (package beaconref): below, Leads.
-/
namespace Go.Proofs.Ytpaakikgfojplab
open Go.RowKit Num

theorem dcells_one (ds : List Nat) : ∀ u ∈ dcells ds, u.oneCell' = true := by
  intro u hu
  obtain ⟨_, _, rfl⟩ := List.mem_map.1 hu
  rfl

theorem below_eq (p s t a b x y : Nat) (hx : x = 1024 ^ t * ((b - a) ^ s * dval 1024 [1])) (hy : y = (1024 - p) ^ t * (b ^ s * dval 1024 [1])) : decide (x < y) = leads p s t a b := by
  have e : dval 1024 [1] = 1 := rfl
  subst hx; subst hy
  unfold leads
  rw [e, Nat.mul_one, Nat.mul_one, Nat.mul_comm (1024 ^ t), Nat.mul_comm ((1024 - p) ^ t)]

theorem own_lit {base : Nat} (w : World) (h : base ≤ w.heap.size) : (w.alloc (.cells #[.int .i64 1] 3)).ownsRow base 3 1 (.slice (some ⟨w.heap.size, 0, none⟩) [1].length 1) [1].length (dcells [1]) :=
  World.ownsRow_lit (base := base) (e := 3) (size := 1) w #[.int .i64 1] 1 h (by unfold maxLen; omega) rfl

end Go.Proofs.Ytpaakikgfojplab

/-
  PLAIN MATHEMATICS: a tree of headers, by the document's words: lines, heights, what goes with a header, the tip, what is final, what is kept; and what a call of Turn, Offer, Look, Next, Back, Point answers. It imports nothing of the program.
-/
namespace Go.Proofs.Ytpaakikgfojplab.Bk
open Num
set_option linter.unusedVariables false

structure Hdr where
  slot : Int
  pool : Int
  proof : Int
  count : Int
  frm : Int
  dst : Int
  amount : Int

structure Itm where
  hdr : Hdr
  par : Nat

structure Par where
  depth : Int
  epoch : Int
  room : Int
  a : Int
  b : Int
  nonce : Int
  stakes : List Int

structure St where
  par : Par
  all : List Itm
  keep : List Nat
  pts : List Nat

def zeroH : Hdr := ⟨0, 0, 0, 0, 0, 0, 0⟩
def zeroI : Itm := ⟨zeroH, 0⟩

def eqH (h g : Hdr) : Bool := h.slot == g.slot && h.pool == g.pool && h.proof == g.proof && h.count == g.count && h.frm == g.frm && h.dst == g.dst && h.amount == g.amount

theorem eqH_iff (h g : Hdr) : eqH h g = true ↔ h = g := by
  cases h; cases g; simp [eqH, and_assoc]

def item (all : List Itm) (i : Nat) : Itm := all.getD i zeroI
def pa (all : List Itm) (i : Nat) : Nat := (item all i).par
def hd (all : List Itm) (i : Nat) : Hdr := (item all i).hdr

/-- From the first header to this one. -/
def lineF (all : List Itm) : Nat → Nat → List Nat
  | _, 0 => [0]
  | 0, _ + 1 => [0]
  | f + 1, n + 1 => lineF all f (pa all (n + 1)) ++ [n + 1]
def line (all : List Itm) (i : Nat) : List Nat := lineF all i i

/-- Parents come first. -/
def Tree (all : List Itm) : Prop := ∀ i, 0 < i → pa all i < i

theorem lineF_zero (all : List Itm) (f : Nat) : lineF all f 0 = [0] := by cases f <;> rfl

theorem lineF_fuel {all : List Itm} (ht : Tree all) : ∀ (f f' i : Nat), i ≤ f → i ≤ f' → lineF all f i = lineF all f' i := by
  intro f
  induction f with
  | zero => intro f' i h _; have : i = 0 := by omega
            subst this; rw [lineF_zero, lineF_zero]
  | succ f ih =>
    intro f' i h h'
    cases i with
    | zero => rw [lineF_zero, lineF_zero]
    | succ n =>
      cases f' with
      | zero => omega
      | succ f' =>
        have := ht (n + 1) (by omega)
        simp only [lineF]
        rw [ih f' _ (by omega) (by omega)]

theorem line_zero (all : List Itm) : line all 0 = [0] := rfl

theorem line_step {all : List Itm} (ht : Tree all) {i : Nat} (h : 0 < i) : line all i = line all (pa all i) ++ [i] := by
  cases i with
  | zero => omega
  | succ n =>
    have := ht (n + 1) (by omega)
    unfold line
    simp only [lineF]
    rw [lineF_fuel ht n (pa all (n + 1)) _ (by omega) (Nat.le_refl _)]

/-- Induction along a line. -/
theorem line_ind {all : List Itm} (ht : Tree all) (p : Nat → Prop) (h0 : p 0) (hs : ∀ i, 0 < i → p (pa all i) → p i) : ∀ i, p i := by
  have key : ∀ n i, i ≤ n → p i := by
    intro n
    induction n with
    | zero => intro i h; have : i = 0 := by omega
              subst this; exact h0
    | succ n ih =>
      intro i h
      cases i with
      | zero => exact h0
      | succ k => have := ht (k + 1) (by omega); exact hs _ (by omega) (ih _ (by omega))
  exact fun i => key i i (Nat.le_refl _)

theorem line_ne {all : List Itm} (ht : Tree all) (i : Nat) : 1 ≤ (line all i).length := by
  cases i with
  | zero => simp [line_zero]
  | succ n => rw [line_step ht (by omega)]; simp

def height (all : List Itm) (i : Nat) : Nat := (line all i).length - 1

theorem height_zero (all : List Itm) : height all 0 = 0 := rfl
theorem height_step {all : List Itm} (ht : Tree all) {i : Nat} (h : 0 < i) : height all i = height all (pa all i) + 1 := by
  unfold height
  rw [line_step ht h]
  have := line_ne ht (pa all i)
  simp; omega
theorem line_length {all : List Itm} (ht : Tree all) (i : Nat) : (line all i).length = height all i + 1 := by
  have := line_ne ht i
  unfold height; omega

theorem height_le {all : List Itm} (ht : Tree all) (i : Nat) : height all i ≤ i := by
  refine line_ind ht (fun i => height all i ≤ i) (by simp [height_zero]) ?_ i
  intro i h hp
  have := ht i h
  rw [height_step ht h]; omega

theorem line_le {all : List Itm} (ht : Tree all) (i : Nat) : ∀ k ∈ line all i, k ≤ i := by
  refine line_ind ht (fun i => ∀ k ∈ line all i, k ≤ i) (by simp [line_zero]) ?_ i
  intro i h hp k hk
  rw [line_step ht h, List.mem_append] at hk
  have := ht i h
  rcases hk with hk | hk
  · have := hp k hk; omega
  · simp at hk; omega

theorem line_self {all : List Itm} (ht : Tree all) (i : Nat) : i ∈ line all i := by
  cases i with
  | zero => simp [line_zero]
  | succ n => rw [line_step ht (by omega)]; simp

theorem line_zero_mem {all : List Itm} (ht : Tree all) (i : Nat) : 0 ∈ line all i := by
  refine line_ind ht (fun i => 0 ∈ line all i) (by simp [line_zero]) ?_ i
  intro i h hp
  rw [line_step ht h]; simp [hp]

/-- The line of a header in a line is that line's beginning. -/
theorem line_prefix {all : List Itm} (ht : Tree all) (i : Nat) : ∀ k ∈ line all i, line all k = (line all i).take (height all k + 1) := by
  refine line_ind ht (fun i => ∀ k ∈ line all i, line all k = (line all i).take (height all k + 1)) ?_ ?_ i
  · intro k hk
    simp [line_zero] at hk
    subst hk
    simp [line_zero]
  · intro i h hp k hk
    rw [line_step ht h, List.mem_append] at hk
    rcases hk with hk | hk
    · have := hp k hk
      have h2 : height all k + 1 ≤ (line all (pa all i)).length := by
        have e := congrArg List.length this
        rw [line_length ht, List.length_take] at e
        omega
      rw [line_step ht h, List.take_append_of_le_length h2]
      exact this
    · simp at hk
      subst hk
      rw [← line_length ht, List.take_length]

theorem height_mem {all : List Itm} (ht : Tree all) {i k : Nat} (hk : k ∈ line all i) : height all k ≤ height all i := by
  have e := congrArg List.length (line_prefix ht i k hk)
  rw [line_length ht, List.length_take, line_length ht] at e
  omega

theorem line_trans {all : List Itm} (ht : Tree all) {i j k : Nat} (h1 : k ∈ line all j) (h2 : j ∈ line all i) : k ∈ line all i := by
  rw [line_prefix ht i j h2] at h1
  exact List.mem_of_mem_take h1

/-- The place of a header in a line is its height. -/
theorem line_at {all : List Itm} (ht : Tree all) (i n : Nat) (hn : n ≤ height all i) : ∃ k, (line all i)[n]? = some k ∧ k ∈ line all i ∧ height all k = n := by
  revert n
  refine line_ind ht (fun i => ∀ n, n ≤ height all i → ∃ k, (line all i)[n]? = some k ∧ k ∈ line all i ∧ height all k = n) ?_ ?_ i
  · intro n hn
    rw [height_zero] at hn
    have : n = 0 := by omega
    subst this
    exact ⟨0, rfl, by simp [line_zero], rfl⟩
  · intro i h hp n hn
    rw [height_step ht h] at hn
    by_cases hlt : n ≤ height all (pa all i)
    · obtain ⟨k, h1, h2, h3⟩ := hp n hlt
      refine ⟨k, ?_, ?_, h3⟩
      · rw [line_step ht h, List.getElem?_append_left (by rw [line_length ht]; omega)]; exact h1
      · rw [line_step ht h]; simp [h2]
    · have e : n = height all (pa all i) + 1 := by omega
      subst e
      refine ⟨i, ?_, line_self ht i, height_step ht h⟩
      rw [line_step ht h, List.getElem?_append_right (by rw [line_length ht]; omega), line_length ht]
      simp

/-- Two headers of one height in one line are one. -/
theorem line_unique {all : List Itm} (ht : Tree all) {i k m : Nat} (hk : k ∈ line all i) (hm : m ∈ line all i) (h : height all k = height all m) : k = m := by
  have e : line all k = line all m := by rw [line_prefix ht i k hk, line_prefix ht i m hm, h]
  have h1 := line_self ht m
  rw [← e] at h1
  have h2 := line_self ht k
  rw [e] at h2
  have := line_le ht k m h1
  have := line_le ht m k h2
  omega

/-- Of two headers in one line the lower is in the other's line. -/
theorem line_mem_of_le {all : List Itm} (ht : Tree all) {i k m : Nat} (hk : k ∈ line all i) (hm : m ∈ line all i) (h : height all k ≤ height all m) : k ∈ line all m := by
  obtain ⟨k', h1, h2, h3⟩ := line_at ht m (height all k) h
  have := line_unique ht hk (line_trans ht h2 hm) h3.symm
  rw [this]; exact h2

/-! ### One header more -/

theorem item_old (all : List Itm) (x : Itm) {i : Nat} (h : i < all.length) : item (all ++ [x]) i = item all i := by
  simp [item, List.getD, List.getElem?_append_left h]
theorem item_new (all : List Itm) (x : Itm) : item (all ++ [x]) all.length = x := by
  simp [item, List.getD]
theorem item_past (all : List Itm) {i : Nat} (h : all.length ≤ i) : item all i = zeroI := by
  simp [item, List.getD, List.getElem?_eq_none h]

theorem tree_more {all : List Itm} (ht : Tree all) {x : Itm} (h0 : 0 < all.length) (h : x.par < all.length) : Tree (all ++ [x]) := by
  intro i hi
  unfold pa
  rcases Nat.lt_trichotomy i all.length with hl | hl | hl
  · rw [item_old _ _ hl]; exact ht i hi
  · subst hl; rw [item_new]; exact h
  · rw [item_past _ (by simp; omega)]; show 0 < i; omega

theorem line_old {all : List Itm} (ht : Tree all) {x : Itm} (h0 : 0 < all.length) (h : x.par < all.length) (i : Nat) (hi : i < all.length) : line (all ++ [x]) i = line all i := by
  have ht' := tree_more ht h0 h
  revert hi
  refine line_ind ht (fun i => i < all.length → line (all ++ [x]) i = line all i) (fun _ => rfl) ?_ i
  intro i hi hp hl
  rw [line_step ht' hi, line_step ht hi]
  have e : pa (all ++ [x]) i = pa all i := by unfold pa; rw [item_old _ _ hl]
  rw [e, hp (by have := ht i hi; omega)]

theorem line_new {all : List Itm} (ht : Tree all) {x : Itm} (h0 : 0 < all.length) (h : x.par < all.length) : line (all ++ [x]) all.length = line all x.par ++ [all.length] := by
  have ht' := tree_more ht h0 h
  rw [line_step ht' h0]
  have e : pa (all ++ [x]) all.length = x.par := by unfold pa; rw [item_new]
  rw [e, line_old ht h0 h _ h]

theorem height_old {all : List Itm} (ht : Tree all) {x : Itm} (h0 : 0 < all.length) (h : x.par < all.length) (i : Nat) (hi : i < all.length) : height (all ++ [x]) i = height all i := by
  unfold height; rw [line_old ht h0 h i hi]
theorem height_new {all : List Itm} (ht : Tree all) {x : Itm} (h0 : 0 < all.length) (h : x.par < all.length) : height (all ++ [x]) all.length = height all x.par + 1 := by
  unfold height; rw [line_new ht h0 h]
  have := line_ne ht x.par
  simp; omega

end Go.Proofs.Ytpaakikgfojplab.Bk

