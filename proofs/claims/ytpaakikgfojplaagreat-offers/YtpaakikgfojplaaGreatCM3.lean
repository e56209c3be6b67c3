import Derived.Test.YtpaakikgfojplaaGreatCM1
import Derived.Test.YtpaakikgfojplaaGreatCTimes
import Derived.Test.YtpaakikgfojplaaGreatCNum
/-
  THE CONTRACT of beacon.Leads: where its numbers may be, the inequality; else ErrArg.
-/
namespace Go.Proofs.YtpaakikgfojplaaGreat
open Go.RowKit Num

/-- The numbers that may be. -/
def okArgs (p s t a b : Int) : Prop := 0 ≤ p ∧ p < 1024 ∧ 1 ≤ t ∧ t ≤ 240 ∧ 0 ≤ s ∧ s ≤ t ∧ 2 ≤ b ∧ b ≤ 20 ∧ 1 ≤ a ∧ a < b

end Go.Proofs.YtpaakikgfojplaaGreat

/-
  THE WALKS of the document's own answer (package beaconref): below, Leads.
-/
namespace Go.Proofs.YtpaakikgfojplaaGreat
open Go.RowKit Num

theorem dcells_one (ds : List Nat) : ∀ u ∈ dcells ds, u.oneCell' = true := by
  intro u hu
  obtain ⟨_, _, rfl⟩ := List.mem_map.1 hu
  rfl

theorem below_eq (p s t a b x y : Nat) (hx : x = 1024 ^ t * ((b - a) ^ s * dval 1024 [1])) (hy : y = (1024 - p) ^ t * (b ^ s * dval 1024 [1])) : decide (x < y) = leads p s t a b := by
  have e : dval 1024 [1] = 1 := rfl
  subst hx; subst hy
  unfold leads
  rw [e, Nat.mul_one, Nat.mul_one, Nat.mul_comm (1024 ^ t), Nat.mul_comm ((1024 - p) ^ t)]

theorem own_lit {base : Nat} (w : World) (h : base ≤ w.heap.size) : (w.alloc (.cells #[.int .i64 1] 3)).ownsRow base 3 1 (.slice (some ⟨w.heap.size, 0, none⟩) [1].length 1) [1].length (dcells [1]) :=
  World.ownsRow_lit (base := base) (e := 3) (size := 1) w #[.int .i64 1] 1 h (by unfold maxLen; omega) rfl

set_option maxHeartbeats 1600000 in
set_option maxRecDepth 1000000 in
theorem below_any (p s t a b : Nat) (w : World) (hp : p ≤ 1023) (ht : t ≤ 240) (hs : s ≤ t) (hb : b ≤ 20) (ha : 1 ≤ a) (hab : a < b) :
    Calls Tryz.prog 83 #[.int .i64 (p : Int), .int .i64 (s : Int), .int .i64 (t : Int), .int .i64 (a : Int), .int .i64 (b : Int)] w fun e w' => e = .returned (.bool (leads p s t a b)) ∧ Below w.heap.size w w' := by
  obtain ⟨i0, hi, hz0, hz1, hz2⟩ := info_parts Tryz.info3
  have g1 : DGood 1024 [1] := dgood_one _ (by omega)
  go_enter Tryz.func83, Tryz.ntmps83
  go_wp2_with fail
  refine (often_any w.heap.size _ 1 b s [1] _ (own_lit w (Nat.le_refl _)) (by simp) g1 (by omega) (by omega) (by simp; omega)).mono ?_
  rintro e w1 ⟨g1', c1, l1, rfl, O1, G1, V1, L1, B1⟩
  have HV1 := hid V1
  clear V1
  simp only [List.length_singleton] at L1
  have S1 := B1.size
  simp only [World.size_alloc] at S1
  go_wp2_with fail
  rw [show (1024 : Int) - (p : Int) = ((1024 - p : Nat) : Int) from by omega]
  refine (often_any w.heap.size _ _ (1024 - p) t l1 _ O1 (by omega) G1 (by omega) (by omega) (by omega)).mono ?_
  rintro e w2 ⟨g2, c2, l2, rfl, O2, G2, V2, L2, B2⟩
  have HV2 := hid V2
  clear V2 O1
  have S2 := B2.size
  go_wp2_with fail
  rw [show (b : Int) - (a : Int) = ((b - a : Nat) : Int) from by omega]
  refine (often_any w.heap.size _ 1 (b - a) s [1] _ (own_lit w2 (by omega)) (by simp; omega) g1 (by omega) (by omega) (by simp; omega)).mono ?_
  rintro e w3 ⟨g3, c3, l3, rfl, O3, G3, V3, L3, B3⟩
  have HV3 := hid V3
  clear V3
  simp only [List.length_singleton] at L3
  have S3 := B3.size
  simp only [World.size_alloc] at S3
  have O2' := own_keep (O2.alloc _) B3 (Nat.le_refl _)
  have B03 : Below w.heap.size w w3 := ((Below.refl _ _).alloc (Nat.le_refl _) _).trans ((B1.mono (by simp)).trans ((B2.mono (by omega)).trans ((((Below.refl _ _).alloc (by omega) _)).trans (B3.mono (by simp; omega)))))
  clear B1 B2 B3 O2
  have HG2 := hid G2
  have HG3 := hid G3
  have HO2 := hid O2'
  have HO3 := hid O3
  have HB03 := hid B03
  have l30 := G3.some
  clear G2 G3 O2' O3 B03 G1 g1
  go_wp2
  go_loopw [13, 14] (fun o i wr => ∃ k : Nat, k ≤ t ∧ i = .int .i64 k ∧ wr.ownsRow w3.heap.size 3 1 o k (dcells (List.replicate k 0)) ∧ Below w3.heap.size w3 wr)
    (fun _ i _ => t - (intOf i).toNat)
  case atStart => exact ⟨0, Nat.zero_le _, rfl, World.ownsRow_nil _ _ _ _, Below.refl _ _⟩
  case round =>
    obtain ⟨k, hk, rfl, hout, hbel⟩ := hrel
    have hsz := hbel.size
    by_cases hlt : k < t
    · go_wp2_with (at_builtin; refine wpList_append_lies _ rfl (.tmp 35) (.tmp 36) 22 rfl w3.heap.size 3 i0 (.int .i64 0) 1 8 Tryz.underlying22 hi hz0 hz1 hz2 rfl (by omega) _ k (dcells (List.replicate k 0)) rfl (hout.alloc _) ⟨wr.heap.size, 0, none⟩ 1 1 [.int .i64 0] rfl rfl (cell_one_new _ _ _) (one_int _) (by omega) (by unfold maxLen; omega) (by omega) (by simp; omega) (wr.heap.size + 1) (by simp) ?_)
      intro g4 cap4 w4 hown4 hgrow hat hlt4
      have hrow := fun k (e : Value.ownBlock u13 = some k) => (hout.lt k e).1
      have HB := hid ((hbel.alloc (by omega) _).grown hgrow (by simp; omega) hrow)
      have HOW := hid hown4
      clear hown4 hgrow hat hbel hout hrow
      go_wp2
      go_roundw
      case rel =>
        refine ⟨k + 1, by omega, by go_num, ?_, HB.out⟩
        rw [List.replicate_succ', dcells_append]
        exact HOW.out
      case measure => simp [intOf]; omega
    · have hkt : k = t := by omega
      subst hkt
      have O3 := own_keep HO3.out hbel (Nat.le_refl _)
      have hnews := O3.cells rfl
      have HN := hid hnews
      clear hnews O3
      go_wp2_with (at_builtin; refine wpList_append_lies _ rfl (.tmp 38) (.tmp 39) 22 rfl w3.heap.size 3 i0 (.int .i64 0) 1 8 Tryz.underlying22 hi hz0 hz1 hz2 rfl (by omega) _ k (dcells (List.replicate k 0)) rfl hout ⟨g3, 0, none⟩ l3.length c3 (dcells l3) rfl (by simp [dcells]) HN.out (dcells_one _) (by omega) (by unfold maxLen; omega) (by omega) (by omega) wr.heap.size rfl ?_)
      intro g5 cap5 w5 hown5 hgrow hat hlt5
      have hrow := fun k (e : Value.ownBlock u13 = some k) => (hout.lt k e).1
      have B5 := hbel.grown hgrow (by omega) hrow
      have O2 := own_keep HO2.out B5 (Nat.le_refl _)
      have e5 : k + l3.length = (List.replicate k 0 ++ l3).length := by simp
      have hown6 : w5.ownsRow w3.heap.size 3 1 (.slice (some ⟨g5, 0, none⟩) (List.replicate k 0 ++ l3).length cap5) (List.replicate k 0 ++ l3).length (dcells (List.replicate k 0 ++ l3)) := by
        rw [← e5, dcells_append]; exact hown5
      have A := above_any _ _ _ _ _ _ l2 (List.replicate k 0 ++ l3) w5 O2 hown6 HG2.out (HG3.out.shift k (by omega)) (by omega)
      rw [← e5] at A
      have HF := hid (HB03.out.trans (B5.mono (by omega)))
      have S5 := B5.size
      clear hown5 hown6 hgrow hat hbel hout hrow B5 O2 e5
      have HA := hid A
      clear A
      go_wp2_with fail
      refine HA.out.mono ?_
      rintro e w6 ⟨rfl, B6⟩
      rw [below_eq p s k a b _ _ (by rw [dval_shift, HV3.out]) (by rw [HV2.out, HV1.out])]
      have HF6 := hid (HF.out.trans (B6.mono (by omega)))
      clear HA HF B6 HN HV1 HV2 HV3 HG2 HG3 HO2 HO3 HB03
      go_wp2
      go_ret
      exact ⟨rfl, HF6.out⟩

set_option maxHeartbeats 1600000 in
set_option maxRecDepth 1000000 in
theorem ref_yes (p s t a b : Nat) (w : World) (hp : p ≤ 1023) (ht1 : 1 ≤ t) (ht : t ≤ 240) (hs : s ≤ t) (hb : b ≤ 20) (ha : 1 ≤ a) (hab : a < b) :
    Calls Tryz.prog 60 #[.int .i64 (p : Int), .int .i64 (s : Int), .int .i64 (t : Int), .int .i64 (a : Int), .int .i64 (b : Int)] w fun e w' => e = .returned (.tuple #[.bool (leads p s t a b), .int .i64 0]) ∧ Below w.heap.size w w' := by
  go_enter Tryz.func60, Tryz.ntmps60
  go_wp2_with (go_at_call 83; refine (below_any p s t a b _ hp ht hs hb ha hab).mono ?_; rintro e w1 ⟨rfl, hB1⟩)
  go_ret2
  exact ⟨rfl, hB1⟩

set_option maxHeartbeats 1600000 in
set_option maxRecDepth 1000000 in
theorem ref_no (p s t a b : Int) (w : World) (h : ¬ okArgs p s t a b) :
    Calls Tryz.prog 60 #[.int .i64 p, .int .i64 s, .int .i64 t, .int .i64 a, .int .i64 b] w fun e w' => e = .returned (.tuple #[.bool false, .int .i64 1]) ∧ w' = w := by
  have hh : p < 0 ∨ 1024 ≤ p ∨ t < 1 ∨ 240 < t ∨ s < 0 ∨ t < s ∨ b < 2 ∨ 20 < b ∨ a < 1 ∨ b ≤ a := by unfold okArgs at h; omega
  clear h
  by_cases h1 : p < 0
  · go_enter Tryz.func60, Tryz.ntmps60
    go_wp2
    go_ret2
    exact ⟨rfl, rfl⟩
  by_cases h2 : 1024 ≤ p
  · go_enter Tryz.func60, Tryz.ntmps60
    go_wp2
    go_ret2
    exact ⟨rfl, rfl⟩
  by_cases h3 : t < 1
  · go_enter Tryz.func60, Tryz.ntmps60
    go_wp2
    go_ret2
    exact ⟨rfl, rfl⟩
  by_cases h4 : 240 < t
  · go_enter Tryz.func60, Tryz.ntmps60
    go_wp2
    go_ret2
    exact ⟨rfl, rfl⟩
  by_cases h5 : s < 0
  · go_enter Tryz.func60, Tryz.ntmps60
    go_wp2
    go_ret2
    exact ⟨rfl, rfl⟩
  by_cases h6 : t < s
  · go_enter Tryz.func60, Tryz.ntmps60
    go_wp2
    go_ret2
    exact ⟨rfl, rfl⟩
  by_cases h7 : b < 2
  · go_enter Tryz.func60, Tryz.ntmps60
    go_wp2
    go_ret2
    exact ⟨rfl, rfl⟩
  by_cases h8 : 20 < b
  · go_enter Tryz.func60, Tryz.ntmps60
    go_wp2
    go_ret2
    exact ⟨rfl, rfl⟩
  by_cases h9 : a < 1
  · go_enter Tryz.func60, Tryz.ntmps60
    go_wp2
    go_ret2
    exact ⟨rfl, rfl⟩
  have h10 : b ≤ a := by omega
  clear hh
  go_enter Tryz.func60, Tryz.ntmps60
  go_wp2
  go_ret2
  exact ⟨rfl, rfl⟩
end Go.Proofs.YtpaakikgfojplaaGreat

/-
  PLAIN MATHEMATICS: a tree of headers, by the document's words: lines, heights, what goes with a header, the tip, what is final, what is kept; and what a call of Turn, Offer, Look, Next, Back, Point answers. It imports nothing of the program.
-/
namespace Go.Proofs.YtpaakikgfojplaaGreat.Bk
open Num
set_option linter.unusedVariables false

structure Hdr where
  slot : Int
  pool : Int
  proof : Int
  count : Int
  frm : Int
  dst : Int
  amount : Int

structure Itm where
  hdr : Hdr
  par : Nat

structure Par where
  depth : Int
  epoch : Int
  room : Int
  a : Int
  b : Int
  nonce : Int
  stakes : List Int

structure St where
  par : Par
  all : List Itm
  keep : List Nat
  pts : List Nat

def zeroH : Hdr := ⟨0, 0, 0, 0, 0, 0, 0⟩
def zeroI : Itm := ⟨zeroH, 0⟩

def eqH (h g : Hdr) : Bool := h.slot == g.slot && h.pool == g.pool && h.proof == g.proof && h.count == g.count && h.frm == g.frm && h.dst == g.dst && h.amount == g.amount

theorem eqH_iff (h g : Hdr) : eqH h g = true ↔ h = g := by
  cases h; cases g; simp [eqH, and_assoc]

def item (all : List Itm) (i : Nat) : Itm := all.getD i zeroI
def pa (all : List Itm) (i : Nat) : Nat := (item all i).par
def hd (all : List Itm) (i : Nat) : Hdr := (item all i).hdr

/-- From the first header to this one. -/
def lineF (all : List Itm) : Nat → Nat → List Nat
  | _, 0 => [0]
  | 0, _ + 1 => [0]
  | f + 1, n + 1 => lineF all f (pa all (n + 1)) ++ [n + 1]
def line (all : List Itm) (i : Nat) : List Nat := lineF all i i

/-- Parents come first. -/
def Tree (all : List Itm) : Prop := ∀ i, 0 < i → pa all i < i

theorem lineF_zero (all : List Itm) (f : Nat) : lineF all f 0 = [0] := by cases f <;> rfl

theorem lineF_fuel {all : List Itm} (ht : Tree all) : ∀ (f f' i : Nat), i ≤ f → i ≤ f' → lineF all f i = lineF all f' i := by
  intro f
  induction f with
  | zero => intro f' i h _; have : i = 0 := by omega
            subst this; rw [lineF_zero, lineF_zero]
  | succ f ih =>
    intro f' i h h'
    cases i with
    | zero => rw [lineF_zero, lineF_zero]
    | succ n =>
      cases f' with
      | zero => omega
      | succ f' =>
        have := ht (n + 1) (by omega)
        simp only [lineF]
        rw [ih f' _ (by omega) (by omega)]

theorem line_zero (all : List Itm) : line all 0 = [0] := rfl

theorem line_step {all : List Itm} (ht : Tree all) {i : Nat} (h : 0 < i) : line all i = line all (pa all i) ++ [i] := by
  cases i with
  | zero => omega
  | succ n =>
    have := ht (n + 1) (by omega)
    unfold line
    simp only [lineF]
    rw [lineF_fuel ht n (pa all (n + 1)) _ (by omega) (Nat.le_refl _)]

/-- Induction along a line. -/
theorem line_ind {all : List Itm} (ht : Tree all) (p : Nat → Prop) (h0 : p 0) (hs : ∀ i, 0 < i → p (pa all i) → p i) : ∀ i, p i := by
  have key : ∀ n i, i ≤ n → p i := by
    intro n
    induction n with
    | zero => intro i h; have : i = 0 := by omega
              subst this; exact h0
    | succ n ih =>
      intro i h
      cases i with
      | zero => exact h0
      | succ k => have := ht (k + 1) (by omega); exact hs _ (by omega) (ih _ (by omega))
  exact fun i => key i i (Nat.le_refl _)

theorem line_ne {all : List Itm} (ht : Tree all) (i : Nat) : 1 ≤ (line all i).length := by
  cases i with
  | zero => simp [line_zero]
  | succ n => rw [line_step ht (by omega)]; simp

def height (all : List Itm) (i : Nat) : Nat := (line all i).length - 1

theorem height_zero (all : List Itm) : height all 0 = 0 := rfl
theorem height_step {all : List Itm} (ht : Tree all) {i : Nat} (h : 0 < i) : height all i = height all (pa all i) + 1 := by
  unfold height
  rw [line_step ht h]
  have := line_ne ht (pa all i)
  simp; omega
theorem line_length {all : List Itm} (ht : Tree all) (i : Nat) : (line all i).length = height all i + 1 := by
  have := line_ne ht i
  unfold height; omega

theorem height_le {all : List Itm} (ht : Tree all) (i : Nat) : height all i ≤ i := by
  refine line_ind ht (fun i => height all i ≤ i) (by simp [height_zero]) ?_ i
  intro i h hp
  have := ht i h
  rw [height_step ht h]; omega

theorem line_le {all : List Itm} (ht : Tree all) (i : Nat) : ∀ k ∈ line all i, k ≤ i := by
  refine line_ind ht (fun i => ∀ k ∈ line all i, k ≤ i) (by simp [line_zero]) ?_ i
  intro i h hp k hk
  rw [line_step ht h, List.mem_append] at hk
  have := ht i h
  rcases hk with hk | hk
  · have := hp k hk; omega
  · simp at hk; omega

theorem line_self {all : List Itm} (ht : Tree all) (i : Nat) : i ∈ line all i := by
  cases i with
  | zero => simp [line_zero]
  | succ n => rw [line_step ht (by omega)]; simp

theorem line_zero_mem {all : List Itm} (ht : Tree all) (i : Nat) : 0 ∈ line all i := by
  refine line_ind ht (fun i => 0 ∈ line all i) (by simp [line_zero]) ?_ i
  intro i h hp
  rw [line_step ht h]; simp [hp]

/-- The line of a header in a line is that line's beginning. -/
theorem line_prefix {all : List Itm} (ht : Tree all) (i : Nat) : ∀ k ∈ line all i, line all k = (line all i).take (height all k + 1) := by
  refine line_ind ht (fun i => ∀ k ∈ line all i, line all k = (line all i).take (height all k + 1)) ?_ ?_ i
  · intro k hk
    simp [line_zero] at hk
    subst hk
    simp [line_zero]
  · intro i h hp k hk
    rw [line_step ht h, List.mem_append] at hk
    rcases hk with hk | hk
    · have := hp k hk
      have h2 : height all k + 1 ≤ (line all (pa all i)).length := by
        have e := congrArg List.length this
        rw [line_length ht, List.length_take] at e
        omega
      rw [line_step ht h, List.take_append_of_le_length h2]
      exact this
    · simp at hk
      subst hk
      rw [← line_length ht, List.take_length]

theorem height_mem {all : List Itm} (ht : Tree all) {i k : Nat} (hk : k ∈ line all i) : height all k ≤ height all i := by
  have e := congrArg List.length (line_prefix ht i k hk)
  rw [line_length ht, List.length_take, line_length ht] at e
  omega

theorem line_trans {all : List Itm} (ht : Tree all) {i j k : Nat} (h1 : k ∈ line all j) (h2 : j ∈ line all i) : k ∈ line all i := by
  rw [line_prefix ht i j h2] at h1
  exact List.mem_of_mem_take h1

/-- The place of a header in a line is its height. -/
theorem line_at {all : List Itm} (ht : Tree all) (i n : Nat) (hn : n ≤ height all i) : ∃ k, (line all i)[n]? = some k ∧ k ∈ line all i ∧ height all k = n := by
  revert n
  refine line_ind ht (fun i => ∀ n, n ≤ height all i → ∃ k, (line all i)[n]? = some k ∧ k ∈ line all i ∧ height all k = n) ?_ ?_ i
  · intro n hn
    rw [height_zero] at hn
    have : n = 0 := by omega
    subst this
    exact ⟨0, rfl, by simp [line_zero], rfl⟩
  · intro i h hp n hn
    rw [height_step ht h] at hn
    by_cases hlt : n ≤ height all (pa all i)
    · obtain ⟨k, h1, h2, h3⟩ := hp n hlt
      refine ⟨k, ?_, ?_, h3⟩
      · rw [line_step ht h, List.getElem?_append_left (by rw [line_length ht]; omega)]; exact h1
      · rw [line_step ht h]; simp [h2]
    · have e : n = height all (pa all i) + 1 := by omega
      subst e
      refine ⟨i, ?_, line_self ht i, height_step ht h⟩
      rw [line_step ht h, List.getElem?_append_right (by rw [line_length ht]; omega), line_length ht]
      simp

/-- Two headers of one height in one line are one. -/
theorem line_unique {all : List Itm} (ht : Tree all) {i k m : Nat} (hk : k ∈ line all i) (hm : m ∈ line all i) (h : height all k = height all m) : k = m := by
  have e : line all k = line all m := by rw [line_prefix ht i k hk, line_prefix ht i m hm, h]
  have h1 := line_self ht m
  rw [← e] at h1
  have h2 := line_self ht k
  rw [e] at h2
  have := line_le ht k m h1
  have := line_le ht m k h2
  omega

/-- Of two headers in one line the lower is in the other's line. -/
theorem line_mem_of_le {all : List Itm} (ht : Tree all) {i k m : Nat} (hk : k ∈ line all i) (hm : m ∈ line all i) (h : height all k ≤ height all m) : k ∈ line all m := by
  obtain ⟨k', h1, h2, h3⟩ := line_at ht m (height all k) h
  have := line_unique ht hk (line_trans ht h2 hm) h3.symm
  rw [this]; exact h2

/-! ### One header more -/

theorem item_old (all : List Itm) (x : Itm) {i : Nat} (h : i < all.length) : item (all ++ [x]) i = item all i := by
  simp [item, List.getD, List.getElem?_append_left h]
theorem item_new (all : List Itm) (x : Itm) : item (all ++ [x]) all.length = x := by
  simp [item, List.getD]
theorem item_past (all : List Itm) {i : Nat} (h : all.length ≤ i) : item all i = zeroI := by
  simp [item, List.getD, List.getElem?_eq_none h]

theorem tree_more {all : List Itm} (ht : Tree all) {x : Itm} (h0 : 0 < all.length) (h : x.par < all.length) : Tree (all ++ [x]) := by
  intro i hi
  unfold pa
  rcases Nat.lt_trichotomy i all.length with hl | hl | hl
  · rw [item_old _ _ hl]; exact ht i hi
  · subst hl; rw [item_new]; exact h
  · rw [item_past _ (by simp; omega)]; show 0 < i; omega

theorem line_old {all : List Itm} (ht : Tree all) {x : Itm} (h0 : 0 < all.length) (h : x.par < all.length) (i : Nat) (hi : i < all.length) : line (all ++ [x]) i = line all i := by
  have ht' := tree_more ht h0 h
  revert hi
  refine line_ind ht (fun i => i < all.length → line (all ++ [x]) i = line all i) (fun _ => rfl) ?_ i
  intro i hi hp hl
  rw [line_step ht' hi, line_step ht hi]
  have e : pa (all ++ [x]) i = pa all i := by unfold pa; rw [item_old _ _ hl]
  rw [e, hp (by have := ht i hi; omega)]

theorem line_new {all : List Itm} (ht : Tree all) {x : Itm} (h0 : 0 < all.length) (h : x.par < all.length) : line (all ++ [x]) all.length = line all x.par ++ [all.length] := by
  have ht' := tree_more ht h0 h
  rw [line_step ht' h0]
  have e : pa (all ++ [x]) all.length = x.par := by unfold pa; rw [item_new]
  rw [e, line_old ht h0 h _ h]

theorem height_old {all : List Itm} (ht : Tree all) {x : Itm} (h0 : 0 < all.length) (h : x.par < all.length) (i : Nat) (hi : i < all.length) : height (all ++ [x]) i = height all i := by
  unfold height; rw [line_old ht h0 h i hi]
theorem height_new {all : List Itm} (ht : Tree all) {x : Itm} (h0 : 0 < all.length) (h : x.par < all.length) : height (all ++ [x]) all.length = height all x.par + 1 := by
  unfold height; rw [line_new ht h0 h]
  have := line_ne ht x.par
  simp; omega

end Go.Proofs.YtpaakikgfojplaaGreat.Bk

/-
  PLAIN MATHEMATICS: what goes with a header; the tip, what is final, what is kept; what each call answers, and what it leaves.
-/
namespace Go.Proofs.YtpaakikgfojplaaGreat.Bk
open Num
set_option linter.unusedVariables false

/-! ### What goes with a header -/

def moveS (s : List Int) (h : Hdr) : List Int :=
  (s.set h.frm.toNat (s.getD h.frm.toNat 0 - h.amount)).set h.dst.toNat ((s.set h.frm.toNat (s.getD h.frm.toNat 0 - h.amount)).getD h.dst.toNat 0 + h.amount)
def countS (pool : Int) (n : Int) (h : Hdr) : Int := if h.pool = pool then h.count else n
def runS (epoch : Int) (n : Int) (h : Hdr) : Int := if 3 * (h.slot % epoch) < 2 * epoch then (n * 257 + h.proof + 1) % 65521 else n

def stakesAt (p : Par) (all : List Itm) (i : Nat) : List Int := (line all i).tail.foldl (fun s k => moveS s (hd all k)) p.stakes
def countAt (all : List Itm) (pool : Int) (i : Nat) : Int := (line all i).tail.foldl (fun n k => countS pool n (hd all k)) 0
def runAt (p : Par) (all : List Itm) (i : Nat) : Int := (line all i).tail.foldl (fun n k => runS p.epoch n (hd all k)) p.nonce
def lastAt (p : Par) (all : List Itm) (e : Int) (i : Nat) : Nat := (line all i).tail.foldl (fun o k => if (hd all k).slot / p.epoch < e then k else o) 0

theorem fold_step {α : Type} {all : List Itm} (ht : Tree all) (f : α → Nat → α) (a : α) {i : Nat} (h : 0 < i) :
    (line all i).tail.foldl f a = f ((line all (pa all i)).tail.foldl f a) i := by
  rw [line_step ht h, List.tail_append_of_ne_nil (by intro e; have := line_ne ht (pa all i); rw [e] at this; simp at this), List.foldl_append]
  rfl

theorem stakesAt_zero (p : Par) (all : List Itm) : stakesAt p all 0 = p.stakes := rfl
theorem stakesAt_step (p : Par) {all : List Itm} (ht : Tree all) {i : Nat} (h : 0 < i) : stakesAt p all i = moveS (stakesAt p all (pa all i)) (hd all i) := fold_step ht _ _ h
theorem countAt_zero (all : List Itm) (pool : Int) : countAt all pool 0 = 0 := rfl
theorem countAt_step {all : List Itm} (pool : Int) (ht : Tree all) {i : Nat} (h : 0 < i) : countAt all pool i = countS pool (countAt all pool (pa all i)) (hd all i) := fold_step ht _ _ h
theorem runAt_zero (p : Par) (all : List Itm) : runAt p all 0 = p.nonce := rfl
theorem runAt_step (p : Par) {all : List Itm} (ht : Tree all) {i : Nat} (h : 0 < i) : runAt p all i = runS p.epoch (runAt p all (pa all i)) (hd all i) := fold_step ht _ _ h
theorem lastAt_zero (p : Par) (all : List Itm) (e : Int) : lastAt p all e 0 = 0 := rfl
theorem lastAt_step (p : Par) {all : List Itm} (e : Int) (ht : Tree all) {i : Nat} (h : 0 < i) : lastAt p all e i = if (hd all i).slot / p.epoch < e then i else lastAt p all e (pa all i) :=
  fold_step (α := Nat) ht (fun o k => if (hd all k).slot / p.epoch < e then k else o) 0 h

theorem lastAt_mem (p : Par) {all : List Itm} (ht : Tree all) (e : Int) (i : Nat) : lastAt p all e i ∈ line all i := by
  refine line_ind ht (fun i => lastAt p all e i ∈ line all i) (by simp [lastAt_zero, line_zero]) ?_ i
  intro i h hp
  rw [lastAt_step p e ht h, line_step ht h]
  split
  · simp
  · simp [hp]

/-! ### Tip, final, kept -/

/-- The better of two for the tip: the higher one; of one height the lesser number. -/
def better (all : List Itm) (k best : Nat) : Bool := decide (height all best < height all k) || (decide (height all k = height all best) && decide (k < best))
def tipL (all : List Itm) (l : List Nat) : Nat := l.foldl (fun best k => if better all k best then k else best) (l.headD 0)
def tip (s : St) : Nat := tipL s.all s.keep
def finOf (p : Par) (all : List Itm) (t : Nat) : Nat := if (height all t : Int) < p.depth then 0 else (line all t).getD (height all t - p.depth.toNat) 0
def fin (s : St) : Nat := finOf s.par s.all (tip s)

def has (l : List Nat) (i : Int) : Bool := l.any fun k => (k : Int) == i

theorem has_iff (l : List Nat) (i : Int) : has l i = true ↔ ∃ k ∈ l, (k : Int) = i := by simp [has]
theorem has_nat (l : List Nat) (i : Nat) : has l (i : Int) = true ↔ i ∈ l := by
  rw [has_iff]
  constructor
  · rintro ⟨k, hk, he⟩; have : k = i := by omega
    subst this; exact hk
  · intro h; exact ⟨i, h, rfl⟩

/-- The error of a header that is asked for: 0 kept, 2 old, 3 none. -/
def missing (s : St) (id : Int) : Int := if has s.keep id then 0 else if has (line s.all (fin s)) id then 2 else 3

def poolOk (s : St) (n : Int) : Bool := decide (0 ≤ n) && decide (n < s.par.stakes.length)
def slotOk (s : St) (id : Nat) (slot : Int) : Bool := decide (0 ≤ slot) && decide (slot ≤ 10000) && (decide (id = 0) || decide ((hd s.all id).slot < slot))

/-! ### The draw -/
def drawN (nonce slot pool : Int) : Int := ((nonce * 4099 + slot * 769 + pool * 97 + 12345) % 65521 * ((nonce * 4099 + slot * 769 + pool * 97 + 12345) % 65521)) % 65521 % 1024

def nonceAt (s : St) (id : Nat) (slot : Int) : Int := runAt s.par s.all (lastAt s.par s.all (slot / s.par.epoch) id)
def oldStakes (s : St) (id : Nat) (slot : Int) : List Int := stakesAt s.par s.all (lastAt s.par s.all (slot / s.par.epoch - 1) id)
def proofAt (s : St) (id : Nat) (slot pool : Int) : Int := drawN (nonceAt s id slot) slot pool
def stakeAt (s : St) (id : Nat) (slot pool : Int) : Int := (oldStakes s id slot).getD pool.toNat 0
def total (p : Par) : Int := p.stakes.sum
def leadsAt (s : St) (id : Nat) (slot pool : Int) : Bool := leads (proofAt s id slot pool).toNat (stakeAt s id slot pool).toNat (total s.par).toNat s.par.a.toNat s.par.b.toNat

/-- The error of Turn: 0 none. -/
def turnErr (s : St) (id slot pool : Int) : Int :=
  if missing s id ≠ 0 then missing s id else if slotOk s id.toNat slot = false then 4 else if poolOk s pool = false then 5 else 0

/-- The kept header with this parent that is the same in all; 0: none. -/
def there (s : St) (parent : Int) (h : Hdr) : Nat := ((s.keep.find? fun k => decide (0 < k) && ((pa s.all k : Int) == parent) && eqH (hd s.all k) h).getD 0)

/-- The error of Offer, but for the last one. -/
def refused (s : St) (parent : Int) (h : Hdr) : Int :=
  if turnErr s parent h.slot h.pool ≠ 0 then turnErr s parent h.slot h.pool
  else if h.count ≠ countAt s.all h.pool parent.toNat ∧ h.count ≠ countAt s.all h.pool parent.toNat + 1 then 6
  else if poolOk s h.frm = false ∨ poolOk s h.dst = false then 7
  else if h.amount < 0 ∨ (stakesAt s.par s.all parent.toNat).getD h.frm.toNat 0 < h.amount then 7
  else if h.proof ≠ proofAt s parent.toNat h.slot h.pool then 8
  else if leadsAt s parent.toNat h.slot h.pool = false then 9
  else if 0 < there s parent h then 10
  else 0

def offerErr (s : St) (parent : Int) (h : Hdr) : Int := if refused s parent h ≠ 0 then refused s parent h else if s.par.room ≤ s.keep.length then 11 else 0

/-- A header is accepted: the tip among all that were kept and the new one; what is final; what has it in its line. -/
def taken (s : St) (parent : Nat) (h : Hdr) : St :=
  { s with
    all := s.all ++ [⟨h, parent⟩],
    keep := (s.keep ++ [s.all.length]).filter fun k => has (line (s.all ++ [⟨h, parent⟩]) k) (finOf s.par (s.all ++ [⟨h, parent⟩]) (tipL (s.all ++ [⟨h, parent⟩]) (s.keep ++ [s.all.length]))) }
def offer (s : St) (parent : Int) (h : Hdr) : St := if offerErr s parent h = 0 then taken s parent.toNat h else s
def offerId (s : St) (parent : Int) (h : Hdr) : Int := if offerErr s parent h = 0 then s.all.length else 0

/-! ### What a chain may be -/

structure ParOk (p : Par) : Prop where
  d1 : 1 ≤ p.depth
  d2 : p.depth ≤ 8
  e1 : 1 ≤ p.epoch
  e2 : p.epoch ≤ 50
  r1 : 2 ≤ p.room
  r2 : p.room ≤ 40
  b2 : p.b ≤ 20
  a1 : 1 ≤ p.a
  a2 : p.a < p.b
  n1 : 0 ≤ p.nonce
  n2 : p.nonce < 65521
  l1 : 1 ≤ p.stakes.length
  l2 : p.stakes.length ≤ 6
  s1 : ∀ x ∈ p.stakes, 0 ≤ x ∧ x ≤ 40
  s2 : 0 < p.stakes.sum

/-- A header that was accepted behind its parent. -/
structure HdrOk (p : Par) (all : List Itm) (i : Nat) : Prop where
  slot0 : 0 ≤ (hd all i).slot
  slot1 : (hd all i).slot ≤ 10000
  slot2 : pa all i = 0 ∨ (hd all (pa all i)).slot < (hd all i).slot
  pool0 : 0 ≤ (hd all i).pool
  pool1 : (hd all i).pool < p.stakes.length
  frm0 : 0 ≤ (hd all i).frm
  frm1 : (hd all i).frm < p.stakes.length
  dst0 : 0 ≤ (hd all i).dst
  dst1 : (hd all i).dst < p.stakes.length
  proof0 : 0 ≤ (hd all i).proof
  proof1 : (hd all i).proof < 1024
  amount0 : 0 ≤ (hd all i).amount
  amount1 : (hd all i).amount ≤ (stakesAt p all (pa all i)).getD (hd all i).frm.toNat 0
  count0 : (hd all i).count = countAt all (hd all i).pool (pa all i) ∨ (hd all i).count = countAt all (hd all i).pool (pa all i) + 1

structure Inv (s : St) : Prop where
  par : ParOk s.par
  tree : Tree s.all
  len : 0 < s.all.length
  zero : item s.all 0 = zeroI
  hdrs : ∀ i, 0 < i → i < s.all.length → HdrOk s.par s.all i
  rise : s.keep.Pairwise (· < ·)
  keep : ∀ i, i ∈ s.keep ↔ i < s.all.length ∧ fin s ∈ line s.all i
  tipin : tip s ∈ s.keep
  high : ∀ i, i < s.all.length → height s.all i ≤ height s.all (tip s)
  first : ∀ i, i < tip s → height s.all i < height s.all (tip s)
  full : (s.keep.length : Int) ≤ s.par.room
  few : s.all.length ≤ 41 * height s.all (tip s) + s.keep.length
  pts : s.pts.length = 4
  ptl : ∀ x ∈ s.pts, x < s.all.length

end Go.Proofs.YtpaakikgfojplaaGreat.Bk

