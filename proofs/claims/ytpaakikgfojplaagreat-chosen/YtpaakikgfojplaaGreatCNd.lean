import Derived.Test.YtpaakikgfojplaaGreatCM15
import Derived.Test.YtpaakikgfojplaaGreatCM5
/-
  PLAIN MATHEMATICS: the program's nodes: what is found, the tip, the header that is deep, what is left.
-/
namespace Go.Proofs.YtpaakikgfojplaaGreat.Bk
open Num
set_option linter.unusedVariables false

structure Nd where
  id : Int
  par : Int
  height : Int
  hdr : Hdr
  pg : Pg

def zeroP : Pg := ⟨0, fun _ => 0, fun _ => 0, 0, 0, fun _ => 0, fun _ => 0⟩
def zeroN : Nd := ⟨0, 0, 0, zeroH, zeroP⟩

def ndOf (p : Par) (all : List Itm) (k : Nat) : Nd := ⟨k, if k = 0 then -1 else pa all k, height all k, hd all k, pageOf p all k⟩

def findN (l : List Nd) (id : Int) : Option Nd := l.find? fun n => n.id == id
def findErr (l : List Nd) (past : List Nat) (id : Int) : Int := if (findN l id).isSome then 0 else if has past id then 2 else 3
def tipN (l : List Nd) : Nd := l.tail.foldl (fun best n => if best.height < n.height then n else best) (l.headD zeroN)
def deepN (l : List Nd) : Nat → Nd → Nd
  | 0, n => n
  | k + 1, n => match findN l n.par with
    | none => n
    | some q => deepN l k q
def amongN (l : List Nd) (id : Int) : Bool := l.any fun n => n.id == id
def keptN (l : List Nd) (f : Nd) : List Nd := l.foldl (fun left n => if amongN left n.par then left ++ [n] else left) [f]
def hasN (l : List Nd) (parent : Int) (h : Hdr) : Bool := l.any fun n => (n.par == parent) && eqH n.hdr h
/-- The number of the header that is the same; 0: none. -/
def twinN (l : List Nd) (parent : Int) (h : Hdr) : Int := ((l.find? fun n => (n.par == parent) && eqH n.hdr h).map (·.id)).getD 0
theorem hasN_find (l : List Nd) (parent : Int) (h : Hdr) : hasN l parent h = (l.find? fun n => (n.par == parent) && eqH n.hdr h).isSome := by
  unfold hasN
  induction l with
  | nil => rfl
  | cons a l ih =>
    rw [List.any_cons, List.find?_cons, ih]
    cases ((a.par == parent) && eqH a.hdr h) <;> rfl

theorem findN_map (p : Par) (all : List Itm) (l : List Nat) (id : Int) : findN (l.map (ndOf p all)) id = if has l id then some (ndOf p all id.toNat) else none := by
  induction l with
  | nil => rfl
  | cons k l ih =>
    unfold findN at ih ⊢
    rw [List.map_cons, List.find?_cons, ih]
    have e : (ndOf p all k).id = (k : Int) := rfl
    rw [e]
    by_cases h : (k : Int) = id
    · subst h
      simp [has]
    · have h' : ((k : Int) == id) = false := by simp [h]
      rw [h']
      simp only [has, List.any_cons, h', Bool.false_or]
      rfl

theorem among_map (p : Par) (all : List Itm) (l : List Nat) (id : Int) : amongN (l.map (ndOf p all)) id = has l id := by
  unfold amongN has
  rw [List.any_map]; rfl

theorem line_drop {all : List Itm} (ht : Tree all) (i : Nat) : line all i = (line all i).dropLast ++ [i] := by
  rcases Nat.eq_zero_or_pos i with h | h
  · subst h; rfl
  · rw [line_step ht h]; simp

theorem fin_keep {s : St} (hi : Inv s) : fin s ∈ s.keep := (hi.keep _).2 ⟨fin_lt hi, line_self hi.tree _⟩

theorem findErr_map {s : St} (hi : Inv s) (id : Int) : findErr (s.keep.map (ndOf s.par s.all)) (line s.all (fin s)).dropLast id = missing s id := by
  unfold findErr missing
  rw [findN_map]
  cases hh : has s.keep id
  · have hl := line_drop hi.tree (fin s)
    have hn : ((fin s : Nat) : Int) ≠ id := by
      intro e
      rw [← e, (has_nat _ _).2 (fin_keep hi)] at hh
      simp at hh
    have e : has (line s.all (fin s)) id = has (line s.all (fin s)).dropLast id := by
      conv => lhs; rw [hl]
      unfold has
      rw [List.any_append]
      have : (((fin s : Nat) : Int) == id) = false := by simp [hn]
      simp [this]
    rw [e]
    simp
  · simp

theorem tip_fold_map (p : Par) (all : List Itm) : ∀ (l : List Nat) (best : Nat), (∀ k ∈ l, best < k) → l.Pairwise (· < ·) →
    (l.map (ndOf p all)).foldl (fun best n => if best.height < n.height then n else best) (ndOf p all best) = ndOf p all (l.foldl (fun best k => if better all k best then k else best) best) := by
  intro l
  induction l with
  | nil => intro best _ _; rfl
  | cons k l ih =>
    intro best h1 h2
    rw [List.pairwise_cons] at h2
    have hk := h1 k (by simp)
    simp only [List.map_cons, List.foldl_cons]
    by_cases h : height all best < height all k
    · rw [if_pos (show (ndOf p all best).height < (ndOf p all k).height from by show ((height all best : Nat) : Int) < (height all k : Nat); omega), if_pos (by simp [better, h])]
      exact ih k h2.1 h2.2
    · rw [if_neg (show ¬ (ndOf p all best).height < (ndOf p all k).height from by show ¬ ((height all best : Nat) : Int) < (height all k : Nat); omega), if_neg (by simp [better]; omega)]
      exact ih best (fun j hj => h1 j (by simp [hj])) h2.2

theorem tipN_map (p : Par) (all : List Itm) (l : List Nat) (hne : l ≠ []) (hp : l.Pairwise (· < ·)) : tipN (l.map (ndOf p all)) = ndOf p all (tipL all l) := by
  cases l with
  | nil => exact absurd rfl hne
  | cons a l =>
    rw [List.pairwise_cons] at hp
    have h := tip_fold_map p all l a hp.1 hp.2
    have e : better all a a = false := by simp [better]
    show (l.map (ndOf p all)).foldl _ (ndOf p all a) = ndOf p all ((a :: l).foldl _ a)
    rw [h, List.foldl_cons, e]; rfl

theorem deepN_line {all : List Itm} (ht : Tree all) (p : Par) (L : List Nat) (f : Nat) (hL : ∀ k, k < all.length → f ∈ line all k → k ∈ L) : ∀ (n t g : Nat), t < all.length → f ∈ line all t → (f = 0 ∨ height all f ≤ height all t - n) → (0 < f → n ≤ height all t) → g ∈ line all t → height all g = height all t - n →
    deepN (L.map (ndOf p all)) n (ndOf p all t) = ndOf p all g := by
  intro n
  induction n with
  | zero =>
    intro t g htl hf hd hn hg hgh
    have : g = t := line_unique ht hg (line_self ht t) (by omega)
    rw [this]; rfl
  | succ n ih =>
    intro t g htl hf hd hn hg hgh
    unfold deepN
    rw [findN_map]
    by_cases e : t = f
    · subst e
      have h0 : t = 0 := by
        rcases Nat.eq_zero_or_pos t with h | h
        · exact h
        · have := height_step ht h
          have := hn h
          omega
      subst h0
      have : has L (ndOf p all 0).par = false := by
        cases hh : has L (ndOf p all 0).par
        · rfl
        · rw [has_iff] at hh
          obtain ⟨k, _, hk⟩ := hh
          simp [ndOf] at hk
      rw [this]
      rw [line_zero] at hg
      simp at hg
      subst hg; rfl
    · have h0 : 0 < t := by
        rcases Nat.eq_zero_or_pos t with h | h
        · subst h; rw [line_zero] at hf; simp at hf; omega
        · exact h
      have hs := line_step ht h0
      have hh := height_step ht h0
      have hpt := ht t h0
      have hf' : f ∈ line all (pa all t) := by
        rw [hs, List.mem_append] at hf
        rcases hf with h | h
        · exact h
        · simp at h; exact absurd h.symm e
      have hg' : g ∈ line all (pa all t) := by
        rw [hs, List.mem_append] at hg
        rcases hg with h | h
        · exact h
        · simp at h; subst h; omega
      have hm := hL (pa all t) (by omega) hf'
      have hpar : (ndOf p all t).par = ((pa all t : Nat) : Int) := by simp [ndOf]; omega
      rw [hpar, if_pos ((has_nat _ _).2 hm), Int.toNat_natCast]
      exact ih (pa all t) g (by omega) hf' (by omega) (fun h => by have := hn h; omega) hg' (by omega)

theorem kept_fold {all : List Itm} (ht : Tree all) (p : Par) (L : List Nat) (F : Nat) (hp : L.Pairwise (· < ·)) (hL : ∀ k, F ∈ line all k → k < all.length → k ∈ L) (hlt : ∀ k ∈ L, k < all.length) :
    ∀ (suf pre : List Nat), L = pre ++ suf → (suf.map (ndOf p all)).foldl (fun left n => if amongN left n.par then left ++ [n] else left) ((F :: pre.filter fun k => decide (k ≠ F) && has (line all k) F).map (ndOf p all)) =
      (F :: L.filter fun k => decide (k ≠ F) && has (line all k) F).map (ndOf p all) := by
  intro suf
  induction suf with
  | nil => intro pre h; simp at h; subst h; rfl
  | cons k suf ih =>
    intro pre h
    have hk : k ∈ L := by rw [h]; simp
    have hkl := hlt k hk
    rw [show (k :: suf).map (ndOf p all) = ndOf p all k :: suf.map (ndOf p all) from rfl, List.foldl_cons, among_map]
    have hiff : has (F :: pre.filter fun k => decide (k ≠ F) && has (line all k) F) (ndOf p all k).par = (decide (k ≠ F) && has (line all k) F) := by
      rw [Bool.eq_iff_iff, has_iff]
      constructor
      · rintro ⟨j, hj, he⟩
        have h0 : 0 < k := by
          rcases Nat.eq_zero_or_pos k with h | h
          · subst h; simp [ndOf] at he
          · exact h
        have e : (ndOf p all k).par = ((pa all k : Nat) : Int) := by simp [ndOf]; omega
        rw [e] at he
        have e2 : j = pa all k := by omega
        subst e2
        have hF : F ∈ line all (pa all k) := by
          rcases List.mem_cons.1 hj with h | h
          · rw [h]; exact line_self ht _
          · rw [List.mem_filter] at h
            have := h.2
            simp at this
            exact (has_nat _ _).1 this.2
        have hF2 : F ∈ line all k := by rw [line_step ht h0]; simp [hF]
        have := line_le ht _ _ hF
        have := ht k h0
        simp only [Bool.and_eq_true, decide_eq_true_eq]
        exact ⟨by omega, (has_nat _ _).2 hF2⟩
      · intro hh
        simp only [Bool.and_eq_true, decide_eq_true_eq] at hh
        obtain ⟨h1, h2⟩ := hh
        rw [has_nat] at h2
        have h0 : 0 < k := by
          rcases Nat.eq_zero_or_pos k with h | h
          · subst h; rw [line_zero] at h2; simp at h2; omega
          · exact h
        have e : (ndOf p all k).par = ((pa all k : Nat) : Int) := by simp [ndOf]; omega
        have hF : F ∈ line all (pa all k) := by
          rw [line_step ht h0, List.mem_append] at h2
          rcases h2 with h | h
          · exact h
          · simp at h; omega
        have hpk := ht k h0
        refine ⟨pa all k, ?_, e.symm⟩
        rw [List.mem_cons]
        by_cases e3 : pa all k = F
        · exact Or.inl e3
        · right
          rw [List.mem_filter]
          refine ⟨?_, by simp [e3, (has_nat _ _).2 hF]⟩
          have hm := hL (pa all k) hF (by omega)
          rw [h, List.mem_append] at hm
          rcases hm with hm | hm
          · exact hm
          · rw [h, List.pairwise_append] at hp
            rcases List.mem_cons.1 hm with hm | hm
            · omega
            · have := (List.pairwise_cons.1 hp.2.1).1 _ hm
              omega
    have hnext := ih (pre ++ [k]) (by rw [h]; simp)
    rw [List.filter_append] at hnext
    rw [hiff]
    cases hc : (decide (k ≠ F) && has (line all k) F)
    · simp only [List.filter_cons, hc, List.filter_nil] at hnext
      simpa using hnext
    · simp only [List.filter_cons, hc, List.filter_nil] at hnext
      rw [if_pos rfl]
      rw [← List.map_singleton, ← List.map_append, List.cons_append]
      simpa using hnext

theorem kept_map {all : List Itm} (ht : Tree all) (p : Par) (L : List Nat) (F : Nat) (hp : L.Pairwise (· < ·)) (hL : ∀ k, F ∈ line all k → k < all.length → k ∈ L) (hlt : ∀ k ∈ L, k < all.length) (hF : F < all.length) :
    keptN (L.map (ndOf p all)) (ndOf p all F) = (L.filter fun k => has (line all k) F).map (ndOf p all) := by
  have h := kept_fold ht p L F hp hL hlt L [] rfl
  have e : (L.filter fun k => has (line all k) F) = F :: L.filter fun k => decide (k ≠ F) && has (line all k) F := by
    refine sorted_eq _ _ (hp.filter _) ?_ ?_
    · rw [List.pairwise_cons]
      refine ⟨?_, hp.filter _⟩
      intro k hk
      rw [List.mem_filter] at hk
      have h2 := hk.2
      simp only [Bool.and_eq_true, decide_eq_true_eq] at h2
      have := line_le ht _ _ ((has_nat _ _).1 h2.2)
      omega
    · intro k
      rw [List.mem_filter, List.mem_cons, List.mem_filter]
      simp only [Bool.and_eq_true, decide_eq_true_eq]
      constructor
      · rintro ⟨h1, h2⟩
        by_cases e : k = F
        · exact Or.inl e
        · exact Or.inr ⟨h1, e, h2⟩
      · rintro (h1 | ⟨h1, _, h2⟩)
        · subst h1
          exact ⟨hL k (line_self ht k) hF, (has_nat _ _).2 (line_self ht k)⟩
        · exact ⟨h1, h2⟩
  rw [e]
  exact h

theorem twinN_map {s : St} (parent : Int) (h : Hdr) (hp : 0 ≤ parent) : twinN (s.keep.map (ndOf s.par s.all)) parent h = ((there s parent h : Nat) : Int) := by
  unfold twinN there
  rw [List.find?_map]
  have e : ((fun n : Nd => (n.par == parent) && eqH n.hdr h) ∘ ndOf s.par s.all) = (fun k => decide (0 < k) && ((pa s.all k : Int) == parent) && eqH (hd s.all k) h) := by
    funext k
    show (((if k = 0 then (-1 : Int) else pa s.all k) == parent) && eqH (hd s.all k) h) = _
    rcases Nat.eq_zero_or_pos k with h0 | h0
    · subst h0
      have : ((-1 : Int) == parent) = false := by rw [beq_eq_false_iff_ne]; omega
      simp [this]
    · simp [h0]
      rw [if_neg (by omega)]
  rw [e]
  cases s.keep.find? (fun k => decide (0 < k) && ((pa s.all k : Int) == parent) && eqH (hd s.all k) h) <;> rfl
/-- Is the header there already? -/
theorem hasN_map {s : St} (hi : Inv s) (parent : Int) (h : Hdr) (hp : 0 ≤ parent) : hasN (s.keep.map (ndOf s.par s.all)) parent h = decide (0 < there s parent h) := by
  unfold hasN there
  rw [List.any_map]
  generalize s.keep = l
  induction l with
  | nil => rfl
  | cons k l ih =>
    rw [List.any_cons, List.find?_cons, ih]
    have e : ((fun n : Nd => (n.par == parent) && eqH n.hdr h) ∘ ndOf s.par s.all) k = (decide (0 < k) && ((pa s.all k : Int) == parent) && eqH (hd s.all k) h) := by
      show (((if k = 0 then (-1 : Int) else pa s.all k) == parent) && eqH (hd s.all k) h) = _
      rcases Nat.eq_zero_or_pos k with h0 | h0
      · subst h0
        have : ((-1 : Int) == parent) = false := by rw [beq_eq_false_iff_ne]; omega
        simp [this]
      · simp [h0]
        rw [if_neg (by omega)]
    rw [e]
    cases hc : (decide (0 < k) && ((pa s.all k : Int) == parent) && eqH (hd s.all k) h)
    · simp
    · simp at hc ⊢
      omega

/-! ### A header comes -/
theorem ndOf_old {all : List Itm} (ht : Tree all) {x : Itm} (h0 : 0 < all.length) (h : x.par < all.length) (p : Par) {i : Nat} (hi : i < all.length) : ndOf p (all ++ [x]) i = ndOf p all i := by
  unfold ndOf
  rw [pa_old hi, hd_old hi, height_old ht h0 h i hi, pageOf_old ht h0 h p hi]

def newN (s : St) (p : Nat) (h : Hdr) : Nd := ⟨s.all.length, p, (height s.all p : Int) + 1, h, afterPg s.par (pageOf s.par s.all p) h⟩

theorem new_nd {s : St} (hi : Inv s) {p : Nat} {h : Hdr} (ha : Accept s p h) : ndOf s.par (s.all ++ [⟨h, p⟩]) s.all.length = newN s p h := by
  have hst := (stepped hi ha).inv
  have hl := hi.len
  have hpl := inv_lt hi ha.keep
  have h1 := page_step hst (i := s.all.length) hl (by simp [taken])
  have h2 : pageOf s.par (s.all ++ [⟨h, p⟩]) s.all.length = afterPg s.par (pageOf s.par s.all p) h := by
    have h3 : pageOf s.par (s.all ++ [⟨h, p⟩]) s.all.length = afterPg s.par (pageOf s.par (s.all ++ [⟨h, p⟩]) (pa (s.all ++ [⟨h, p⟩]) s.all.length)) (hd (s.all ++ [⟨h, p⟩]) s.all.length) := h1
    rw [h3, pa_new, hd_new, pageOf_old hi.tree hl (x := ⟨h, p⟩) hpl s.par hpl]
  unfold ndOf newN
  rw [h2, hd_new, pa_new, if_neg (by omega), height_new hi.tree hl (x := ⟨h, p⟩) hpl]
  rfl

theorem mid_nds {s : St} (hi : Inv s) {p : Nat} {h : Hdr} (ha : Accept s p h) : (mid s p h).keep.map (ndOf s.par (mid s p h).all) = s.keep.map (ndOf s.par s.all) ++ [newN s p h] := by
  have hpl := inv_lt hi ha.keep
  show (s.keep ++ [s.all.length]).map (ndOf s.par (s.all ++ [⟨h, p⟩])) = _
  rw [List.map_append, List.map_singleton, new_nd hi ha]
  congr 1
  refine List.map_congr_left ?_
  intro k hk
  exact ndOf_old hi.tree hi.len (x := ⟨h, p⟩) hpl s.par (inv_lt hi hk)

structure Settled (s : St) (p : Nat) (h : Hdr) : Prop where
  tip : tipN (s.keep.map (ndOf s.par s.all) ++ [newN s p h]) = ndOf s.par (mid s p h).all (Bk.tip (mid s p h))
  deep : deepN (s.keep.map (ndOf s.par s.all) ++ [newN s p h]) s.par.depth.toNat (tipN (s.keep.map (ndOf s.par s.all) ++ [newN s p h])) = ndOf s.par (mid s p h).all (fin (mid s p h))
  head : ∃ l, s.keep = fin s :: l
  final : Bk.fin (taken s p h) = Bk.fin (mid s p h)
  same : Bk.fin (mid s p h) = Bk.fin s → (taken s p h).keep.map (ndOf s.par (taken s p h).all) = s.keep.map (ndOf s.par s.all) ++ [newN s p h] ∧ line (taken s p h).all (Bk.fin (taken s p h)) = line s.all (Bk.fin s)
  more : Bk.fin (mid s p h) ≠ Bk.fin s → keptN (s.keep.map (ndOf s.par s.all) ++ [newN s p h]) (ndOf s.par (mid s p h).all (Bk.fin (mid s p h))) = (taken s p h).keep.map (ndOf s.par (taken s p h).all) ∧
    (line (taken s p h).all (Bk.fin (taken s p h))).dropLast = (line s.all (Bk.fin s)).dropLast ++ [Bk.fin s]

theorem head_fin {s : St} (hi : Inv s) : ∃ l, s.keep = fin s :: l := by
  have hm := fin_keep hi
  cases e : s.keep with
  | nil => rw [e] at hm; simp at hm
  | cons a l =>
    have hr := hi.rise
    rw [e, List.pairwise_cons] at hr
    have ha := ((hi.keep a).1 (by rw [e]; simp)).2
    have hle := line_le hi.tree _ _ ha
    rw [e] at hm
    rcases List.mem_cons.1 hm with h | h
    · exact ⟨l, by rw [← h]⟩
    · have := hr.1 _ h; omega

theorem settled {s : St} (hi : Inv s) {p : Nat} {h : Hdr} (ha : Accept s p h) : Settled s p h := by
  have hst := stepped hi ha
  have hpl := inv_lt hi ha.keep
  have hl := hi.len
  have hnd := mid_nds hi ha
  have hwk := mid_wk hi (h := h) ha.keep
  have ht' : Tree (mid s p h).all := hwk.tree
  have hall : (taken s p h).all = (mid s p h).all := rfl
  have hte := taken_eq s p h
  have hrise : (mid s p h).keep.Pairwise (· < ·) := by
    show (s.keep ++ [s.all.length]).Pairwise (· < ·)
    rw [List.pairwise_append]
    refine ⟨hi.rise, by simp, ?_⟩
    intro a h1 b h2
    simp at h2
    subst h2
    exact inv_lt hi h1
  have hne : (mid s p h).keep ≠ [] := by show s.keep ++ [s.all.length] ≠ []; simp
  have htip : tipN (s.keep.map (ndOf s.par s.all) ++ [newN s p h]) = ndOf s.par (mid s p h).all (tip (mid s p h)) := by
    rw [← hnd]; exact tipN_map _ _ _ hne hrise
  have hts := tipL_spec (mid s p h).all (mid s p h).keep hne
  have htm : tip (mid s p h) ∈ (mid s p h).keep := hts.1
  have hfm := finOf_mem ht' s.par hi.par (tip (mid s p h))
  have hfe : finOf s.par (mid s p h).all (tip (mid s p h)) = fin (mid s p h) := rfl
  rw [hfe] at hfm
  have hkt : (taken s p h).keep = (mid s p h).keep.filter fun k => has (line (mid s p h).all k) (fin (mid s p h)) := by rw [hte]
  have htt : tip (taken s p h) = tip (mid s p h) := by
    refine tipL_eq _ _ _ ?_ ?_
    · rw [hkt, List.mem_filter]
      exact ⟨htm, (has_nat _ _).2 hfm.1⟩
    · intro k hk
      rw [hkt, List.mem_filter] at hk
      exact hts.2 k hk.1
  have hft : fin (taken s p h) = fin (mid s p h) := by
    unfold fin; rw [htt]; rfl
  -- the final one of before is in the line of all that are kept
  have hff := finOf_mem hi.tree s.par hi.par (tip s)
  have hfs : finOf s.par s.all (tip s) = fin s := rfl
  rw [hfs] at hff
  have hfl := fin_lt hi
  have hlo := line_old hi.tree hl (x := ⟨h, p⟩) hpl
  have hho := height_old hi.tree hl (x := ⟨h, p⟩) hpl
  have hln := line_new hi.tree hl (x := ⟨h, p⟩) hpl
  have hhn := height_new hi.tree hl (x := ⟨h, p⟩) hpl
  have hma : (mid s p h).all = s.all ++ [⟨h, p⟩] := rfl
  have hmk : (mid s p h).keep = s.keep ++ [s.all.length] := rfl
  have hpf := ((hi.keep p).1 ha.keep).2
  have hin : ∀ k ∈ (mid s p h).keep, fin s ∈ line (mid s p h).all k := by
    intro k hk
    rw [hmk, List.mem_append] at hk
    rw [hma]
    rcases hk with hk | hk
    · rw [hlo _ (inv_lt hi hk)]; exact ((hi.keep k).1 hk).2
    · simp at hk; subst hk; rw [hln]; simp [hpf]
  have hcl : ∀ k, k < (mid s p h).all.length → fin s ∈ line (mid s p h).all k → k ∈ (mid s p h).keep := by
    intro k hk hm
    rw [hma] at hk hm
    rw [hmk, List.mem_append]
    rcases Nat.lt_or_ge k s.all.length with h1 | h1
    · rw [hlo _ h1] at hm
      exact Or.inl ((hi.keep k).2 ⟨h1, hm⟩)
    · simp at hk
      right
      simp; omega
  have hcase := hst.tip
  rw [htt] at hcase
  have hhp : height s.all p ≤ height s.all (tip s) := hi.high p hpl
  have htl := inv_lt hi hi.tipin
  have hfh : height (mid s p h).all (fin s) = height s.all (fin s) := hho _ hfl
  have hth : (height (mid s p h).all (tip (mid s p h)) = height s.all (tip s)) ∨ (tip (mid s p h) = s.all.length ∧ height (mid s p h).all (tip (mid s p h)) = height s.all (tip s) + 1) := by
    rcases hcase with ⟨h1, _, _⟩ | ⟨h1, h2⟩
    · left; rw [h1]; exact hho _ htl
    · right
      refine ⟨h1, ?_⟩
      rw [h1, hma, hhn]
      show height s.all p + 1 = _
      omega
  have hf0 : 0 < fin s → s.par.depth.toNat < height s.all (tip s) := by
    intro h0
    have := height_step hi.tree h0
    omega
  have hz : fin s = 0 ∨ 0 < fin s := by omega
  have hdeep : deepN (s.keep.map (ndOf s.par s.all) ++ [newN s p h]) s.par.depth.toNat (tipN (s.keep.map (ndOf s.par s.all) ++ [newN s p h])) = ndOf s.par (mid s p h).all (fin (mid s p h)) := by
    rw [htip, ← hnd]
    refine deepN_line ht' s.par _ (fin s) hcl _ _ _ (hwk.klt _ htm) (hin _ htm) ?_ ?_ hfm.1 hfm.2
    · right; rw [hfh]; omega
    · intro h0; have := hf0 h0; omega
  have hfinl : fin s ∈ line (mid s p h).all (fin (mid s p h)) := by
    have := hst.final
    rw [hft] at this
    exact this
  refine ⟨htip, hdeep, head_fin hi, hft, ?_, ?_⟩
  · intro e
    have h1 : (taken s p h).keep = (mid s p h).keep := by
      rw [hkt, List.filter_eq_self]
      intro k hk
      rw [has_nat, e]
      exact hin k hk
    rw [h1, hall, hnd]
    refine ⟨rfl, ?_⟩
    rw [hft, e]
    exact hlo _ hfl
  · intro e
    refine ⟨?_, ?_⟩
    · rw [← hnd, hall, hkt]
      refine kept_map ht' s.par _ _ hrise ?_ hwk.klt hwk.fin_lt
      intro k hk hkl
      exact hcl k hkl (line_trans ht' hfinl hk)
    · rw [hft, hall]
      have hlt : height (mid s p h).all (fin (mid s p h)) = height (mid s p h).all (fin s) + 1 := by
        have hne2 : height (mid s p h).all (fin (mid s p h)) ≠ height (mid s p h).all (fin s) := by
          intro e2
          exact e (line_unique ht' (line_self ht' _) hfinl e2)
        have := height_mem ht' hfinl
        rw [hfh] at *
        omega
      have h0 : 0 < fin (mid s p h) := by
        rcases Nat.eq_zero_or_pos (fin (mid s p h)) with h1 | h1
        · rw [h1, height_zero] at hlt; omega
        · exact h1
      have hstp := line_step ht' h0
      have hpa : pa (mid s p h).all (fin (mid s p h)) = fin s := by
        have hh := height_step ht' h0
        have hm : pa (mid s p h).all (fin (mid s p h)) ∈ line (mid s p h).all (fin (mid s p h)) := by rw [hstp]; simp [line_self ht']
        exact line_unique ht' hm hfinl (by omega)
      rw [hstp, hpa, hma, hlo _ hfl]
      rw [List.dropLast_concat]
      exact line_drop hi.tree _

end Go.Proofs.YtpaakikgfojplaaGreat.Bk

