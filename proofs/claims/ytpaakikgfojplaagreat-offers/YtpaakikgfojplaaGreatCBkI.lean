import Derived.Test.YtpaakikgfojplaaGreatCM3
/-
  PLAIN MATHEMATICS: what holds of a chain from New on, and behind each header that is accepted.
-/
namespace Go.Proofs.YtpaakikgfojplaaGreat.Bk
open Num
set_option linter.unusedVariables false

/-! ### The tip of a list -/

def Ge (all : List Itm) (t k : Nat) : Prop := height all k < height all t ∨ (height all k = height all t ∧ t ≤ k)

theorem Ge.refl (all : List Itm) (t : Nat) : Ge all t t := Or.inr ⟨rfl, Nat.le_refl _⟩
theorem Ge.trans {all : List Itm} {a b c : Nat} (h : Ge all a b) (k : Ge all b c) : Ge all a c := by
  unfold Ge at *; omega
theorem Ge.antisymm {all : List Itm} {a b : Nat} (h : Ge all a b) (k : Ge all b a) : a = b := by
  unfold Ge at *; omega

theorem better_iff (all : List Itm) (k best : Nat) : better all k best = true ↔ ¬ Ge all best k := by
  simp [better, Ge]; omega

theorem tip_fold (all : List Itm) : ∀ (l : List Nat) (best : Nat), Ge all (l.foldl (fun best k => if better all k best then k else best) best) best ∧
    (∀ k ∈ l, Ge all (l.foldl (fun best k => if better all k best then k else best) best) k) ∧ (l.foldl (fun best k => if better all k best then k else best) best = best ∨ l.foldl (fun best k => if better all k best then k else best) best ∈ l) := by
  intro l
  induction l with
  | nil => intro best; exact ⟨Ge.refl _ _, by simp, Or.inl rfl⟩
  | cons x l ih =>
    intro best
    simp only [List.foldl_cons]
    by_cases hb : better all x best = true
    · rw [if_pos hb]
      obtain ⟨h1, h2, h3⟩ := ih x
      have hx : Ge all x best := by
        rw [better_iff] at hb; unfold Ge at *; omega
      refine ⟨h1.trans hx, ?_, ?_⟩
      · intro k hk
        rcases List.mem_cons.1 hk with rfl | hk
        · exact h1
        · exact h2 k hk
      · rcases h3 with h3 | h3
        · right; rw [h3]; simp
        · right; simp [h3]
    · rw [if_neg hb]
      obtain ⟨h1, h2, h3⟩ := ih best
      have hx : Ge all best x := by
        rw [better_iff, Classical.not_not] at hb; exact hb
      refine ⟨h1, ?_, ?_⟩
      · intro k hk
        rcases List.mem_cons.1 hk with rfl | hk
        · exact h1.trans hx
        · exact h2 k hk
      · rcases h3 with h3 | h3
        · exact Or.inl h3
        · right; simp [h3]

theorem tipL_spec (all : List Itm) (l : List Nat) (h : l ≠ []) : tipL all l ∈ l ∧ ∀ k ∈ l, Ge all (tipL all l) k := by
  obtain ⟨h1, h2, h3⟩ := tip_fold all l (l.headD 0)
  refine ⟨?_, h2⟩
  rcases h3 with h3 | h3
  · cases l with
    | nil => exact absurd rfl h
    | cons x l => unfold tipL; rw [h3]; simp
  · exact h3

theorem tipL_eq (all : List Itm) (l : List Nat) (t : Nat) (ht : t ∈ l) (h : ∀ k ∈ l, Ge all t k) : tipL all l = t := by
  have hne : l ≠ [] := by intro e; subst e; simp at ht
  obtain ⟨h1, h2⟩ := tipL_spec all l hne
  exact (h2 t ht).antisymm (h _ h1)

/-! ### Old headers keep what goes with them -/

theorem fold_congr {α : Type} (f g : α → Nat → α) : ∀ (l : List Nat) (a : α), (∀ k ∈ l, ∀ a, f a k = g a k) → l.foldl f a = l.foldl g a := by
  intro l
  induction l with
  | nil => intro a _; rfl
  | cons x l ih =>
    intro a h
    simp only [List.foldl_cons]
    rw [h x (by simp), ih _ (fun k hk => h k (by simp [hk]))]

theorem tail_lt {all : List Itm} (ht : Tree all) {i : Nat} (hi : i < all.length) {k : Nat} (hk : k ∈ (line all i).tail) : k < all.length := by
  have := line_le ht i k (List.mem_of_mem_tail hk); omega
theorem hd_old {all : List Itm} {x : Itm} {i : Nat} (hi : i < all.length) : hd (all ++ [x]) i = hd all i := by unfold hd; rw [item_old _ _ hi]
theorem pa_old {all : List Itm} {x : Itm} {i : Nat} (hi : i < all.length) : pa (all ++ [x]) i = pa all i := by unfold pa; rw [item_old _ _ hi]
theorem hd_new (all : List Itm) (x : Itm) : hd (all ++ [x]) all.length = x.hdr := by unfold hd; rw [item_new]
theorem pa_new (all : List Itm) (x : Itm) : pa (all ++ [x]) all.length = x.par := by unfold pa; rw [item_new]

theorem stakesAt_old {all : List Itm} (ht : Tree all) {x : Itm} (h0 : 0 < all.length) (h : x.par < all.length) (p : Par) {i : Nat} (hi : i < all.length) : stakesAt p (all ++ [x]) i = stakesAt p all i := by
  unfold stakesAt
  rw [line_old ht h0 h i hi]
  exact fold_congr _ _ _ _ fun k hk a => by rw [hd_old (tail_lt ht hi hk)]
theorem countAt_old {all : List Itm} (ht : Tree all) {x : Itm} (h0 : 0 < all.length) (h : x.par < all.length) (pool : Int) {i : Nat} (hi : i < all.length) : countAt (all ++ [x]) pool i = countAt all pool i := by
  unfold countAt
  rw [line_old ht h0 h i hi]
  exact fold_congr _ _ _ _ fun k hk a => by rw [hd_old (tail_lt ht hi hk)]
theorem runAt_old {all : List Itm} (ht : Tree all) {x : Itm} (h0 : 0 < all.length) (h : x.par < all.length) (p : Par) {i : Nat} (hi : i < all.length) : runAt p (all ++ [x]) i = runAt p all i := by
  unfold runAt
  rw [line_old ht h0 h i hi]
  exact fold_congr _ _ _ _ fun k hk a => by rw [hd_old (tail_lt ht hi hk)]
theorem lastAt_old {all : List Itm} (ht : Tree all) {x : Itm} (h0 : 0 < all.length) (h : x.par < all.length) (p : Par) (e : Int) {i : Nat} (hi : i < all.length) : lastAt p (all ++ [x]) e i = lastAt p all e i := by
  unfold lastAt
  rw [line_old ht h0 h i hi]
  exact fold_congr _ _ _ _ fun k hk a => by rw [hd_old (tail_lt ht hi hk)]

/-! ### New -/

def start (p : Par) : St := ⟨p, [zeroI], [0], [0, 0, 0, 0]⟩

theorem tree_start : Tree [zeroI] := by
  intro i hi
  unfold pa
  rw [item_past _ (by simp; omega)]; exact hi

theorem inv_start (p : Par) (h : ParOk p) : Inv (start p) := by
  have htip : tip (start p) = 0 := rfl
  have hfin : fin (start p) = 0 := by
    unfold fin finOf
    rw [htip, if_pos (by have := h.d1; show ((height [zeroI] 0 : Nat) : Int) < p.depth; rw [height_zero]; omega)]
  refine ⟨h, tree_start, by simp [start], rfl, ?_, by simp [start], ?_, by rw [htip]; simp [start], ?_, ?_, ?_, by simp [start], rfl, ?_⟩
  · intro i h1 h2; simp [start] at h2; omega
  · intro i
    rw [hfin]
    constructor
    · intro hi
      simp [start] at hi
      subst hi
      exact ⟨by simp [start], by simp [start, line_zero]⟩
    · rintro ⟨h1, _⟩
      simp [start] at h1
      simp [start, h1]
  · intro i hi
    simp [start] at hi
    subst hi
    rw [htip]
    exact Nat.le_refl _
  · intro i hi; rw [htip] at hi; omega
  · have := h.r1; simp [start]; omega
  · intro x hx; simp [start] at hx; subst hx; simp [start]

/-! ### A header is accepted -/

theorem drawN_bounds (n s p : Int) : 0 ≤ drawN n s p ∧ drawN n s p < 1024 := by
  unfold drawN; exact ⟨Int.emod_nonneg _ (by omega), Int.emod_lt_of_pos _ (by omega)⟩

theorem missing_zero {s : St} {id : Int} (h : missing s id = 0) : ∃ k ∈ s.keep, (k : Int) = id := by
  unfold missing at h
  by_cases hk : has s.keep id = true
  · exact (has_iff _ _).1 hk
  · rw [if_neg hk] at h
    split at h <;> omega

/-- What acceptance says. -/
structure Accept (s : St) (p : Nat) (h : Hdr) : Prop where
  keep : p ∈ s.keep
  slot0 : 0 ≤ h.slot
  slot1 : h.slot ≤ 10000
  slot2 : p = 0 ∨ (hd s.all p).slot < h.slot
  pool0 : 0 ≤ h.pool
  pool1 : h.pool < s.par.stakes.length
  count : h.count = countAt s.all h.pool p ∨ h.count = countAt s.all h.pool p + 1
  frm0 : 0 ≤ h.frm
  frm1 : h.frm < s.par.stakes.length
  dst0 : 0 ≤ h.dst
  dst1 : h.dst < s.par.stakes.length
  amount0 : 0 ≤ h.amount
  amount1 : h.amount ≤ (stakesAt s.par s.all p).getD h.frm.toNat 0
  proof : h.proof = proofAt s p h.slot h.pool
  lead : leadsAt s p h.slot h.pool = true
  room : (s.keep.length : Int) < s.par.room

theorem accept_of {s : St} {parent : Int} {h : Hdr} (he : offerErr s parent h = 0) : Accept s parent.toNat h ∧ ((parent.toNat : Nat) : Int) = parent ∧ there s parent h = 0 := by
  unfold offerErr at he
  by_cases hr : refused s parent h = 0
  · rw [if_neg (by simpa using hr)] at he
    have hroom : (s.keep.length : Int) < s.par.room := by
      split at he <;> omega
    unfold refused at hr
    by_cases ht : turnErr s parent h.slot h.pool = 0
    · rw [if_neg (by simpa using ht)] at hr
      unfold turnErr at ht
      by_cases hm : missing s parent = 0
      · rw [if_neg (by simpa using hm)] at ht
        obtain ⟨k, hk, rfl⟩ := missing_zero hm
        rw [Int.toNat_natCast] at *
        by_cases hs : slotOk s k h.slot = true
        · rw [if_neg (by simp [hs])] at ht
          by_cases hp : poolOk s h.pool = true
          · simp [slotOk] at hs
            simp [poolOk] at hp
            by_cases h1 : h.count ≠ countAt s.all h.pool k ∧ h.count ≠ countAt s.all h.pool k + 1
            · rw [if_pos h1] at hr; omega
            rw [if_neg h1] at hr
            by_cases h2 : poolOk s h.frm = false ∨ poolOk s h.dst = false
            · rw [if_pos h2] at hr; omega
            rw [if_neg h2] at hr
            by_cases h3 : h.amount < 0 ∨ (stakesAt s.par s.all k).getD h.frm.toNat 0 < h.amount
            · rw [if_pos h3] at hr; omega
            rw [if_neg h3] at hr
            by_cases h4 : h.proof ≠ proofAt s k h.slot h.pool
            · rw [if_pos h4] at hr; omega
            rw [if_neg h4] at hr
            by_cases h5 : leadsAt s k h.slot h.pool = false
            · rw [if_pos h5] at hr; omega
            rw [if_neg h5] at hr
            by_cases h6 : 0 < there s (k : Int) h
            · rw [if_pos h6] at hr; omega
            have hf : poolOk s h.frm = true := by cases e : poolOk s h.frm <;> simp_all
            have hd' : poolOk s h.dst = true := by cases e : poolOk s h.dst <;> simp_all
            simp [poolOk] at hf hd'
            refine ⟨⟨hk, by omega, by omega, hs.2, by omega, by omega, by omega, by omega, by omega, by omega, by omega, by omega, by omega, by omega, by simpa using h5, hroom⟩, rfl, by omega⟩
          · rw [if_pos (by simpa using hp)] at ht; omega
        · rw [if_pos (by simpa using hs)] at ht; omega
      · rw [if_pos (by simpa using hm)] at ht; omega
    · rw [if_pos (by simpa using ht)] at hr; omega
  · rw [if_pos (by simpa using hr)] at he; omega

/-- The tip's step, and that of what is final. -/
structure Step (s : St) (p : Nat) (h : Hdr) : Prop where
  inv : Inv (taken s p h)
  tip : (tip (taken s p h) = tip s ∧ height s.all p < height s.all (tip s) ∧ fin (taken s p h) = fin s) ∨
    (tip (taken s p h) = s.all.length ∧ height s.all p = height s.all (tip s))
  final : fin s ∈ line (taken s p h).all (fin (taken s p h))

theorem finOf_mem {all : List Itm} (ht : Tree all) (p : Par) (hp : ParOk p) (t : Nat) : finOf p all t ∈ line all t ∧ height all (finOf p all t) = height all t - p.depth.toNat := by
  unfold finOf
  have h1 := hp.d1
  split
  · refine ⟨line_zero_mem ht t, ?_⟩
    rw [height_zero]; omega
  · obtain ⟨k, h2, h3, h4⟩ := line_at ht t (height all t - p.depth.toNat) (by omega)
    have e : (line all t).getD (height all t - p.depth.toNat) 0 = k := by simp [List.getD, h2]
    rw [e]
    exact ⟨h3, h4⟩

theorem inv_lt {s : St} (hi : Inv s) {k : Nat} (hk : k ∈ s.keep) : k < s.all.length := ((hi.keep k).1 hk).1

theorem stepped {s : St} (hi : Inv s) {p : Nat} {h : Hdr} (ha : Accept s p h) : Step s p h := by
  have ht := hi.tree
  have hl := hi.len
  have hpk := ha.keep
  have hp := inv_lt hi hpk
  have hpf := ((hi.keep p).1 hpk).2
  generalize hx : (⟨h, p⟩ : Itm) = x
  have hxp : x.par = p := by rw [← hx]
  have hxh : x.hdr = h := by rw [← hx]
  have hx' : x.par < s.all.length := by rw [hxp]; exact hp
  have ht' := tree_more ht hl hx'
  have hln := line_new ht hl hx'
  have hlo := line_old ht hl hx'
  have hho := height_old ht hl hx'
  have hhn := height_new ht hl hx'
  rw [hxp] at hln hhn
  have htl := inv_lt hi hi.tipin
  have hph := hi.high p hp
  -- the tip among all that were kept and the new one
  have htip : (height s.all p < height s.all (tip s) ∧ tipL (s.all ++ [x]) (s.keep ++ [s.all.length]) = tip s) ∨
      (height s.all p = height s.all (tip s) ∧ tipL (s.all ++ [x]) (s.keep ++ [s.all.length]) = s.all.length) := by
    rcases Nat.lt_or_ge (height s.all p) (height s.all (tip s)) with hlt | hge
    · left
      refine ⟨hlt, tipL_eq _ _ _ (by simp [hi.tipin]) ?_⟩
      intro k hk
      rw [List.mem_append] at hk
      unfold Ge
      rcases hk with hk | hk
      · have h1 := inv_lt hi hk
        have h2 := hi.high k h1
        rw [hho _ h1, hho _ htl]
        rcases Nat.lt_or_ge k (tip s) with h3 | h3
        · have := hi.first k h3; omega
        · omega
      · simp at hk
        subst hk
        rw [hhn, hho _ htl]; omega
    · right
      refine ⟨by omega, tipL_eq _ _ _ (by simp) ?_⟩
      intro k hk
      rw [List.mem_append] at hk
      unfold Ge
      rcases hk with hk | hk
      · have h1 := inv_lt hi hk
        have h2 := hi.high k h1
        rw [hho _ h1, hhn]; omega
      · simp at hk; subst hk; omega
  generalize ht1 : tipL (s.all ++ [x]) (s.keep ++ [s.all.length]) = t1 at htip
  have hall : (taken s p h).all = s.all ++ [x] := by simp [taken, hx]
  have hpar : (taken s p h).par = s.par := rfl
  have hpts : (taken s p h).pts = s.pts := rfl
  generalize hf1 : finOf s.par (s.all ++ [x]) t1 = f1
  have hkeep : (taken s p h).keep = (s.keep ++ [s.all.length]).filter fun k => has (line (s.all ++ [x]) k) f1 := by
    simp only [taken, hx]; rw [ht1, hf1]
  have hfm := finOf_mem ht' s.par hi.par t1
  rw [hf1] at hfm
  have hff := finOf_mem ht s.par hi.par (tip s)
  have hfe : finOf s.par s.all (tip s) = fin s := rfl
  rw [hfe] at hff
  have hfl : fin s < s.all.length := by have := line_le ht _ _ hff.1; omega
  -- what is final moves along the line
  have hfin : (f1 = fin s ∨ (t1 = s.all.length ∧ f1 ∈ line s.all p)) ∧ fin s ∈ line (s.all ++ [x]) f1 := by
    rcases htip with ⟨hlt, rfl⟩ | ⟨heq, rfl⟩
    · have e : f1 = fin s := by
        rw [← hf1, ← hfe]
        unfold finOf
        rw [hho _ htl, hlo _ htl]
      refine ⟨Or.inl e, ?_⟩
      rw [e]; exact line_self ht' _
    · have hd1 := hi.par.d1
      have h1 : f1 ∈ line s.all p := by
        have h2 := hfm.1
        rw [hln, List.mem_append] at h2
        rcases h2 with h2 | h2
        · exact h2
        · simp at h2
          have h3 := hfm.2
          rw [h2, hhn] at h3
          omega
      refine ⟨Or.inr ⟨rfl, h1⟩, ?_⟩
      have h4 : f1 < s.all.length := by have := line_le ht _ _ h1; omega
      rw [hlo _ h4]
      refine line_mem_of_le ht hpf h1 ?_
      have h5 := hfm.2
      rw [hho _ h4, hhn] at h5
      omega
  have ht1k : t1 ∈ s.keep ++ [s.all.length] := by
    rcases htip with ⟨_, rfl⟩ | ⟨_, rfl⟩
    · simp [hi.tipin]
    · simp
  have ht1m : t1 ∈ (taken s p h).keep := by
    rw [hkeep, List.mem_filter]
    exact ⟨ht1k, (has_nat _ _).2 hfm.1⟩
  have hge : ∀ k ∈ s.keep ++ [s.all.length], Ge (s.all ++ [x]) t1 k := by
    rw [← ht1]; exact (tipL_spec _ _ (by simp)).2
  have htip' : tip (taken s p h) = t1 := by
    unfold tip
    rw [hall]
    refine tipL_eq _ _ _ ht1m ?_
    intro k hk
    rw [hkeep, List.mem_filter] at hk
    exact hge k hk.1
  have hfin' : fin (taken s p h) = f1 := by
    unfold fin
    rw [htip', hall, hpar, hf1]
  refine ⟨?_, ?_, ?_⟩
  · refine ⟨hi.par, by rw [hall]; exact ht', by rw [hall]; simp, ?_, ?_, ?_, ?_, by rw [htip']; exact ht1m, ?_, ?_, ?_, ?_, hi.pts, ?_⟩
    · rw [hall, item_old _ _ hl]; exact hi.zero
    · intro i h1 h2
      rw [hall] at h2 ⊢
      rw [hpar]
      simp at h2
      rcases Nat.lt_or_ge i s.all.length with h3 | h3
      · have o := hi.hdrs i h1 h3
        have h4 : pa s.all i < s.all.length := by have := ht i h1; omega
        refine ⟨?_, ?_, ?_, ?_, ?_, ?_, ?_, ?_, ?_, ?_, ?_, ?_, ?_, ?_⟩ <;> simp only [hd_old h3, pa_old h3, hd_old h4, stakesAt_old ht hl hx' _ h4, countAt_old ht hl hx' _ h4]
        · exact o.slot0
        · exact o.slot1
        · exact o.slot2
        · exact o.pool0
        · exact o.pool1
        · exact o.frm0
        · exact o.frm1
        · exact o.dst0
        · exact o.dst1
        · exact o.proof0
        · exact o.proof1
        · exact o.amount0
        · exact o.amount1
        · exact o.count0
      · have h3 : i = s.all.length := by omega
        subst h3
        have hb := drawN_bounds (nonceAt s p h.slot) h.slot h.pool
        have hpr : h.proof = drawN (nonceAt s p h.slot) h.slot h.pool := ha.proof
        refine ⟨?_, ?_, ?_, ?_, ?_, ?_, ?_, ?_, ?_, ?_, ?_, ?_, ?_, ?_⟩ <;> simp only [hd_new, pa_new, hxp, hxh, hd_old hp, stakesAt_old ht hl hx' _ hp, countAt_old ht hl hx' _ hp]
        · exact ha.slot0
        · exact ha.slot1
        · exact ha.slot2
        · exact ha.pool0
        · exact ha.pool1
        · exact ha.frm0
        · exact ha.frm1
        · exact ha.dst0
        · exact ha.dst1
        · rw [hpr]; exact hb.1
        · rw [hpr]; exact hb.2
        · exact ha.amount0
        · exact ha.amount1
        · exact ha.count
    · rw [hkeep]
      refine List.Pairwise.filter _ ?_
      rw [List.pairwise_append]
      refine ⟨hi.rise, by simp, ?_⟩
      intro a h1 b h2
      simp at h2
      subst h2
      exact inv_lt hi h1
    · intro i
      rw [hfin', hall, hkeep, List.mem_filter, has_nat]
      constructor
      · rintro ⟨h1, h2⟩
        refine ⟨?_, h2⟩
        rw [List.mem_append] at h1
        rcases h1 with h1 | h1
        · have := inv_lt hi h1; simp; omega
        · simp at h1; simp; omega
      · rintro ⟨h1, h2⟩
        refine ⟨?_, h2⟩
        simp at h1
        rcases Nat.lt_or_ge i s.all.length with h3 | h3
        · rw [List.mem_append]
          left
          rw [hi.keep]
          refine ⟨h3, ?_⟩
          have h4 := line_trans ht' hfin.2 h2
          rw [hlo _ h3] at h4
          exact h4
        · have : i = s.all.length := by omega
          simp [this]
    · intro i h1
      rw [hall] at h1 ⊢
      rw [htip']
      simp at h1
      rcases htip with ⟨hlt, rfl⟩ | ⟨heq, rfl⟩
      · rw [hho _ htl]
        rcases Nat.lt_or_ge i s.all.length with h3 | h3
        · rw [hho _ h3]; exact hi.high i h3
        · have : i = s.all.length := by omega
          rw [this, hhn]; omega
      · rw [hhn]
        rcases Nat.lt_or_ge i s.all.length with h3 | h3
        · rw [hho _ h3]; have := hi.high i h3; omega
        · have : i = s.all.length := by omega
          rw [this, hhn]; omega
    · intro i h1
      rw [htip'] at h1 ⊢
      rw [hall]
      rcases htip with ⟨hlt, rfl⟩ | ⟨heq, rfl⟩
      · rw [hho _ htl, hho _ (by omega)]; exact hi.first i h1
      · rw [hhn, hho _ h1]; have := hi.high i h1; omega
    · rw [hpar, hkeep]
      have h1 := List.length_filter_le (fun k => has (line (s.all ++ [x]) k) f1) (s.keep ++ [s.all.length])
      have := ha.room
      rw [List.length_append, List.length_singleton] at h1
      omega
    · rw [htip', hall]
      have hw := hi.few
      have hr := hi.full
      have hr2 := hi.par.r2
      rcases htip with ⟨hlt, rfl⟩ | ⟨heq, rfl⟩
      · have e : (taken s p h).keep = s.keep ++ [s.all.length] := by
          rw [hkeep, List.filter_eq_self]
          intro k hk
          rw [has_nat]
          rcases hfin.1 with e | ⟨e, _⟩
          · rw [e]
            rw [List.mem_append] at hk
            rcases hk with hk | hk
            · rw [hlo _ (inv_lt hi hk)]; exact ((hi.keep k).1 hk).2
            · simp at hk; subst hk; rw [hln]; simp [hpf]
          · omega
        rw [e, hho _ htl]
        simp; omega
      · have h1 : 1 ≤ (taken s p h).keep.length := by
          cases e : (taken s p h).keep with
          | nil => rw [e] at ht1m; simp at ht1m
          | cons a l => simp
        rw [hhn]
        simp; omega
    · intro k hk
      rw [hpts] at hk
      have := hi.ptl k hk
      rw [hall]; simp; omega
  · rcases htip with ⟨hlt, rfl⟩ | ⟨heq, rfl⟩
    · left
      refine ⟨htip', hlt, ?_⟩
      rw [hfin', ← hf1, ← hfe]
      unfold finOf
      rw [hho _ htl, hlo _ htl]
    · right
      exact ⟨htip', heq⟩
  · rw [hfin', hall]
    exact hfin.2

theorem inv_offer {s : St} (hi : Inv s) (parent : Int) (h : Hdr) : Inv (offer s parent h) := by
  unfold offer
  split
  · rename_i he
    exact (stepped hi (accept_of he).1).inv
  · exact hi

end Go.Proofs.YtpaakikgfojplaaGreat.Bk

