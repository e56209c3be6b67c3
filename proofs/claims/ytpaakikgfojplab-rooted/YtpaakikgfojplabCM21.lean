import Derived.Test.YtpaakikgfojplabCM20
import Derived.Test.YtpaakikgfojplabCBkB
/-
  THE WALK of the law Moved, under what the program's chain owes.
-/
namespace Go.Proofs.Ytpaakikgfojplab
open Go.RowKit Num Bk
set_option linter.unusedVariables false

theorem New.below {Rep : World → Nat → (Nat → Prop) → St → Prop} (P : PSpec Rep) {w wr w' : World} {b xc gs cs ga ca : Nat} {F : Nat → Prop} {s : St} (h : New Rep w wr b xc gs cs ga ca F s) (hb : Below wr.heap.size wr w') : New Rep w w' b xc gs cs ga ca F s :=
  ⟨h.1.keep P hb, h.2.1.trans (hb.mono h.2.1.size), h.2.2⟩

theorem New.left {Rep : World → Nat → (Nat → Prop) → St → Prop} {w wr w' : World} {b xc gs cs ga ca : Nat} {F F1 : Nat → Prop} {s : St} (h : New Rep w wr b xc gs cs ga ca F s) (r1 : Rep w' xc F1 s) (f1 : Fr F wr w') (n1 : ∀ k, F1 k → F k ∨ wr.heap.size ≤ k) : New Rep w w' b xc gs cs ga ca F1 s := by
  obtain ⟨hB, hb, hF, h3⟩ := h
  have hs := hb.size
  refine ⟨hB.left r1 f1 n1, below_fr hb f1 hF, fun k hk => ?_, h3⟩
  rcases n1 k hk with h | h
  · exact hF k h
  · omega

/-- The book, the chain, and a list of its own beside them. -/
structure Mid (Rep : World → Nat → (Nat → Prop) → St → Prop) (w wr : World) (b xc gs cs ga ca : Nat) (F : Nat → Prop) (s : St) (g cap : Nat) (l : List Nat) : Prop where
  new : New Rep w wr b xc gs cs ga ca F s
  own : wr.ownsRow 0 3 1 (.slice (some ⟨g, 0, none⟩) l.length cap) l.length (dcells l)
  out : ¬ F g

theorem Mid.below {Rep : World → Nat → (Nat → Prop) → St → Prop} (P : PSpec Rep) {w wr w' : World} {b xc gs cs ga ca g cap : Nat} {F : Nat → Prop} {s : St} {l : List Nat} (h : Mid Rep w wr b xc gs cs ga ca F s g cap l) (hb : Below wr.heap.size wr w') : Mid Rep w w' b xc gs cs ga ca F s g cap l :=
  ⟨h.new.below P hb, row_keep h.own hb (Nat.le_refl _), h.out⟩

theorem Mid.left {Rep : World → Nat → (Nat → Prop) → St → Prop} {w wr w' : World} {b xc gs cs ga ca g cap : Nat} {F : Nat → Prop} {s : St} {l : List Nat} (h : Mid Rep w wr b xc gs cs ga ca F s g cap l) (hL : Left Rep wr w' xc F s) : ∃ F', Mid Rep w w' b xc gs cs ga ca F' s g cap l := by
  obtain ⟨F1, r1, f1, n1⟩ := hL
  have hgl := own_lt h.own
  exact ⟨F1, h.new.left r1 f1 n1, row_fr h.own f1 (by intro k e; simp [Value.ownBlock] at e; subst e; exact h.out), fun h1 => (n1 g h1).elim h.out (fun h => by omega)⟩

theorem ask_zero {s : St} {id : Nat} (hk : id ∈ s.keep) {pool : Nat} (hp : pool < s.par.stakes.length) : askErr s (id : Int) (pool : Int) = 0 := by
  unfold askErr
  rw [if_neg (by simp [missing_keep hk]), if_neg]
  have : poolOk s (pool : Int) = true := by simp [poolOk]; omega
  simp [this]
theorem ask_five {s : St} {id : Nat} (hk : id ∈ s.keep) {pool : Int} (hp : pool < 0 ∨ (s.par.stakes.length : Int) ≤ pool) : askErr s (id : Int) pool = 5 := by
  unfold askErr
  rw [if_neg (by simp [missing_keep hk]), if_pos]
  simp only [poolOk, Bool.and_eq_false_iff, decide_eq_false_iff_not]
  omega
theorem stakeV_is {s : St} {id : Nat} (hk : id ∈ s.keep) {pool : Nat} (hp : pool < s.par.stakes.length) : stakeV s (id : Int) (pool : Int) = stakeOf s id pool := by
  unfold stakeV stakeOf
  rw [if_pos (ask_zero hk hp), Int.toNat_natCast, Int.toNat_natCast]
theorem countV_is {s : St} {id : Nat} (hk : id ∈ s.keep) {pool : Nat} (hp : pool < s.par.stakes.length) : countV s (id : Int) (pool : Int) = countAt s.all (pool : Int) id := by
  unfold countV
  rw [if_pos (ask_zero hk hp), Int.toNat_natCast]

/-- The sum of the first k. -/
def sumTo (l : List Int) (k : Nat) : Int := (l.take k).sum
theorem sumTo_succ (l : List Int) (k : Nat) (h : k < l.length) : sumTo l (k + 1) = sumTo l k + l.getD k 0 := by
  unfold sumTo
  rw [List.take_add_one, List.sum_append, List.getElem?_eq_getElem h]
  simp [List.getD, h]
theorem sumTo_all (l : List Int) : sumTo l l.length = l.sum := by unfold sumTo; simp
theorem sumTo_bounds (l : List Int) (h : ∀ x ∈ l, 0 ≤ x) (k : Nat) : 0 ≤ sumTo l k ∧ sumTo l k ≤ l.sum := by
  unfold sumTo
  have e := List.take_append_drop k l
  have h1 : l.sum = (l.take k).sum + (l.drop k).sum := by rw [← List.sum_append, e]
  have h2 := sum_nonneg (l.take k) (fun x hx => h x (List.mem_of_mem_take hx))
  have h3 := sum_nonneg (l.drop k) (fun x hx => h x (List.mem_of_mem_drop hx))
  omega

theorem mid_stake {Rep : World → Nat → (Nat → Prop) → St → Prop} (P : PSpec Rep) {w wr W : World} {b xc gs cs ga ca g cap : Nat} {F : Nat → Prop} {s : St} {l : List Nat} (h : Mid Rep w wr b xc gs cs ga ca F s g cap l) (hb : Below wr.heap.size wr W) (id pool : Int) (h1 : I64 id) (h2 : I64 pool) :
    Calls Try.prog 52 #[.pointer (some ⟨xc, 0, none⟩), .int .i64 id, .int .i64 pool] W fun e w' => e = .returned (.tuple #[.int .i64 (stakeV s id pool), .int .i64 (askErr s id pool)]) ∧ ∃ F', Mid Rep w w' b xc gs cs ga ca F' s g cap l :=
  (P.stake W xc F s id pool (h.below P hb).new.1.rep h.new.1.inv h1 h2).mono (fun _ _ ⟨e, hL⟩ => ⟨e, (h.below P hb).left hL⟩)

theorem mid_count {Rep : World → Nat → (Nat → Prop) → St → Prop} (P : PSpec Rep) {w wr W : World} {b xc gs cs ga ca g cap : Nat} {F : Nat → Prop} {s : St} {l : List Nat} (h : Mid Rep w wr b xc gs cs ga ca F s g cap l) (hb : Below wr.heap.size wr W) (id pool : Int) (h1 : I64 id) (h2 : I64 pool) :
    Calls Try.prog 53 #[.pointer (some ⟨xc, 0, none⟩), .int .i64 id, .int .i64 pool] W fun e w' => e = .returned (.tuple #[.int .i64 (countV s id pool), .int .i64 (askErr s id pool)]) ∧ ∃ F', Mid Rep w w' b xc gs cs ga ca F' s g cap l :=
  (P.count W xc F s id pool (h.below P hb).new.1.rep h.new.1.inv h1 h2).mono (fun _ _ ⟨e, hL⟩ => ⟨e, (h.below P hb).left hL⟩)

end Go.Proofs.Ytpaakikgfojplab

/-
  PLAIN MATHEMATICS: the program's page of a header, held against what goes with the header.
-/
namespace Go.Proofs.Ytpaakikgfojplab.Bk
open Num
set_option linter.unusedVariables false

structure Pg where
  slot : Int
  stakes : Nat → Int
  counts : Nat → Int
  running : Int
  nonce : Int
  before : Nat → Int
  long : Nat → Int

def pageOf (p : Par) (all : List Itm) (id : Nat) : Pg :=
  { slot := if id = 0 then -1 else (hd all id).slot
    stakes := fun j => (stakesAt p all id).getD j 0
    counts := fun j => countAt all (j : Int) id
    running := runAt p all id
    nonce := if id = 0 then 0 else runAt p all (lastAt p all ((hd all id).slot / p.epoch) id)
    before := fun j => if id = 0 then 0 else (stakesAt p all (lastAt p all ((hd all id).slot / p.epoch) id)).getD j 0
    long := fun j => if id = 0 then 0 else (stakesAt p all (lastAt p all ((hd all id).slot / p.epoch - 1) id)).getD j 0 }

def epochOf (p : Par) (slot : Int) : Int := if slot = -1 then -2 else slot / p.epoch
def nonceIn (p : Par) (g : Pg) (e : Int) : Int := if epochOf p g.slot < e then g.running else g.nonce
def stakesIn (p : Par) (g : Pg) (e : Int) : Nat → Int := if epochOf p g.slot < e - 1 then g.stakes else if epochOf p g.slot < e then g.before else g.long

def upd (f : Nat → Int) (k : Nat) (v : Int) : Nat → Int := fun j => if k = j then v else f j
def movedF (f : Nat → Int) (h : Hdr) : Nat → Int :=
  upd (upd f h.frm.toNat (f h.frm.toNat - h.amount)) h.dst.toNat ((upd f h.frm.toNat (f h.frm.toNat - h.amount)) h.dst.toNat + h.amount)

def afterPg (p : Par) (g : Pg) (h : Hdr) : Pg :=
  { slot := h.slot
    stakes := movedF g.stakes h
    counts := upd g.counts h.pool.toNat h.count
    running := runS p.epoch g.running h
    nonce := nonceIn p g (epochOf p h.slot)
    before := stakesIn p g (epochOf p h.slot + 1)
    long := stakesIn p g (epochOf p h.slot) }

theorem epochOf_nat (p : Par) {slot : Int} (h : 0 ≤ slot) : epochOf p slot = slot / p.epoch := by
  unfold epochOf; rw [if_neg (by omega)]

theorem last_self (p : Par) {all : List Itm} (ht : Tree all) (e : Int) {i : Nat} (h : i = 0 ∨ (hd all i).slot / p.epoch < e) : lastAt p all e i = i := by
  rcases Nat.eq_zero_or_pos i with h0 | h0
  · subst h0; rw [lastAt_zero]
  · rcases h with h | h
    · omega
    · rw [lastAt_step p e ht h0, if_pos h]

theorem nonceIn_eq {s : St} (hi : Inv s) {i : Nat} (hl : i < s.all.length) (e : Int) (he : 0 ≤ e) (h : i = 0 ∨ (hd s.all i).slot / s.par.epoch ≤ e) :
    nonceIn s.par (pageOf s.par s.all i) e = runAt s.par s.all (lastAt s.par s.all e i) := by
  unfold nonceIn
  have hs := slot_bounds hi hl
  rcases Nat.eq_zero_or_pos i with h0 | h0
  · subst h0
    rw [if_pos (by simp [pageOf, epochOf]; omega), lastAt_zero]; rfl
  · have e1 : (pageOf s.par s.all i).slot = (hd s.all i).slot := by simp [pageOf]; omega
    rw [e1, epochOf_nat _ hs.1]
    have h1 : (hd s.all i).slot / s.par.epoch ≤ e := by omega
    split
    · rename_i hlt
      rw [last_self s.par hi.tree e (Or.inr hlt)]; rfl
    · rename_i hlt
      have : (hd s.all i).slot / s.par.epoch = e := by omega
      show (if i = 0 then 0 else _) = _
      rw [if_neg (by omega), this]

theorem stakesIn_eq {s : St} (hi : Inv s) {i : Nat} (hl : i < s.all.length) (e : Int) (he : 0 ≤ e) (h : i = 0 ∨ (hd s.all i).slot / s.par.epoch ≤ e) :
    stakesIn s.par (pageOf s.par s.all i) e = fun j => (stakesAt s.par s.all (lastAt s.par s.all (e - 1) i)).getD j 0 := by
  unfold stakesIn
  have hs := slot_bounds hi hl
  rcases Nat.eq_zero_or_pos i with h0 | h0
  · subst h0
    rw [if_pos (by simp [pageOf, epochOf]; omega), lastAt_zero]; rfl
  · have e1 : (pageOf s.par s.all i).slot = (hd s.all i).slot := by simp [pageOf]; omega
    rw [e1, epochOf_nat _ hs.1]
    have h1 : (hd s.all i).slot / s.par.epoch ≤ e := by omega
    split
    · rename_i hlt
      rw [last_self s.par hi.tree (e - 1) (Or.inr hlt)]; rfl
    · split
      · have : (hd s.all i).slot / s.par.epoch = e - 1 := by omega
        funext j
        show (if i = 0 then 0 else _) = _
        rw [if_neg (by omega), this]
      · have : (hd s.all i).slot / s.par.epoch = e := by omega
        funext j
        show (if i = 0 then 0 else _) = _
        rw [if_neg (by omega), this]

theorem movedF_eq (l : List Int) (h : Hdr) (h1 : h.frm.toNat < l.length) (h2 : h.dst.toNat < l.length) : movedF (fun j => l.getD j 0) h = fun j => (moveS l h).getD j 0 := by
  funext j
  rw [moveS_at l h h1 h2]
  unfold movedF upd
  simp only []
  by_cases e1 : h.dst.toNat = j
  · rw [if_pos e1, if_pos e1]
    by_cases e2 : h.frm.toNat = j
    · rw [if_pos (by omega), if_pos e2, e2]
    · rw [if_neg (by omega), if_neg e2, e1]; omega
  · rw [if_neg e1, if_neg e1]
    by_cases e2 : h.frm.toNat = j
    · rw [if_pos e2, if_pos e2, e2]; omega
    · rw [if_neg e2, if_neg e2]; omega

theorem pageOf_old {all : List Itm} (ht : Tree all) {x : Itm} (h0 : 0 < all.length) (h : x.par < all.length) (p : Par) {i : Nat} (hi : i < all.length) : pageOf p (all ++ [x]) i = pageOf p all i := by
  have hlt : ∀ e, lastAt p all e i < all.length := fun e => by have := line_le ht i _ (lastAt_mem p ht e i); omega
  unfold pageOf
  rw [hd_old hi, lastAt_old ht h0 h p _ hi, lastAt_old ht h0 h p _ hi, stakesAt_old ht h0 h p hi, runAt_old ht h0 h p hi, runAt_old ht h0 h p (hlt _), stakesAt_old ht h0 h p (hlt _), stakesAt_old ht h0 h p (hlt _)]
  congr 1
  funext j
  rw [countAt_old ht h0 h _ hi]

/-- The page of a header that came is what the program makes of its parent's. -/
theorem page_step {s : St} (hi : Inv s) {i : Nat} (h0 : 0 < i) (hl : i < s.all.length) : pageOf s.par s.all i = afterPg s.par (pageOf s.par s.all (pa s.all i)) (hd s.all i) := by
  have ho := hi.hdrs i h0 hl
  have hpl := inv_pa hi h0 hl
  have ep := hi.par.e1
  have hep : 0 ≤ (hd s.all i).slot / s.par.epoch := Int.ediv_nonneg ho.slot0 (by omega)
  have hle : pa s.all i = 0 ∨ (hd s.all (pa s.all i)).slot / s.par.epoch ≤ (hd s.all i).slot / s.par.epoch := by
    rcases ho.slot2 with h | h
    · exact Or.inl h
    · exact Or.inr (Int.ediv_le_ediv (by omega) (by omega))
  have hst := stakes_ok hi _ hpl
  have f0 := ho.frm0
  have f1 := ho.frm1
  have d0 := ho.dst0
  have d1 := ho.dst1
  have hn := nonceIn_eq hi hpl _ hep hle
  have hb := stakesIn_eq hi hpl ((hd s.all i).slot / s.par.epoch + 1) (by omega) (by omega)
  have hg := stakesIn_eq hi hpl _ hep hle
  have hE := epochOf_nat s.par ho.slot0
  unfold afterPg
  rw [hE, hn, hb, hg]
  unfold pageOf
  rw [if_neg (by omega), if_neg (by omega), runAt_step s.par hi.tree h0, stakesAt_step s.par hi.tree h0, lastAt_step s.par _ hi.tree h0, if_neg (by omega), lastAt_step s.par _ hi.tree h0, if_neg (by omega)]
  congr 1
  · rw [movedF_eq _ _ (by rw [hst.len]; omega) (by rw [hst.len]; omega)]
  · funext j
    rw [countAt_step _ hi.tree h0]
    unfold countS upd
    have := ho.pool0
    by_cases e : (hd s.all i).pool = (j : Int)
    · rw [if_pos e, if_pos (by omega)]
    · rw [if_neg e, if_neg (by omega)]
  · funext j
    rw [if_neg (by omega), show (hd s.all i).slot / s.par.epoch + 1 - 1 = (hd s.all i).slot / s.par.epoch by omega]
  · funext j
    rw [if_neg (by omega)]

end Go.Proofs.Ytpaakikgfojplab.Bk

