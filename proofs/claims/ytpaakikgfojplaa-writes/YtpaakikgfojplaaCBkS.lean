import Derived.Test.YtpaakikgfojplaaCBk
/-
  PLAIN MATHEMATICS: what goes with a header; the tip, what is final, what is kept; what each call answers, and what it leaves.
-/
namespace Go.Proofs.Ytpaakikgfojplaa.Bk
open Num
set_option linter.unusedVariables false

/-! ### What goes with a header -/

def moveS (s : List Int) (h : Hdr) : List Int :=
  (s.set h.frm.toNat (s.getD h.frm.toNat 0 - h.amount)).set h.dst.toNat ((s.set h.frm.toNat (s.getD h.frm.toNat 0 - h.amount)).getD h.dst.toNat 0 + h.amount)
def countS (pool : Int) (n : Int) (h : Hdr) : Int := if h.pool = pool then h.count else n
def runS (epoch : Int) (n : Int) (h : Hdr) : Int := if 3 * (h.slot % epoch) < 2 * epoch then (n * 257 + h.proof + 1) % 65521 else n

def stakesAt (p : Par) (all : List Itm) (i : Nat) : List Int := (line all i).tail.foldl (fun s k => moveS s (hd all k)) p.stakes
def countAt (all : List Itm) (pool : Int) (i : Nat) : Int := (line all i).tail.foldl (fun n k => countS pool n (hd all k)) 0
def runAt (p : Par) (all : List Itm) (i : Nat) : Int := (line all i).tail.foldl (fun n k => runS p.epoch n (hd all k)) p.nonce
def lastAt (p : Par) (all : List Itm) (e : Int) (i : Nat) : Nat := (line all i).tail.foldl (fun o k => if (hd all k).slot / p.epoch < e then k else o) 0

theorem fold_step {α : Type} {all : List Itm} (ht : Tree all) (f : α → Nat → α) (a : α) {i : Nat} (h : 0 < i) :
    (line all i).tail.foldl f a = f ((line all (pa all i)).tail.foldl f a) i := by
  rw [line_step ht h, List.tail_append_of_ne_nil (by intro e; have := line_ne ht (pa all i); rw [e] at this; simp at this), List.foldl_append]
  rfl

theorem stakesAt_zero (p : Par) (all : List Itm) : stakesAt p all 0 = p.stakes := rfl
theorem stakesAt_step (p : Par) {all : List Itm} (ht : Tree all) {i : Nat} (h : 0 < i) : stakesAt p all i = moveS (stakesAt p all (pa all i)) (hd all i) := fold_step ht _ _ h
theorem countAt_zero (all : List Itm) (pool : Int) : countAt all pool 0 = 0 := rfl
theorem countAt_step {all : List Itm} (pool : Int) (ht : Tree all) {i : Nat} (h : 0 < i) : countAt all pool i = countS pool (countAt all pool (pa all i)) (hd all i) := fold_step ht _ _ h
theorem runAt_zero (p : Par) (all : List Itm) : runAt p all 0 = p.nonce := rfl
theorem runAt_step (p : Par) {all : List Itm} (ht : Tree all) {i : Nat} (h : 0 < i) : runAt p all i = runS p.epoch (runAt p all (pa all i)) (hd all i) := fold_step ht _ _ h
theorem lastAt_zero (p : Par) (all : List Itm) (e : Int) : lastAt p all e 0 = 0 := rfl
theorem lastAt_step (p : Par) {all : List Itm} (e : Int) (ht : Tree all) {i : Nat} (h : 0 < i) : lastAt p all e i = if (hd all i).slot / p.epoch < e then i else lastAt p all e (pa all i) :=
  fold_step (α := Nat) ht (fun o k => if (hd all k).slot / p.epoch < e then k else o) 0 h

theorem lastAt_mem (p : Par) {all : List Itm} (ht : Tree all) (e : Int) (i : Nat) : lastAt p all e i ∈ line all i := by
  refine line_ind ht (fun i => lastAt p all e i ∈ line all i) (by simp [lastAt_zero, line_zero]) ?_ i
  intro i h hp
  rw [lastAt_step p e ht h, line_step ht h]
  split
  · simp
  · simp [hp]

/-! ### Tip, final, kept -/

/-- The better of two for the tip: the higher one; of one height the lesser number. -/
def better (all : List Itm) (k best : Nat) : Bool := decide (height all best < height all k) || (decide (height all k = height all best) && decide (k < best))
def tipL (all : List Itm) (l : List Nat) : Nat := l.foldl (fun best k => if better all k best then k else best) (l.headD 0)
def tip (s : St) : Nat := tipL s.all s.keep
def finOf (p : Par) (all : List Itm) (t : Nat) : Nat := if (height all t : Int) < p.depth then 0 else (line all t).getD (height all t - p.depth.toNat) 0
def fin (s : St) : Nat := finOf s.par s.all (tip s)

def has (l : List Nat) (i : Int) : Bool := l.any fun k => (k : Int) == i

theorem has_iff (l : List Nat) (i : Int) : has l i = true ↔ ∃ k ∈ l, (k : Int) = i := by simp [has]
theorem has_nat (l : List Nat) (i : Nat) : has l (i : Int) = true ↔ i ∈ l := by
  rw [has_iff]
  constructor
  · rintro ⟨k, hk, he⟩; have : k = i := by omega
    subst this; exact hk
  · intro h; exact ⟨i, h, rfl⟩

/-- The error of a header that is asked for: 0 kept, 2 old, 3 none. -/
def missing (s : St) (id : Int) : Int := if has s.keep id then 0 else if has (line s.all (fin s)) id then 2 else 3

def poolOk (s : St) (n : Int) : Bool := decide (0 ≤ n) && decide (n < s.par.stakes.length)
def slotOk (s : St) (id : Nat) (slot : Int) : Bool := decide (0 ≤ slot) && decide (slot ≤ 10000) && (decide (id = 0) || decide ((hd s.all id).slot < slot))

/-! ### The draw -/
def drawN (nonce slot pool : Int) : Int := ((nonce * 4099 + slot * 769 + pool * 97 + 12345) % 65521 * ((nonce * 4099 + slot * 769 + pool * 97 + 12345) % 65521)) % 65521 % 1024

def nonceAt (s : St) (id : Nat) (slot : Int) : Int := runAt s.par s.all (lastAt s.par s.all (slot / s.par.epoch) id)
def oldStakes (s : St) (id : Nat) (slot : Int) : List Int := stakesAt s.par s.all (lastAt s.par s.all (slot / s.par.epoch - 1) id)
def proofAt (s : St) (id : Nat) (slot pool : Int) : Int := drawN (nonceAt s id slot) slot pool
def stakeAt (s : St) (id : Nat) (slot pool : Int) : Int := (oldStakes s id slot).getD pool.toNat 0
def total (p : Par) : Int := p.stakes.sum
def leadsAt (s : St) (id : Nat) (slot pool : Int) : Bool := leads (proofAt s id slot pool).toNat (stakeAt s id slot pool).toNat (total s.par).toNat s.par.a.toNat s.par.b.toNat

/-- The error of Turn: 0 none. -/
def turnErr (s : St) (id slot pool : Int) : Int :=
  if missing s id ≠ 0 then missing s id else if slotOk s id.toNat slot = false then 4 else if poolOk s pool = false then 5 else 0

/-- The kept header with this parent that is the same in all; 0: none. -/
def there (s : St) (parent : Int) (h : Hdr) : Nat := ((s.keep.find? fun k => decide (0 < k) && ((pa s.all k : Int) == parent) && eqH (hd s.all k) h).getD 0)

/-- The error of Offer, but for the last one. -/
def refused (s : St) (parent : Int) (h : Hdr) : Int :=
  if turnErr s parent h.slot h.pool ≠ 0 then turnErr s parent h.slot h.pool
  else if h.count ≠ countAt s.all h.pool parent.toNat ∧ h.count ≠ countAt s.all h.pool parent.toNat + 1 then 6
  else if poolOk s h.frm = false ∨ poolOk s h.dst = false then 7
  else if h.amount < 0 ∨ (stakesAt s.par s.all parent.toNat).getD h.frm.toNat 0 < h.amount then 7
  else if h.proof ≠ proofAt s parent.toNat h.slot h.pool then 8
  else if leadsAt s parent.toNat h.slot h.pool = false then 9
  else if 0 < there s parent h then 10
  else 0

def offerErr (s : St) (parent : Int) (h : Hdr) : Int := if refused s parent h ≠ 0 then refused s parent h else if s.par.room ≤ s.keep.length then 11 else 0

/-- A header is accepted: the tip among all that were kept and the new one; what is final; what has it in its line. -/
def taken (s : St) (parent : Nat) (h : Hdr) : St :=
  { s with
    all := s.all ++ [⟨h, parent⟩],
    keep := (s.keep ++ [s.all.length]).filter fun k => has (line (s.all ++ [⟨h, parent⟩]) k) (finOf s.par (s.all ++ [⟨h, parent⟩]) (tipL (s.all ++ [⟨h, parent⟩]) (s.keep ++ [s.all.length]))) }
def offer (s : St) (parent : Int) (h : Hdr) : St := if offerErr s parent h = 0 then taken s parent.toNat h else s
def offerId (s : St) (parent : Int) (h : Hdr) : Int := if offerErr s parent h = 0 then s.all.length else 0

/-! ### What a chain may be -/

structure ParOk (p : Par) : Prop where
  d1 : 1 ≤ p.depth
  d2 : p.depth ≤ 8
  e1 : 1 ≤ p.epoch
  e2 : p.epoch ≤ 50
  r1 : 2 ≤ p.room
  r2 : p.room ≤ 40
  b2 : p.b ≤ 20
  a1 : 1 ≤ p.a
  a2 : p.a < p.b
  n1 : 0 ≤ p.nonce
  n2 : p.nonce < 65521
  l1 : 1 ≤ p.stakes.length
  l2 : p.stakes.length ≤ 6
  s1 : ∀ x ∈ p.stakes, 0 ≤ x ∧ x ≤ 40
  s2 : 0 < p.stakes.sum

/-- A header that was accepted behind its parent. -/
structure HdrOk (p : Par) (all : List Itm) (i : Nat) : Prop where
  slot0 : 0 ≤ (hd all i).slot
  slot1 : (hd all i).slot ≤ 10000
  slot2 : pa all i = 0 ∨ (hd all (pa all i)).slot < (hd all i).slot
  pool0 : 0 ≤ (hd all i).pool
  pool1 : (hd all i).pool < p.stakes.length
  frm0 : 0 ≤ (hd all i).frm
  frm1 : (hd all i).frm < p.stakes.length
  dst0 : 0 ≤ (hd all i).dst
  dst1 : (hd all i).dst < p.stakes.length
  proof0 : 0 ≤ (hd all i).proof
  proof1 : (hd all i).proof < 1024
  amount0 : 0 ≤ (hd all i).amount
  amount1 : (hd all i).amount ≤ (stakesAt p all (pa all i)).getD (hd all i).frm.toNat 0
  count0 : (hd all i).count = countAt all (hd all i).pool (pa all i) ∨ (hd all i).count = countAt all (hd all i).pool (pa all i) + 1

structure Inv (s : St) : Prop where
  par : ParOk s.par
  tree : Tree s.all
  len : 0 < s.all.length
  zero : item s.all 0 = zeroI
  hdrs : ∀ i, 0 < i → i < s.all.length → HdrOk s.par s.all i
  rise : s.keep.Pairwise (· < ·)
  keep : ∀ i, i ∈ s.keep ↔ i < s.all.length ∧ fin s ∈ line s.all i
  tipin : tip s ∈ s.keep
  high : ∀ i, i < s.all.length → height s.all i ≤ height s.all (tip s)
  first : ∀ i, i < tip s → height s.all i < height s.all (tip s)
  full : (s.keep.length : Int) ≤ s.par.room
  few : s.all.length ≤ 41 * height s.all (tip s) + s.keep.length
  pts : s.pts.length = 4
  ptl : ∀ x ∈ s.pts, x < s.all.length

end Go.Proofs.Ytpaakikgfojplaa.Bk

