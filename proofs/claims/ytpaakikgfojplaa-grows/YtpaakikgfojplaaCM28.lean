import Derived.Test.YtpaakikgfojplaaCM27
import Derived.Test.YtpaakikgfojplaaCBkI
import Derived.Test.YtpaakikgfojplaaCM7
import Derived.Test.YtpaakikgfojplaaCNd
/-
  PLAIN MATHEMATICS: a header's text, and the header of a text.
-/
namespace Go.Proofs.Ytpaakikgfojplaa.Tx
open Bk
set_option linter.unusedVariables false

def flds (h : Hdr) : List Int := [h.slot, h.pool, h.proof, h.count, h.frm, h.dst, h.amount]
def ofL (l : List Nat) : Hdr := ⟨(l.getD 0 0 : Nat), (l.getD 1 0 : Nat), (l.getD 2 0 : Nat), (l.getD 3 0 : Nat), (l.getD 4 0 : Nat), (l.getD 5 0 : Nat), (l.getD 6 0 : Nat)⟩
/-- Is a number of it below 0? -/
def low (h : Hdr) : Bool := (flds h).any fun x => decide (x < 0)
def enc (h : Hdr) : List UInt8 := 135 :: nums ((flds h).map Int.toNat)
def dec (t : List UInt8) : Option Hdr := (seven t).map ofL
def Fits (h : Hdr) : Prop := ∀ x ∈ flds h, x ≤ 9223372036854775807

theorem low_false {h : Hdr} (hl : low h = false) : 0 ≤ h.slot ∧ 0 ≤ h.pool ∧ 0 ≤ h.proof ∧ 0 ≤ h.count ∧ 0 ≤ h.frm ∧ 0 ≤ h.dst ∧ 0 ≤ h.amount := by
  simp [low, flds] at hl
  omega
theorem ofL_flds {h : Hdr} (hl : low h = false) : ofL ((flds h).map Int.toNat) = h := by
  obtain ⟨h0, h1, h2, h3, h4, h5, h6⟩ := low_false hl
  obtain ⟨a0, a1, a2, a3, a4, a5, a6⟩ := h
  simp [flds, ofL] at *
  omega
theorem seven_list {l : List Nat} (hl : l.length = 7) : (flds (ofL l)).map Int.toNat = l := by
  match l, hl with
  | [a, b, c, d, e, f, g], _ => simp [flds, ofL]
theorem ofL_low (l : List Nat) : low (ofL l) = false := by
  simp [low, flds, ofL]
theorem dec_enc {h : Hdr} (hl : low h = false) (hf : Fits h) : dec (enc h) = some h := by
  unfold dec enc
  rw [seven_nums (by simp [flds])]
  · show some (ofL _) = _
    rw [ofL_flds hl]
  · intro n hn
    rw [List.mem_map] at hn
    obtain ⟨x, hx, rfl⟩ := hn
    have := hf x hx
    omega
theorem dec_some {t : List UInt8} {h : Hdr} (hd : dec t = some h) : t = enc h ∧ low h = false ∧ Fits h := by
  unfold dec at hd
  cases hs : seven t with
  | none => rw [hs] at hd; simp at hd
  | some l =>
    rw [hs] at hd
    simp only [Option.map_some, Option.some.injEq] at hd
    subst hd
    obtain ⟨e1, e2, e3⟩ := seven_some hs
    refine ⟨?_, ofL_low l, ?_⟩
    · unfold enc
      rw [seven_list e2]
      exact e1
    · have hx : ∀ i, l.getD i 0 < 9223372036854775808 := by
        intro i
        by_cases hi : i < l.length
        · rw [List.getD_eq_getElem?_getD, List.getElem?_eq_getElem hi]
          exact e3 _ (List.getElem_mem hi)
        · rw [List.getD_eq_getElem?_getD, List.getElem?_eq_none (by omega)]
          decide
      intro x h
      simp only [flds, ofL, List.mem_cons, List.not_mem_nil, or_false] at h
      have g0 := hx 0
      have g1 := hx 1
      have g2 := hx 2
      have g3 := hx 3
      have g4 := hx 4
      have g5 := hx 5
      have g6 := hx 6
      rcases h with rfl | rfl | rfl | rfl | rfl | rfl | rfl <;> omega
theorem enc_inj {h g : Hdr} (hl : low h = false) (hf : Fits h) (gl : low g = false) (gf : Fits g) (e : enc h = enc g) : h = g := by
  have h1 := dec_enc hl hf
  rw [e, dec_enc gl gf] at h1
  simpa using h1.symm
theorem num_pos (n : Nat) : 1 ≤ (num n).length := by simp [num]
theorem num_le (n : Nat) : (num n).length ≤ 9 := by
  have h : (num n).length = 1 + sz (kind n) := by simp [num, dig_len]; omega
  rw [h]
  unfold sz
  repeat' split
  all_goals omega
theorem nums_le (l : List Nat) : (nums l).length ≤ 9 * l.length := by
  induction l with
  | nil => simp [nums]
  | cons a l ih =>
    have e : nums (a :: l) = num a ++ nums l := by simp [nums]
    rw [e, List.length_append, List.length_cons]
    have := num_le a
    omega
theorem nums_ge (l : List Nat) : l.length ≤ (nums l).length := by
  induction l with
  | nil => simp [nums]
  | cons a l ih =>
    have e : nums (a :: l) = num a ++ nums l := by simp [nums]
    rw [e, List.length_append, List.length_cons]
    have := num_pos a
    omega
theorem enc_len (h : Hdr) : 8 ≤ (enc h).length ∧ (enc h).length ≤ 64 := by
  have h1 := nums_le ((flds h).map Int.toNat)
  have h2 := nums_ge ((flds h).map Int.toNat)
  have h3 : ((flds h).map Int.toNat).length = 7 := by simp [flds]
  unfold enc
  rw [List.length_cons]
  omega
/-- A header's text with one byte more, or one less, is none. -/
theorem dec_more {h : Hdr} (hl : low h = false) (hf : Fits h) (b : UInt8) : dec (enc h ++ [b]) = none := by
  have hr := rds_nums ((flds h).map Int.toNat) [b] (by
    intro n hn
    rw [List.mem_map] at hn
    obtain ⟨x, hx, rfl⟩ := hn
    have := hf x hx
    omega)
  have h3 : ((flds h).map Int.toNat).length = 7 := by simp [flds]
  rw [h3] at hr
  unfold dec enc seven
  simp [hr]
theorem dec_less {h : Hdr} (hl : low h = false) (hf : Fits h) : dec ((enc h).dropLast) = none := by
  cases hd : dec (enc h).dropLast with
  | none => rfl
  | some g =>
    exfalso
    obtain ⟨e, gl, gf⟩ := dec_some hd
    have hne : enc h ≠ [] := by unfold enc; simp
    have e2 := List.dropLast_concat_getLast hne
    rw [e] at e2
    have h1 := dec_more gl gf ((enc h).getLast hne)
    rw [e2, dec_enc hl hf] at h1
    simp at h1
end Go.Proofs.Ytpaakikgfojplaa.Tx

/-
  PLAIN MATHEMATICS: peers: what Next, Back and Point answer, and what they leave.
-/
namespace Go.Proofs.Ytpaakikgfojplaa.Bk
open Num Tx
set_option linter.unusedVariables false

/-- What a header that comes is told: with ErrTwice the number of the header that is there. -/
def takeId (s : St) (parent : Int) (h : Hdr) : Int := if offerErr s parent h = 10 then ((there s parent h : Nat) : Int) else offerId s parent h
theorem take_no {s : St} {parent : Int} {h : Hdr} (h1 : offerId s parent h = 0) (h2 : offerErr s parent h ≠ 10) : takeId s parent h = 0 := by
  unfold takeId
  rw [if_neg h2, h1]

def peerOk (n : Int) : Bool := decide (0 ≤ n) && decide (n < 4)
def ptAt (s : St) (n : Int) : Nat := s.pts.getD n.toNat 0
def setPt (s : St) (n : Int) (k : Nat) : St := { s with pts := s.pts.set n.toNat k }

theorem inv_setPt {s : St} (hi : Inv s) (n : Int) {k : Nat} (hk : k < s.all.length) : Inv (setPt s n k) := by
  refine ⟨hi.par, hi.tree, hi.len, hi.zero, hi.hdrs, hi.rise, hi.keep, hi.tipin, hi.high, hi.first, hi.full, hi.few, ?_, ?_⟩
  · show (s.pts.set n.toNat k).length = 4
    rw [List.length_set]
    exact hi.pts
  · intro x hx
    rcases List.mem_or_eq_of_mem_set hx with h | h
    · exact hi.ptl x h
    · subst h; exact hk

/-- The error of a header that a peer tells. -/
def toldE (s : St) (n : Int) (h : Hdr) : Int := if offerErr s (ptAt s n : Nat) h = 10 then 0 else offerErr s (ptAt s n : Nat) h
def toldI (s : St) (n : Int) (h : Hdr) : Int := if toldE s n h = 0 then takeId s (ptAt s n : Nat) h else 0
def toldS (s : St) (n : Int) (h : Hdr) : St := if toldE s n h = 0 then setPt (offer s (ptAt s n : Nat) h) n (takeId s (ptAt s n : Nat) h).toNat else s

def nextE (s : St) (n : Int) (t : List UInt8) : Int := if peerOk n = false then 12 else match dec t with | none => 13 | some h => toldE s n h
def nextI (s : St) (n : Int) (t : List UInt8) : Int := if peerOk n = false then 0 else match dec t with | none => 0 | some h => toldI s n h
def nextS (s : St) (n : Int) (t : List UInt8) : St := if peerOk n = false then s else match dec t with | none => s | some h => toldS s n h
def backE (s : St) (n : Int) (id : Int) : Int := if peerOk n = false then 12 else missing s id
def backS (s : St) (n : Int) (id : Int) : St := if backE s n id = 0 then setPt s n id.toNat else s
def pointE (n : Int) : Int := if peerOk n = false then 12 else 0
def pointV (s : St) (n : Int) : Int := if peerOk n = false then 0 else ((ptAt s n : Nat) : Int)

theorem there_lt {s : St} (hi : Inv s) (parent : Int) (h : Hdr) : there s parent h < s.all.length := by
  unfold there
  cases hf : s.keep.find? (fun k => decide (0 < k) && ((pa s.all k : Int) == parent) && eqH (hd s.all k) h) with
  | none => exact hi.len
  | some k => exact ((hi.keep k).1 (List.mem_of_find?_eq_some hf)).1

theorem inv_told {s : St} (hi : Inv s) (n : Int) (h : Hdr) : Inv (toldS s n h) := by
  unfold toldS
  split
  · refine inv_setPt (inv_offer hi _ _) n ?_
    unfold takeId
    rename_i he
    unfold toldE at he
    by_cases h10 : offerErr s (ptAt s n : Nat) h = 10
    · rw [if_pos h10]
      have := there_lt hi (ptAt s n : Nat) h
      have e : offer s (ptAt s n : Nat) h = s := by unfold offer; rw [if_neg (by rw [h10]; decide)]
      rw [e]
      omega
    · rw [if_neg h10] at he ⊢
      unfold offerId offer
      rw [if_pos he, if_pos he]
      simp [taken]
  · exact hi
theorem inv_next {s : St} (hi : Inv s) (n : Int) (t : List UInt8) : Inv (nextS s n t) := by
  unfold nextS
  split
  · exact hi
  · split
    · exact hi
    · exact inv_told hi n _
theorem inv_back {s : St} (hi : Inv s) (n : Int) (id : Int) : Inv (backS s n id) := by
  unfold backS
  split
  · rename_i he
    refine inv_setPt hi n ?_
    unfold backE at he
    split at he
    · omega
    · unfold missing at he
      cases hh : has s.keep id
      · rw [hh] at he
        simp at he
        split at he <;> omega
      · rw [has_iff] at hh
        obtain ⟨k, hk, rfl⟩ := hh
        have := ((hi.keep k).1 hk).1
        omega
  · exact hi
end Go.Proofs.Ytpaakikgfojplaa.Bk

/-
  THE WALKS of the program's ledger: isPool, epochOf, isEarly, nonceIn, stakesIn.
-/
namespace Go.Proofs.Ytpaakikgfojplaa
open Go.RowKit Num Bk
set_option linter.unusedVariables false

def rulV (p : Par) : Value := .agg #[.int .i64 p.epoch, .int .i64 p.a, .int .i64 p.b, .int .i64 (p.stakes.length : Int), .int .i64 (total p)]
def arrV (f : Nat → Int) : Value := .agg #[.int .i64 (f 0), .int .i64 (f 1), .int .i64 (f 2), .int .i64 (f 3), .int .i64 (f 4), .int .i64 (f 5)]
def pgA (g : Pg) : Array Value := #[.int .i64 g.slot, .int .i64 (g.stakes 0), .int .i64 (g.stakes 1), .int .i64 (g.stakes 2), .int .i64 (g.stakes 3), .int .i64 (g.stakes 4), .int .i64 (g.stakes 5),
  .int .i64 (g.counts 0), .int .i64 (g.counts 1), .int .i64 (g.counts 2), .int .i64 (g.counts 3), .int .i64 (g.counts 4), .int .i64 (g.counts 5), .int .i64 g.running, .int .i64 g.nonce,
  .int .i64 (g.before 0), .int .i64 (g.before 1), .int .i64 (g.before 2), .int .i64 (g.before 3), .int .i64 (g.before 4), .int .i64 (g.before 5),
  .int .i64 (g.long 0), .int .i64 (g.long 1), .int .i64 (g.long 2), .int .i64 (g.long 3), .int .i64 (g.long 4), .int .i64 (g.long 5)]
def pageV (g : Pg) : Value := .agg (pgA g)

theorem below_of {w A : World} {cs : Array Value} {t : TypeId} (hA : w.alloc (.cells cs t) = A) : A.heap.size = w.heap.size + 1 ∧ Below w.heap.size w A ∧ A.heap[w.heap.size]? = some (.cells cs t (0, 0)) := by
  subst hA
  exact ⟨by simp, (Below.refl _ _).alloc (Nat.le_refl _) _, heap_alloc_new w _⟩

def poolB (p : Par) (n : Int) : Bool := decide (0 ≤ n) && decide (n < p.stakes.length)

set_option maxHeartbeats 400000 in
theorem isPool_is (p : Par) (n : Int) (w : World) :
    Calls Try.prog 70 #[rulV p, .int .i64 n] w fun e w' => e = .returned (.bool (poolB p n)) ∧ Below w.heap.size w w' := by
  unfold rulV
  have HB := Go.Proofs.Ytpaakikgfojplaa.hid (show poolB p n = (decide (0 ≤ n) && decide (n < p.stakes.length)) from rfl)
  by_cases h1 : 0 ≤ n
  · by_cases h2 : n < (p.stakes.length : Int)
    · go_enter Try.func70, Try.ntmps70
      go_wp2
      go_ret
      exact ⟨by rw [HB.out]; simp [h1, h2], (Below.refl _ _).alloc (Nat.le_refl _) _⟩
    · go_enter Try.func70, Try.ntmps70
      go_wp2
      go_ret
      exact ⟨by rw [HB.out]; simp [h1, h2], (Below.refl _ _).alloc (Nat.le_refl _) _⟩
  · go_enter Try.func70, Try.ntmps70
    go_wp2
    go_ret
    exact ⟨by rw [HB.out, decide_eq_false (by omega : ¬ (0 ≤ n))]; rfl, (Below.refl _ _).alloc (Nat.le_refl _) _⟩

def slotOkP (slot : Int) : Prop := slot = -1 ∨ (0 ≤ slot ∧ slot ≤ 10000)

set_option maxHeartbeats 400000 in
theorem epochOf_is (p : Par) (slot : Int) (w : World) (hp : ParOk p) (hs : slotOkP slot) :
    Calls Try.prog 71 #[rulV p, .int .i64 slot] w fun e w' => e = .returned (.int .i64 (epochOf p slot)) ∧ Below w.heap.size w w' := by
  unfold rulV
  have h1 := hp.e1
  have h2 := hp.e2
  have HB := Go.Proofs.Ytpaakikgfojplaa.hid (show epochOf p slot = (if slot = -1 then -2 else slot / p.epoch) from rfl)
  by_cases h : slot = -1
  · subst h
    go_enter Try.func71, Try.ntmps71
    go_wp2
    go_ret
    exact ⟨by rw [HB.out]; rfl, (Below.refl _ _).alloc (Nat.le_refl _) _⟩
  · have hs' : 0 ≤ slot ∧ slot ≤ 10000 := hs.resolve_left h
    obtain ⟨h3, h4⟩ := hs'
    have hz : (p.epoch == 0) = false := by rw [beq_eq_false_iff_ne]; omega
    have hq : slot.tdiv p.epoch = slot / p.epoch := Int.tdiv_eq_ediv_of_nonneg h3
    have hq1 : 0 ≤ slot / p.epoch := Int.ediv_nonneg h3 (by omega)
    have hq2 : slot / p.epoch ≤ slot := Int.ediv_le_self _ h3
    go_enter Try.func71, Try.ntmps71
    go_wp2
    go_ret
    exact ⟨by rw [HB.out, if_neg h]; rfl, (Below.refl _ _).alloc (Nat.le_refl _) _⟩

set_option maxHeartbeats 400000 in
theorem isEarly_is (p : Par) (slot : Int) (w : World) (hp : ParOk p) (h3 : 0 ≤ slot) (h4 : slot ≤ 10000) :
    Calls Try.prog 100 #[rulV p, .int .i64 slot] w fun e w' => e = .returned (.bool (decide (3 * (slot % p.epoch) < 2 * p.epoch))) ∧ Below w.heap.size w w' := by
  unfold rulV
  have h1 := hp.e1
  have h2 := hp.e2
  have hz : (p.epoch == 0) = false := by rw [beq_eq_false_iff_ne]; omega
  have hq : slot.tmod p.epoch = slot % p.epoch := Int.tmod_eq_emod_of_nonneg h3
  have hq1 : 0 ≤ slot % p.epoch := Int.emod_nonneg _ (by omega)
  have hq2 : slot % p.epoch < p.epoch := Int.emod_lt_of_pos _ (by omega)
  go_enter Try.func100, Try.ntmps100
  go_wp2
  go_quiet (fail)
  go_wp2
  go_ret
  exact ⟨rfl, drawB ((Below.refl _ _).alloc (Nat.le_refl _) _) _⟩

end Go.Proofs.Ytpaakikgfojplaa

