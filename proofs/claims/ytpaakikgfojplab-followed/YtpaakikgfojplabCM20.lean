import Derived.Test.YtpaakikgfojplabCTxM
import Derived.Test.YtpaakikgfojplabCBkI
import Derived.Test.YtpaakikgfojplabCM12
import Derived.Test.YtpaakikgfojplabCM18
/-
  PLAIN MATHEMATICS: a header's text, and the header of a text.
-/
namespace Go.Proofs.Ytpaakikgfojplab.Tx
open Bk
set_option linter.unusedVariables false

def flds (h : Hdr) : List Int := [h.slot, h.pool, h.proof, h.count, h.frm, h.dst, h.amount]
def ofL (l : List Nat) : Hdr := ⟨(l.getD 0 0 : Nat), (l.getD 1 0 : Nat), (l.getD 2 0 : Nat), (l.getD 3 0 : Nat), (l.getD 4 0 : Nat), (l.getD 5 0 : Nat), (l.getD 6 0 : Nat)⟩
/-- Is a number of it below 0? -/
def low (h : Hdr) : Bool := (flds h).any fun x => decide (x < 0)
def enc (h : Hdr) : List UInt8 := 135 :: nums ((flds h).map Int.toNat)
def dec (t : List UInt8) : Option Hdr := (seven t).map ofL
def Fits (h : Hdr) : Prop := ∀ x ∈ flds h, x ≤ 9223372036854775807

theorem low_false {h : Hdr} (hl : low h = false) : 0 ≤ h.slot ∧ 0 ≤ h.pool ∧ 0 ≤ h.proof ∧ 0 ≤ h.count ∧ 0 ≤ h.frm ∧ 0 ≤ h.dst ∧ 0 ≤ h.amount := by
  simp [low, flds] at hl
  omega
theorem ofL_flds {h : Hdr} (hl : low h = false) : ofL ((flds h).map Int.toNat) = h := by
  obtain ⟨h0, h1, h2, h3, h4, h5, h6⟩ := low_false hl
  obtain ⟨a0, a1, a2, a3, a4, a5, a6⟩ := h
  simp [flds, ofL] at *
  omega
theorem seven_list {l : List Nat} (hl : l.length = 7) : (flds (ofL l)).map Int.toNat = l := by
  match l, hl with
  | [a, b, c, d, e, f, g], _ => simp [flds, ofL]
theorem ofL_low (l : List Nat) : low (ofL l) = false := by
  simp [low, flds, ofL]
theorem dec_enc {h : Hdr} (hl : low h = false) (hf : Fits h) : dec (enc h) = some h := by
  unfold dec enc
  rw [seven_nums (by simp [flds])]
  · show some (ofL _) = _
    rw [ofL_flds hl]
  · intro n hn
    rw [List.mem_map] at hn
    obtain ⟨x, hx, rfl⟩ := hn
    have := hf x hx
    omega
theorem dec_some {t : List UInt8} {h : Hdr} (hd : dec t = some h) : t = enc h ∧ low h = false ∧ Fits h := by
  unfold dec at hd
  cases hs : seven t with
  | none => rw [hs] at hd; simp at hd
  | some l =>
    rw [hs] at hd
    simp only [Option.map_some, Option.some.injEq] at hd
    subst hd
    obtain ⟨e1, e2, e3⟩ := seven_some hs
    refine ⟨?_, ofL_low l, ?_⟩
    · unfold enc
      rw [seven_list e2]
      exact e1
    · have hx : ∀ i, l.getD i 0 < 9223372036854775808 := by
        intro i
        by_cases hi : i < l.length
        · rw [List.getD_eq_getElem?_getD, List.getElem?_eq_getElem hi]
          exact e3 _ (List.getElem_mem hi)
        · rw [List.getD_eq_getElem?_getD, List.getElem?_eq_none (by omega)]
          decide
      intro x h
      simp only [flds, ofL, List.mem_cons, List.not_mem_nil, or_false] at h
      have g0 := hx 0
      have g1 := hx 1
      have g2 := hx 2
      have g3 := hx 3
      have g4 := hx 4
      have g5 := hx 5
      have g6 := hx 6
      rcases h with rfl | rfl | rfl | rfl | rfl | rfl | rfl <;> omega
theorem enc_inj {h g : Hdr} (hl : low h = false) (hf : Fits h) (gl : low g = false) (gf : Fits g) (e : enc h = enc g) : h = g := by
  have h1 := dec_enc hl hf
  rw [e, dec_enc gl gf] at h1
  simpa using h1.symm
theorem num_pos (n : Nat) : 1 ≤ (num n).length := by simp [num]
theorem num_le (n : Nat) : (num n).length ≤ 9 := by
  have h : (num n).length = 1 + sz (kind n) := by simp [num, dig_len]; omega
  rw [h]
  unfold sz
  repeat' split
  all_goals omega
theorem nums_le (l : List Nat) : (nums l).length ≤ 9 * l.length := by
  induction l with
  | nil => simp [nums]
  | cons a l ih =>
    have e : nums (a :: l) = num a ++ nums l := by simp [nums]
    rw [e, List.length_append, List.length_cons]
    have := num_le a
    omega
theorem nums_ge (l : List Nat) : l.length ≤ (nums l).length := by
  induction l with
  | nil => simp [nums]
  | cons a l ih =>
    have e : nums (a :: l) = num a ++ nums l := by simp [nums]
    rw [e, List.length_append, List.length_cons]
    have := num_pos a
    omega
theorem enc_len (h : Hdr) : 8 ≤ (enc h).length ∧ (enc h).length ≤ 64 := by
  have h1 := nums_le ((flds h).map Int.toNat)
  have h2 := nums_ge ((flds h).map Int.toNat)
  have h3 : ((flds h).map Int.toNat).length = 7 := by simp [flds]
  unfold enc
  rw [List.length_cons]
  omega
/-- A header's text with one byte more, or one less, is none. -/
theorem dec_more {h : Hdr} (hl : low h = false) (hf : Fits h) (b : UInt8) : dec (enc h ++ [b]) = none := by
  have hr := rds_nums ((flds h).map Int.toNat) [b] (by
    intro n hn
    rw [List.mem_map] at hn
    obtain ⟨x, hx, rfl⟩ := hn
    have := hf x hx
    omega)
  have h3 : ((flds h).map Int.toNat).length = 7 := by simp [flds]
  rw [h3] at hr
  unfold dec enc seven
  simp [hr]
theorem dec_less {h : Hdr} (hl : low h = false) (hf : Fits h) : dec ((enc h).dropLast) = none := by
  cases hd : dec (enc h).dropLast with
  | none => rfl
  | some g =>
    exfalso
    obtain ⟨e, gl, gf⟩ := dec_some hd
    have hne : enc h ≠ [] := by unfold enc; simp
    have e2 := List.dropLast_concat_getLast hne
    rw [e] at e2
    have h1 := dec_more gl gf ((enc h).getLast hne)
    rw [e2, dec_enc hl hf] at h1
    simp at h1
end Go.Proofs.Ytpaakikgfojplab.Tx

/-
  PLAIN MATHEMATICS: peers: what Next, Back and Point answer, and what they leave.
-/
namespace Go.Proofs.Ytpaakikgfojplab.Bk
open Num Tx
set_option linter.unusedVariables false

/-- What a header that comes is told: with ErrTwice the number of the header that is there. -/
def takeId (s : St) (parent : Int) (h : Hdr) : Int := if offerErr s parent h = 10 then ((there s parent h : Nat) : Int) else offerId s parent h
theorem take_no {s : St} {parent : Int} {h : Hdr} (h1 : offerId s parent h = 0) (h2 : offerErr s parent h ≠ 10) : takeId s parent h = 0 := by
  unfold takeId
  rw [if_neg h2, h1]

def peerOk (n : Int) : Bool := decide (0 ≤ n) && decide (n < 4)
def ptAt (s : St) (n : Int) : Nat := s.pts.getD n.toNat 0
def setPt (s : St) (n : Int) (k : Nat) : St := { s with pts := s.pts.set n.toNat k }

theorem inv_setPt {s : St} (hi : Inv s) (n : Int) {k : Nat} (hk : k < s.all.length) : Inv (setPt s n k) := by
  refine ⟨hi.par, hi.tree, hi.len, hi.zero, hi.hdrs, hi.rise, hi.keep, hi.tipin, hi.high, hi.first, hi.full, hi.few, ?_, ?_⟩
  · show (s.pts.set n.toNat k).length = 4
    rw [List.length_set]
    exact hi.pts
  · intro x hx
    rcases List.mem_or_eq_of_mem_set hx with h | h
    · exact hi.ptl x h
    · subst h; exact hk

/-- The error of a header that a peer tells. -/
def toldE (s : St) (n : Int) (h : Hdr) : Int := if offerErr s (ptAt s n : Nat) h = 10 then 0 else offerErr s (ptAt s n : Nat) h
def toldI (s : St) (n : Int) (h : Hdr) : Int := if toldE s n h = 0 then takeId s (ptAt s n : Nat) h else 0
def toldS (s : St) (n : Int) (h : Hdr) : St := if toldE s n h = 0 then setPt (offer s (ptAt s n : Nat) h) n (takeId s (ptAt s n : Nat) h).toNat else s

def nextE (s : St) (n : Int) (t : List UInt8) : Int := if peerOk n = false then 12 else match dec t with | none => 13 | some h => toldE s n h
def nextI (s : St) (n : Int) (t : List UInt8) : Int := if peerOk n = false then 0 else match dec t with | none => 0 | some h => toldI s n h
def nextS (s : St) (n : Int) (t : List UInt8) : St := if peerOk n = false then s else match dec t with | none => s | some h => toldS s n h
def backE (s : St) (n : Int) (id : Int) : Int := if peerOk n = false then 12 else missing s id
def backS (s : St) (n : Int) (id : Int) : St := if backE s n id = 0 then setPt s n id.toNat else s
def pointE (n : Int) : Int := if peerOk n = false then 12 else 0
def pointV (s : St) (n : Int) : Int := if peerOk n = false then 0 else ((ptAt s n : Nat) : Int)

theorem there_lt {s : St} (hi : Inv s) (parent : Int) (h : Hdr) : there s parent h < s.all.length := by
  unfold there
  cases hf : s.keep.find? (fun k => decide (0 < k) && ((pa s.all k : Int) == parent) && eqH (hd s.all k) h) with
  | none => exact hi.len
  | some k => exact ((hi.keep k).1 (List.mem_of_find?_eq_some hf)).1

theorem inv_told {s : St} (hi : Inv s) (n : Int) (h : Hdr) : Inv (toldS s n h) := by
  unfold toldS
  split
  · refine inv_setPt (inv_offer hi _ _) n ?_
    unfold takeId
    rename_i he
    unfold toldE at he
    by_cases h10 : offerErr s (ptAt s n : Nat) h = 10
    · rw [if_pos h10]
      have := there_lt hi (ptAt s n : Nat) h
      have e : offer s (ptAt s n : Nat) h = s := by unfold offer; rw [if_neg (by rw [h10]; decide)]
      rw [e]
      omega
    · rw [if_neg h10] at he ⊢
      unfold offerId offer
      rw [if_pos he, if_pos he]
      simp [taken]
  · exact hi
theorem inv_next {s : St} (hi : Inv s) (n : Int) (t : List UInt8) : Inv (nextS s n t) := by
  unfold nextS
  split
  · exact hi
  · split
    · exact hi
    · exact inv_told hi n _
theorem inv_back {s : St} (hi : Inv s) (n : Int) (id : Int) : Inv (backS s n id) := by
  unfold backS
  split
  · rename_i he
    refine inv_setPt hi n ?_
    unfold backE at he
    split at he
    · omega
    · unfold missing at he
      cases hh : has s.keep id
      · rw [hh] at he
        simp at he
        split at he <;> omega
      · rw [has_iff] at hh
        obtain ⟨k, hk, rfl⟩ := hh
        have := ((hi.keep k).1 hk).1
        omega
  · exact hi
end Go.Proofs.Ytpaakikgfojplab.Bk

/-
  WHAT THE PROGRAM's CHAIN OWES TO PEERS, as hypotheses.
-/
namespace Go.Proofs.Ytpaakikgfojplab
open Go.RowKit Num Bk Tx
set_option linter.unusedVariables false

def strV (t : List UInt8) : Value := .string ⟨t.toArray⟩
/-- A header, if there is one. -/
def hdrOf (o : Option Hdr) : Hdr := o.getD zeroH
/-- Decode's error. -/
def formE (t : List UInt8) : Int := if (dec t).isSome then 0 else 13

structure PPeer (Rep : World → Nat → (Nat → Prop) → St → Prop) : Prop where
  next : ∀ (w : World) (x : Nat) (F : Nat → Prop) (s : St) (n : Int) (t : List UInt8), Rep w x F s → Inv s → I64 n → t.length ≤ maxLen →
    Calls Try.prog 33 #[.pointer (some ⟨x, 0, none⟩), .int .i64 n, strV t] w fun e w' => e = .returned (.tuple #[.int .i64 (nextI s n t), .int .i64 (nextE s n t)]) ∧ Left Rep w w' x F (nextS s n t)
  back : ∀ (w : World) (x : Nat) (F : Nat → Prop) (s : St) (n id : Int), Rep w x F s → Inv s → I64 n → I64 id →
    Calls Try.prog 32 #[.pointer (some ⟨x, 0, none⟩), .int .i64 n, .int .i64 id] w fun e w' => e = .returned (.int .i64 (backE s n id)) ∧ Left Rep w w' x F (backS s n id)
  point : ∀ (w : World) (x : Nat) (F : Nat → Prop) (s : St) (n : Int), Rep w x F s → Inv s → I64 n →
    Calls Try.prog 34 #[.pointer (some ⟨x, 0, none⟩), .int .i64 n] w fun e w' => e = .returned (.tuple #[.int .i64 (pointV s n), .int .i64 (pointE n)]) ∧ Below w.heap.size w w'

end Go.Proofs.Ytpaakikgfojplab

/-
  THE FRAME of the law Followed: two books with their chains, side by side, and blocks of one's own beside them.
-/
namespace Go.Proofs.Ytpaakikgfojplab
open Go.RowKit Num Bk Tx
set_option linter.unusedVariables false

theorem lt_of_block' {w : World} {k : Nat} {o : Obj} (h : w.heap[k]? = some o) : k < w.heap.size := by
  rcases Nat.lt_or_ge k w.heap.size with hlt | hge
  · exact hlt
  · rw [Array.getElem?_eq_none hge] at h; cases h
/-- Where a book and its chain lie, and of what states they are. -/
structure Ix where
  b : Nat
  xc : Nat
  gs : Nat
  cs : Nat
  ga : Nat
  ca : Nat
  F : Nat → Prop
  sb : St
  sc : St
def Ix.Has (i : Ix) (k : Nat) : Prop := i.F k ∨ k = i.b ∨ k = i.gs ∨ k = i.ga

structure Half (Rep : World → Nat → (Nat → Prop) → St → Prop) (w : World) (i : Ix) : Prop where
  book : BookAt w i.b i.xc i.gs i.cs i.ga i.ca i.sb
  rep : Rep w i.xc i.F i.sc
  inv : Inv i.sc
  n1 : ¬ i.F i.b
  n2 : ¬ i.F i.gs
  n3 : ¬ i.F i.ga

section
variable {Rep : World → Nat → (Nat → Prop) → St → Prop}

theorem Half.lt (P : PSpec Rep) {w : World} {i : Ix} (h : Half Rep w i) (k : Nat) (hk : i.Has k) : k < w.heap.size := by
  have hl := h.book.lts
  rcases hk with hk | hk | hk | hk
  · exact P.lt h.rep k hk
  · omega
  · omega
  · omega
theorem Half.fr (P : PSpec Rep) {w w' : World} {i : Ix} {H : Nat → Prop} (h : Half Rep w i) (hb : Fr H w w') (hH : ∀ k, i.Has k → ¬ H k) : Half Rep w' i :=
  ⟨h.book.fr hb (hH _ (Or.inr (Or.inl rfl))) (hH _ (Or.inr (Or.inr (Or.inl rfl)))) (hH _ (Or.inr (Or.inr (Or.inr rfl)))), P.fr h.rep hb (fun k hk => hH k (Or.inl hk)), h.inv, h.n1, h.n2, h.n3⟩

structure Duo (Rep : World → Nat → (Nat → Prop) → St → Prop) (w wr : World) (i j : Ix) (L : List (Nat × Obj)) : Prop where
  one : Half Rep wr i
  two : Half Rep wr j
  dis : ∀ k, i.Has k → ¬ j.Has k
  bel : Below w.heap.size w wr
  o1 : ∀ k, i.Has k → w.heap.size ≤ k
  o2 : ∀ k, j.Has k → w.heap.size ≤ k
  loc : ∀ p ∈ L, wr.heap[p.1]? = some p.2 ∧ ¬ i.Has p.1 ∧ ¬ j.Has p.1

theorem Duo.swap {w wr : World} {i j : Ix} {L : List (Nat × Obj)} (h : Duo Rep w wr i j L) : Duo Rep w wr j i L :=
  ⟨h.two, h.one, fun k h1 h2 => h.dis k h2 h1, h.bel, h.o2, h.o1, fun p hp => ⟨(h.loc p hp).1, (h.loc p hp).2.2, (h.loc p hp).2.1⟩⟩
theorem Duo.size {w wr : World} {i j : Ix} {L : List (Nat × Obj)} (h : Duo Rep w wr i j L) : w.heap.size ≤ wr.heap.size := h.bel.size

/-- What turns one side alone. -/
theorem Duo.turn (P : PSpec Rep) {w wr w' : World} {i i' j : Ix} {L : List (Nat × Obj)} (h : Duo Rep w wr i j L) (hf : Fr i.Has wr w') (hn : ∀ k, i'.Has k → i.Has k ∨ wr.heap.size ≤ k) (h1 : Half Rep w' i') : Duo Rep w w' i' j L := by
  have hs := h.bel.size
  refine ⟨h1, h.two.fr P hf (fun k hk hi => h.dis k hi hk), fun k hk hj => ?_, below_fr h.bel hf h.o1, fun k hk => ?_, h.o2, fun p hp => ?_⟩
  · rcases hn k hk with e | e
    · exact h.dis k e hj
    · have := h.two.lt P k hj; omega
  · rcases hn k hk with e | e
    · exact h.o1 k e
    · omega
  · obtain ⟨l1, l2, l3⟩ := h.loc p hp
    have hl := lt_of_block' l1
    refine ⟨(hf.block p.1 hl l2).trans l1, fun hk => ?_, l3⟩
    rcases hn p.1 hk with e | e
    · exact l2 e
    · omega
theorem Duo.below (P : PSpec Rep) {w wr w' : World} {i j : Ix} {L : List (Nat × Obj)} (h : Duo Rep w wr i j L) (hb : Below wr.heap.size wr w') : Duo Rep w w' i j L :=
  h.turn P (Fr.of_below hb _ (fun k h1 h2 => by omega)) (fun k hk => Or.inl hk) (h.one.fr P (Fr.of_below hb (fun _ => False) (fun k h1 h2 => by omega)) (fun k _ e => e))
theorem Duo.left (P : PSpec Rep) {w wr w' : World} {i j : Ix} {L : List (Nat × Obj)} {sc' : St} (h : Duo Rep w wr i j L) (hi : Inv sc') (hL : Left Rep wr w' i.xc i.F sc') : ∃ F', Duo Rep w w' { i with F := F', sc := sc' } j L := by
  obtain ⟨F1, r1, f1, n1⟩ := hL
  have hl := h.one.book.lts
  have hn : ∀ k, ¬ i.F k → k < wr.heap.size → ¬ F1 k := fun k hk hlt h1 => (n1 k h1).elim hk (fun h => by omega)
  refine ⟨F1, h.turn P (f1.mono (fun k _ h => Or.inl h)) (fun k hk => ?_) ⟨h.one.book.fr f1 h.one.n1 h.one.n2 h.one.n3, r1, hi, hn _ h.one.n1 hl.1, hn _ h.one.n2 hl.2.1, hn _ h.one.n3 hl.2.2⟩⟩
  rcases hk with hk | hk
  · exact (n1 k hk).imp Or.inl id
  · exact Or.inl (Or.inr hk)
theorem Duo.came (P : PSpec Rep) {w wr w' : World} {i j : Ix} {L : List (Nat × Obj)} {sb' : St} (h : Duo Rep w wr i j L) (hc : Came wr w' i.b i.xc i.gs i.cs i.ga sb') : ∃ ga' ca', Duo Rep w w' { i with ga := ga', ca := ca', sb := sb' } j L := by
  obtain ⟨ga', ca', h1, h2, h3⟩ := hc
  have hFl := P.lt h.one.rep
  have h3b := h.one.book.three
  refine ⟨ga', ca', h.turn P (h2.mono (fun k _ e => ?_)) (fun k hk => ?_) ⟨h1, P.fr h.one.rep h2 (fun k hk e => ?_), h.one.inv, h.one.n1, h.one.n2, ?_⟩⟩
  · rcases e with e | e
    · exact Or.inr (Or.inl e)
    · exact Or.inr (Or.inr (Or.inr e))
  · rcases hk with hk | hk | hk | hk
    · exact Or.inl (Or.inl hk)
    · exact Or.inl (Or.inr (Or.inl hk))
    · exact Or.inl (Or.inr (Or.inr (Or.inl hk)))
    · rcases h3 with e | e
      · exact Or.inl (Or.inr (Or.inr (Or.inr (hk.trans e))))
      · exact Or.inr (by have hk' : k = ga' := hk; omega)
  · rcases e with e | e
    · subst e; exact h.one.n1 hk
    · subst e; exact h.one.n3 hk
  · rcases h3 with e | e
    · subst e; exact h.one.n3
    · intro hk; have := hFl ga' hk; omega
theorem Duo.alloc (P : PSpec Rep) {w wr : World} {i j : Ix} {L : List (Nat × Obj)} (h : Duo Rep w wr i j L) (ob : Obj) : Duo Rep w (wr.alloc ob) i j ((wr.heap.size, ob) :: L) := by
  have h' := h.below P ((Below.refl wr.heap.size wr).alloc (Nat.le_refl _) ob)
  refine ⟨h'.one, h'.two, h'.dis, h'.bel, h'.o1, h'.o2, fun p hp => ?_⟩
  rcases List.mem_cons.1 hp with e | e
  · subst e
    exact ⟨heap_alloc_new wr ob, fun hk => by have := h.one.lt P _ hk; omega, fun hk => by have := h.two.lt P _ hk; omega⟩
  · exact h'.loc p e
theorem Duo.drop {w wr : World} {i j : Ix} {L : List (Nat × Obj)} (h : Duo Rep w wr i j L) : Duo Rep w wr i j [] :=
  ⟨h.one, h.two, h.dis, h.bel, h.o1, h.o2, fun p hp => by simp at hp⟩
theorem Duo.both {w wr : World} {i j : Ix} {L : List (Nat × Obj)} (h : Duo Rep w wr i j L) (e : i.sb = i.sc) : Both Rep wr i.b i.xc i.gs i.cs i.ga i.ca i.F i.sc :=
  ⟨by have := h.one.book; rw [e] at this; exact this, h.one.rep, h.one.inv, h.one.n1, h.one.n2, h.one.n3⟩
end

/-- The two chains at the start. -/
theorem duo_of {Rep : World → Nat → (Nat → Prop) → St → Prop} (P : PSpec Rep) {w w1 w2 : World} {b xc gs cs ga ca d xd gs2 cs2 ga2 ca2 : Nat} {F G : Nat → Prop} {s t : St} (h : New Rep w w1 b xc gs cs ga ca F s) (k : New Rep w1 w2 d xd gs2 cs2 ga2 ca2 G t) : Duo Rep w w2 ⟨b, xc, gs, cs, ga, ca, F, s, s⟩ ⟨d, xd, gs2, cs2, ga2, ca2, G, t, t⟩ [] := by
  have hF := P.lt h.1.rep
  have hl := h.1.book.lts
  have hs := h.2.1.size
  have h' := h.below P k.2.1
  obtain ⟨kB, kb, kG, kd, kgs, kga⟩ := k
  obtain ⟨hB, hb, hG, hd, hgs, hga⟩ := h'
  refine ⟨⟨hB.book, hB.rep, hB.inv, hB.n1, hB.n2, hB.n3⟩, ⟨kB.book, kB.rep, kB.inv, kB.n1, kB.n2, kB.n3⟩, fun q h1 h2 => ?_, hb, fun q h1 => ?_, fun q h2 => ?_, fun p hp => by simp at hp⟩
  · have e1 : q < w1.heap.size := by
      rcases h1 with e | e | e | e
      · exact hF q e
      · have e' : q = b := e; omega
      · have e' : q = gs := e; omega
      · have e' : q = ga := e; omega
    have e2 : w1.heap.size ≤ q := by
      rcases h2 with e | e | e | e
      · exact kG q e
      · have e' : q = d := e; omega
      · have e' : q = gs2 := e; omega
      · have e' : q = ga2 := e; omega
    omega
  · rcases h1 with e | e | e | e
    · exact hG q e
    · have e' : q = b := e; omega
    · have e' : q = gs := e; omega
    · have e' : q = ga := e; omega
  · rcases h2 with e | e | e | e
    · have := kG q e; omega
    · have e' : q = d := e; omega
    · have e' : q = gs2 := e; omega
    · have e' : q = ga2 := e; omega

end Go.Proofs.Ytpaakikgfojplab

