import Derived.Test.YtpaakikgfojplaaCTxM
/-
  PLAIN MATHEMATICS: a header's text, and the header of a text.
-/
namespace Go.Proofs.Ytpaakikgfojplaa.Tx
open Bk
set_option linter.unusedVariables false

def flds (h : Hdr) : List Int := [h.slot, h.pool, h.proof, h.count, h.frm, h.dst, h.amount]
def ofL (l : List Nat) : Hdr := ⟨(l.getD 0 0 : Nat), (l.getD 1 0 : Nat), (l.getD 2 0 : Nat), (l.getD 3 0 : Nat), (l.getD 4 0 : Nat), (l.getD 5 0 : Nat), (l.getD 6 0 : Nat)⟩
/-- Is a number of it below 0? -/
def low (h : Hdr) : Bool := (flds h).any fun x => decide (x < 0)
def enc (h : Hdr) : List UInt8 := 135 :: nums ((flds h).map Int.toNat)
def dec (t : List UInt8) : Option Hdr := (seven t).map ofL
def Fits (h : Hdr) : Prop := ∀ x ∈ flds h, x ≤ 9223372036854775807

theorem low_false {h : Hdr} (hl : low h = false) : 0 ≤ h.slot ∧ 0 ≤ h.pool ∧ 0 ≤ h.proof ∧ 0 ≤ h.count ∧ 0 ≤ h.frm ∧ 0 ≤ h.dst ∧ 0 ≤ h.amount := by
  simp [low, flds] at hl
  omega
theorem ofL_flds {h : Hdr} (hl : low h = false) : ofL ((flds h).map Int.toNat) = h := by
  obtain ⟨h0, h1, h2, h3, h4, h5, h6⟩ := low_false hl
  obtain ⟨a0, a1, a2, a3, a4, a5, a6⟩ := h
  simp [flds, ofL] at *
  omega
theorem seven_list {l : List Nat} (hl : l.length = 7) : (flds (ofL l)).map Int.toNat = l := by
  match l, hl with
  | [a, b, c, d, e, f, g], _ => simp [flds, ofL]
theorem ofL_low (l : List Nat) : low (ofL l) = false := by
  simp [low, flds, ofL]
theorem dec_enc {h : Hdr} (hl : low h = false) (hf : Fits h) : dec (enc h) = some h := by
  unfold dec enc
  rw [seven_nums (by simp [flds])]
  · show some (ofL _) = _
    rw [ofL_flds hl]
  · intro n hn
    rw [List.mem_map] at hn
    obtain ⟨x, hx, rfl⟩ := hn
    have := hf x hx
    omega
theorem dec_some {t : List UInt8} {h : Hdr} (hd : dec t = some h) : t = enc h ∧ low h = false ∧ Fits h := by
  unfold dec at hd
  cases hs : seven t with
  | none => rw [hs] at hd; simp at hd
  | some l =>
    rw [hs] at hd
    simp only [Option.map_some, Option.some.injEq] at hd
    subst hd
    obtain ⟨e1, e2, e3⟩ := seven_some hs
    refine ⟨?_, ofL_low l, ?_⟩
    · unfold enc
      rw [seven_list e2]
      exact e1
    · have hx : ∀ i, l.getD i 0 < 9223372036854775808 := by
        intro i
        by_cases hi : i < l.length
        · rw [List.getD_eq_getElem?_getD, List.getElem?_eq_getElem hi]
          exact e3 _ (List.getElem_mem hi)
        · rw [List.getD_eq_getElem?_getD, List.getElem?_eq_none (by omega)]
          decide
      intro x h
      simp only [flds, ofL, List.mem_cons, List.not_mem_nil, or_false] at h
      have g0 := hx 0
      have g1 := hx 1
      have g2 := hx 2
      have g3 := hx 3
      have g4 := hx 4
      have g5 := hx 5
      have g6 := hx 6
      rcases h with rfl | rfl | rfl | rfl | rfl | rfl | rfl <;> omega
theorem enc_inj {h g : Hdr} (hl : low h = false) (hf : Fits h) (gl : low g = false) (gf : Fits g) (e : enc h = enc g) : h = g := by
  have h1 := dec_enc hl hf
  rw [e, dec_enc gl gf] at h1
  simpa using h1.symm
theorem num_pos (n : Nat) : 1 ≤ (num n).length := by simp [num]
theorem num_le (n : Nat) : (num n).length ≤ 9 := by
  have h : (num n).length = 1 + sz (kind n) := by simp [num, dig_len]; omega
  rw [h]
  unfold sz
  repeat' split
  all_goals omega
theorem nums_le (l : List Nat) : (nums l).length ≤ 9 * l.length := by
  induction l with
  | nil => simp [nums]
  | cons a l ih =>
    have e : nums (a :: l) = num a ++ nums l := by simp [nums]
    rw [e, List.length_append, List.length_cons]
    have := num_le a
    omega
theorem nums_ge (l : List Nat) : l.length ≤ (nums l).length := by
  induction l with
  | nil => simp [nums]
  | cons a l ih =>
    have e : nums (a :: l) = num a ++ nums l := by simp [nums]
    rw [e, List.length_append, List.length_cons]
    have := num_pos a
    omega
theorem enc_len (h : Hdr) : 8 ≤ (enc h).length ∧ (enc h).length ≤ 64 := by
  have h1 := nums_le ((flds h).map Int.toNat)
  have h2 := nums_ge ((flds h).map Int.toNat)
  have h3 : ((flds h).map Int.toNat).length = 7 := by simp [flds]
  unfold enc
  rw [List.length_cons]
  omega
/-- A header's text with one byte more, or one less, is none. -/
theorem dec_more {h : Hdr} (hl : low h = false) (hf : Fits h) (b : UInt8) : dec (enc h ++ [b]) = none := by
  have hr := rds_nums ((flds h).map Int.toNat) [b] (by
    intro n hn
    rw [List.mem_map] at hn
    obtain ⟨x, hx, rfl⟩ := hn
    have := hf x hx
    omega)
  have h3 : ((flds h).map Int.toNat).length = 7 := by simp [flds]
  rw [h3] at hr
  unfold dec enc seven
  simp [hr]
theorem dec_less {h : Hdr} (hl : low h = false) (hf : Fits h) : dec ((enc h).dropLast) = none := by
  cases hd : dec (enc h).dropLast with
  | none => rfl
  | some g =>
    exfalso
    obtain ⟨e, gl, gf⟩ := dec_some hd
    have hne : enc h ≠ [] := by unfold enc; simp
    have e2 := List.dropLast_concat_getLast hne
    rw [e] at e2
    have h1 := dec_more gl gf ((enc h).getLast hne)
    rw [e2, dec_enc hl hf] at h1
    simp at h1
end Go.Proofs.Ytpaakikgfojplaa.Tx

