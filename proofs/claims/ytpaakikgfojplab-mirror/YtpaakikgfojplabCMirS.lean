import Derived.Test.YtpaakikgfojplabCM21
/-
  MATHEMATICS for Mirror: the same headers, one after another, on another chain.
-/
namespace Go.Proofs.Ytpaakikgfojplab
open Go.RowKit Num Bk
set_option linter.unusedVariables false

namespace Bk

theorem nodup_le {l m : List Nat} (hn : l.Nodup) (hs : ∀ x ∈ l, x ∈ m) : l.length ≤ m.length := by
  induction l generalizing m with
  | nil => simp
  | cons a l ih =>
    rw [List.nodup_cons] at hn
    have ha : a ∈ m := hs a (by simp)
    have h1 := ih (m := m.erase a) hn.2 (fun x hx => by
      have hne : x ≠ a := fun e => hn.1 (e ▸ hx)
      exact (List.mem_erase_of_ne hne).2 (hs x (by simp [hx])))
    have h2 := List.length_erase_of_mem ha
    have h3 : 0 < m.length := List.length_pos_of_mem ha
    simp only [List.length_cons]
    omega

/-- What is on the other chain so far: L has the number on the first chain of each of the other's headers. -/
structure Sim (s d : St) (L : List Nat) : Prop where
  inv : Inv d
  par : d.par = s.par
  len : d.all.length = L.length
  nodup : L.Nodup
  head : L.getD 0 0 = 0
  pos : 0 < L.length
  lt : ∀ i ∈ L, i < s.all.length
  hdr : ∀ j, 0 < j → j < L.length → hd d.all j = hd s.all (L.getD j 0)
  prt : ∀ j, 0 < j → j < L.length → pa s.all (L.getD j 0) = L.getD (pa d.all j) 0
  up : ∀ i ∈ L, 0 < i → pa s.all i ∈ L

theorem idx_getD {L : List Nat} (hn : L.Nodup) {j : Nat} (hj : j < L.length) : L.idxOf (L.getD j 0) = j := by
  have e : L.getD j 0 = L[j] := by simp [List.getD, hj]
  rw [e]
  exact hn.idxOf_getElem j hj

theorem getD_idx {L : List Nat} {i : Nat} (hi : i ∈ L) : L.getD (L.idxOf i) 0 = i := by
  have h := List.idxOf_lt_length_of_mem hi
  have e : L.getD (L.idxOf i) 0 = L[L.idxOf i] := by simp [List.getD, h]
  rw [e]
  exact List.getElem_idxOf h

theorem Sim.zero {s d : St} {L : List Nat} (h : Sim s d L) : L.idxOf 0 = 0 ∧ 0 ∈ L := by
  have h1 := idx_getD h.nodup h.pos
  rw [h.head] at h1
  have h2 : L.getD 0 0 ∈ L := by
    have hp := h.pos
    have e : L.getD 0 0 = L[0] := by simp [List.getD, hp]
    rw [e]
    exact List.getElem_mem _
  rw [h.head] at h2
  exact ⟨h1, h2⟩

theorem Sim.iso {s d : St} {L : List Nat} (h : Sim s d L) : Iso s d (fun i => L.idxOf i) (fun i => i ∈ L) := by
  have hpos : ∀ i, i ∈ L → 0 < i → 0 < L.idxOf i := by
    intro i hi h0
    refine Nat.pos_of_ne_zero (fun e => ?_)
    have h1 := getD_idx hi
    rw [e, h.head] at h1
    omega
  refine ⟨h.par, h.zero.1, h.zero.2, fun i hi => h.lt i hi, fun i hi h0 => h.up i hi h0, fun i hi h0 => ⟨hpos i hi h0, ?_⟩, fun i hi h0 => ?_, fun i hi h0 => ?_⟩
  · rw [h.len]; exact List.idxOf_lt_length_of_mem hi
  · rw [h.hdr _ (hpos i hi h0) (List.idxOf_lt_length_of_mem hi), getD_idx hi]
  · have h1 := h.prt _ (hpos i hi h0) (List.idxOf_lt_length_of_mem hi)
    rw [getD_idx hi] at h1
    have h2 := h.inv.tree _ (hpos i hi h0)
    have h3 := List.idxOf_lt_length_of_mem hi
    show pa d.all (L.idxOf i) = L.idxOf (pa s.all i)
    rw [h1, idx_getD h.nodup (by omega)]

/-- Nothing is final but the start. -/
theorem fin_zero_iff {s : St} (hi : Inv s) : fin s = 0 ↔ (height s.all (tip s) : Int) ≤ s.par.depth := by
  have h1 := fin_height hi
  have h2 := hi.par.d1
  constructor
  · intro e
    rw [e, height_zero] at h1
    omega
  · intro e
    have h3 : height s.all (fin s) = 0 := by omega
    refine Nat.eq_zero_of_not_pos (fun h0 => ?_)
    rw [height_step hi.tree h0] at h3
    omega

theorem keep_all {s : St} (hi : Inv s) (hz : fin s = 0) (i : Nat) (hl : i < s.all.length) : i ∈ s.keep := by
  rw [hi.keep, hz]
  exact ⟨hl, line_zero_mem hi.tree i⟩

theorem Sim.fin {s d : St} {L : List Nat} (hs : Inv s) (hz : fin s = 0) (h : Sim s d L) : Bk.fin d = 0 := by
  rw [fin_zero_iff h.inv]
  have h1 := (fin_zero_iff hs).1 hz
  have ht := inv_lt h.inv h.inv.tipin
  rw [h.len] at ht
  have h2 := h.iso.height hs.tree h.inv.tree (L.getD (tip d) 0)
  have hm : L.getD (tip d) 0 ∈ L := by
    have e : L.getD (tip d) 0 = L[tip d] := by simp [List.getD, ht]
    rw [e]; exact List.getElem_mem _
  have h3 := h2 hm
  rw [idx_getD h.nodup ht] at h3
  have h4 := hs.high _ (h.lt _ hm)
  rw [h3, h.par]
  omega

/-- The kept ones are all. -/
theorem keep_len {s : St} (hi : Inv s) (hz : fin s = 0) : s.keep.length = s.all.length := by
  have h1 : s.keep.Nodup := hi.rise.imp (fun h => Nat.ne_of_lt h)
  have h2 := nodup_le h1 (m := List.range s.all.length) (fun x hx => List.mem_range.2 (inv_lt hi hx))
  have h3 := nodup_le (List.nodup_range (n := s.all.length)) (m := s.keep) (fun x hx => keep_all hi hz x (List.mem_range.1 hx))
  simp at h2 h3
  omega

/-- One that is not there yet, and whose parent is: accepted. -/
theorem Sim.step {s d : St} {L : List Nat} (hs : Inv s) (hf : Fair s) (hz : Bk.fin s = 0) (h : Sim s d L) {i : Nat} (hl : i < s.all.length) (hn : i ∉ L) (hp : pa s.all i ∈ L) :
    offerErr d (L.idxOf (pa s.all i) : Nat) (hd s.all i) = 0 ∧ Sim s (taken d (L.idxOf (pa s.all i)) (hd s.all i)) (L ++ [i]) := by
  have h0 : 0 < i := Nat.pos_of_ne_zero (fun e => hn (e ▸ h.zero.2))
  have hdz := h.fin hs hz
  have hpl : L.idxOf (pa s.all i) < L.length := List.idxOf_lt_length_of_mem hp
  have hkeep : L.idxOf (pa s.all i) ∈ d.keep := keep_all h.inv hdz _ (by rw [h.len]; exact hpl)
  have hroom : (d.keep.length : Int) < d.par.room := by
    rw [keep_len h.inv hdz, h.len, h.par]
    have h1 := hs.full
    rw [keep_len hs hz] at h1
    have hnd : (i :: L).Nodup := List.nodup_cons.2 ⟨hn, h.nodup⟩
    have h2 := nodup_le hnd (m := List.range s.all.length) (fun x hx => by
      rcases List.mem_cons.1 hx with hx | hx
      · subst hx; exact List.mem_range.2 hl
      · exact List.mem_range.2 (h.lt x hx))
    simp at h2
    omega
  have ha : Accept d (L.idxOf (pa s.all i)) (hd s.all i) := h.iso.accept hs hf h.inv h0 hl hp hkeep hroom
  have hth : there d ((L.idxOf (pa s.all i) : Nat) : Int) (hd s.all i) = 0 := by
    refine Nat.eq_zero_of_not_pos (fun hpos => ?_)
    unfold there at hpos
    cases hfd : d.keep.find? (fun k => decide (0 < k) && ((pa d.all k : Int) == ((L.idxOf (pa s.all i) : Nat) : Int)) && eqH (hd d.all k) (hd s.all i)) with
    | none => rw [hfd] at hpos; simp at hpos
    | some k =>
      have hk := List.find?_some hfd
      have hkm := List.mem_of_find?_eq_some hfd
      have hkl := inv_lt h.inv hkm
      rw [h.len] at hkl
      simp only [Bool.and_eq_true, decide_eq_true_eq, beq_iff_eq, eqH_iff] at hk
      obtain ⟨⟨hk0, hkp⟩, hkh⟩ := hk
      have hkp' : pa d.all k = L.idxOf (pa s.all i) := by omega
      have e1 := h.prt k hk0 hkl
      rw [hkp', getD_idx hp] at e1
      have e2 := h.hdr k hk0 hkl
      rw [hkh] at e2
      have hm : L.getD k 0 ∈ L := by
        have e : L.getD k 0 = L[k] := by simp [List.getD, hkl]
        rw [e]; exact List.getElem_mem _
      have hg0 : 0 < L.getD k 0 := by
        refine Nat.pos_of_ne_zero (fun e => ?_)
        have := idx_getD h.nodup hkl
        rw [e, h.zero.1] at this
        omega
      have e3 := hf.uniq i (L.getD k 0) (keep_all hs hz i hl) (keep_all hs hz _ (h.lt _ hm)) h0 hg0 e1.symm e2
      exact hn (e3 ▸ hm)
  refine ⟨of_accept ha hth, ?_⟩
  have hall := taken_all d (L.idxOf (pa s.all i)) (hd s.all i)
  have hgl : ∀ j, j < L.length → (L ++ [i]).getD j 0 = L.getD j 0 := by
    intro j hj
    simp [List.getD, List.getElem?_append_left hj]
  have hgn : (L ++ [i]).getD L.length 0 = i := by simp [List.getD]
  refine ⟨(stepped h.inv ha).inv, h.par, by rw [hall]; simp [h.len], ?_, ?_, by simp, ?_, ?_, ?_, ?_⟩
  · rw [List.nodup_append]
    refine ⟨h.nodup, by simp, ?_⟩
    intro a hal b hb e
    have hbi : b = i := by simpa using hb
    rw [e, hbi] at hal
    exact hn hal
  · rw [hgl 0 h.pos]; exact h.head
  · intro k hk
    rcases List.mem_append.1 hk with hk | hk
    · exact h.lt k hk
    · have : k = i := by simpa using hk
      subst this; exact hl
  · intro j hj0 hj
    rw [List.length_append, List.length_singleton] at hj
    rcases Nat.lt_or_ge j L.length with hj1 | hj1
    · rw [hall, hd_old (by rw [h.len]; exact hj1), hgl j hj1]
      exact h.hdr j hj0 hj1
    · have e : j = L.length := by omega
      subst e
      rw [hgn, hall, ← h.len, hd_new]
  · intro j hj0 hj
    rw [List.length_append, List.length_singleton] at hj
    rcases Nat.lt_or_ge j L.length with hj1 | hj1
    · have := h.inv.tree j hj0
      rw [hall, pa_old (by rw [h.len]; exact hj1), hgl j hj1, hgl _ (by omega)]
      exact h.prt j hj0 hj1
    · have e : j = L.length := by omega
      subst e
      rw [hgn, hall, ← h.len, pa_new]
      show pa s.all i = (L ++ [i]).getD (L.idxOf (pa s.all i)) 0
      rw [hgl _ hpl, getD_idx hp]
  · intro k hk hk0
    rcases List.mem_append.1 hk with hk | hk
    · exact List.mem_append_left _ (h.up k hk hk0)
    · have : k = i := by simpa using hk
      subst this
      exact List.mem_append_left _ hp

/-- While not all are there, one may come next. -/
theorem Sim.more {s d : St} {L : List Nat} (hs : Inv s) (h : Sim s d L) (hl : L.length < s.all.length) : ∃ i, 0 < i ∧ i < s.all.length ∧ i ∉ L ∧ pa s.all i ∈ L := by
  by_cases hc : ∀ i, i < s.all.length → i ∈ L
  · have := nodup_le (List.nodup_range (n := s.all.length)) (m := L) (fun x hx => hc x (List.mem_range.1 hx))
    simp at this
    omega
  · have : ∃ n, n < s.all.length ∧ n ∉ L := by
      refine Classical.byContradiction (fun hh => hc (fun i hi => ?_))
      exact Classical.byContradiction (fun h1 => hh ⟨i, hi, h1⟩)
    obtain ⟨n, hn1, hn2⟩ := this
    induction n using Nat.strongRecOn with
    | _ n ih =>
      have h0 : 0 < n := Nat.pos_of_ne_zero (fun e => hn2 (e ▸ h.zero.2))
      have h1 := hs.tree n h0
      by_cases hp : pa s.all n ∈ L
      · exact ⟨n, h0, hn1, hn2, hp⟩
      · exact ih _ h1 (by omega) hp

theorem sim_start {s : St} (hs : Inv s) (d : St) (hd' : Inv d) (hpar : d.par = s.par) (hall : d.all.length = 1) : Sim s d [0] := by
  refine ⟨hd', hpar, by simp [hall], by simp, rfl, by simp, ?_, ?_, ?_, ?_⟩
  · intro i hi
    have : i = 0 := by simpa using hi
    subst this; exact hs.len
  · intro j h0 h1; simp at h1; omega
  · intro j h0 h1; simp at h1; omega
  · intro i hi h0
    have : i = 0 := by simpa using hi
    omega

/-- The paths are as long. -/
theorem Sim.tip {s d : St} {L : List Nat} (hs : Inv s) (h : Sim s d L) (hl : L.length = s.all.length) : height d.all (Bk.tip d) = height s.all (Bk.tip s) := by
  have hin : ∀ i, i < s.all.length → i ∈ L := by
    intro i hi
    refine Classical.byContradiction (fun hn => ?_)
    have hnd : (i :: L).Nodup := List.nodup_cons.2 ⟨hn, h.nodup⟩
    have h2 := nodup_le hnd (m := List.range s.all.length) (fun x hx => by
      rcases List.mem_cons.1 hx with hx | hx
      · subst hx; exact List.mem_range.2 hi
      · exact List.mem_range.2 (h.lt x hx))
    simp at h2
    omega
  have t1 := inv_lt hs hs.tipin
  have e1 := h.iso.height hs.tree h.inv.tree _ (hin _ t1)
  have b1 := h.inv.high (L.idxOf (Bk.tip s)) (by rw [h.len]; exact List.idxOf_lt_length_of_mem (hin _ t1))
  have t2 := inv_lt h.inv h.inv.tipin
  rw [h.len] at t2
  have hm : L.getD (Bk.tip d) 0 ∈ L := by
    have e : L.getD (Bk.tip d) 0 = L[Bk.tip d] := by simp [List.getD, t2]
    rw [e]; exact List.getElem_mem _
  have e2 := h.iso.height hs.tree h.inv.tree _ hm
  rw [idx_getD h.nodup t2] at e2
  have b2 := hs.high _ (h.lt _ hm)
  omega

end Bk

end Go.Proofs.Ytpaakikgfojplab

