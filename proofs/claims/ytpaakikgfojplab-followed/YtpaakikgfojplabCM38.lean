import Derived.Test.YtpaakikgfojplabCBc2
import Derived.Test.YtpaakikgfojplabCM35
import Derived.Great.BuildSlice
/-
  PLAIN MATHEMATICS: what the program's Offer answers and leaves is what the document says.
-/
namespace Go.Proofs.Ytpaakikgfojplab
open Go.RowKit Num Bk
set_option linter.unusedVariables false

theorem turnErr_kept {s : St} {k : Nat} (hk : k ∈ s.keep) (slot pool : Int) : turnErr s (k : Int) slot pool = if slotOk s k slot = false then 4 else if poolOk s pool = false then 5 else 0 := by
  have hm : missing s (k : Int) = 0 := by unfold missing; rw [(has_nat _ _).2 hk]; rfl
  unfold turnErr
  rw [if_neg (by simp [hm]), Int.toNat_natCast]

theorem refused_match {s : St} (hi : Inv s) {k : Nat} (hk : k ∈ s.keep) (h : Hdr) :
    refused s (k : Int) h = if nextErr s.par (pageOf s.par s.all k) h = 0 then (if 0 < there s (k : Int) h then 10 else 0) else nextErr s.par (pageOf s.par s.all k) h := by
  have hs := slot_match hi (inv_lt hi hk) h.slot
  unfold refused
  rw [turnErr_kept hk, nextErr_eq, Int.toNat_natCast]
  by_cases h1 : slotOk s k h.slot = false
  · rw [if_pos h1, if_pos (hs.2 h1)]
    simp
  · rw [if_neg h1, if_neg (fun e => h1 (hs.1 e))]
    have h1' : slotOk s k h.slot = true := by simpa using h1
    obtain ⟨hp1, hp2, hp3⟩ := proof_match hi hk h.slot h.pool h1'
    rw [poolB_ok]
    by_cases h2 : poolOk s h.pool = false
    · rw [if_pos h2, if_pos h2]
      simp
    · rw [if_neg h2, if_neg h2]
      have h2' : poolOk s h.pool = true := by simpa using h2
      have hpn : ((h.pool.toNat : Nat) : Int) = h.pool := by
        simp only [poolOk, Bool.and_eq_true, decide_eq_true_eq] at h2'
        omega
      have hcn : (pageOf s.par s.all k).counts h.pool.toNat = countAt s.all h.pool k := by
        show countAt s.all ((h.pool.toNat : Nat) : Int) k = _
        rw [hpn]
      rw [hcn, hp1, hp3]
      rw [if_neg (show ¬ ((0 : Int) ≠ 0) from fun e => e rfl)]
      by_cases h3 : h.count ≠ countAt s.all h.pool k ∧ h.count ≠ countAt s.all h.pool k + 1
      · rw [if_pos h3, if_pos h3]; simp
      · rw [if_neg h3, if_neg h3]
        have hst : (pageOf s.par s.all k).stakes h.frm.toNat = (stakesAt s.par s.all k).getD h.frm.toNat 0 := rfl
        by_cases h4 : poolOk s h.frm = false ∨ poolOk s h.dst = false
        · have hm : mayB s.par (pageOf s.par s.all k) h = false := by
            unfold mayB
            rw [poolB_ok, poolB_ok]
            rcases h4 with h4 | h4
            · rw [h4]; rfl
            · rw [h4]; simp
          rw [if_pos h4, if_pos hm]; simp
        · rw [if_neg h4]
          have hf : poolOk s h.frm = true := by cases e : poolOk s h.frm <;> simp_all
          have hd' : poolOk s h.dst = true := by cases e : poolOk s h.dst <;> simp_all
          have hmay : mayB s.par (pageOf s.par s.all k) h = (decide (0 ≤ h.amount) && decide (h.amount ≤ (stakesAt s.par s.all k).getD h.frm.toNat 0)) := by
            unfold mayB
            rw [poolB_ok, poolB_ok, hf, hd', hst]; rfl
          rw [hmay]
          by_cases h5 : h.amount < 0 ∨ (stakesAt s.par s.all k).getD h.frm.toNat 0 < h.amount
          · have hm : (decide (0 ≤ h.amount) && decide (h.amount ≤ (stakesAt s.par s.all k).getD h.frm.toNat 0)) = false := by
              rw [Bool.and_eq_false_iff]
              rcases h5 with h5 | h5
              · exact Or.inl (decide_eq_false (by omega))
              · exact Or.inr (decide_eq_false (by omega))
            rw [if_pos h5, if_pos hm]; simp
          · have hm : ¬ (decide (0 ≤ h.amount) && decide (h.amount ≤ (stakesAt s.par s.all k).getD h.frm.toNat 0)) = false := by
              rw [Bool.and_eq_false_iff]
              simp only [decide_eq_false_iff_not]
              omega
            rw [if_neg h5, if_neg hm]
            by_cases h6 : h.proof ≠ proofAt s k h.slot h.pool
            · rw [if_pos h6, if_pos h6]; simp
            · rw [if_neg h6, if_neg h6]
              by_cases h7 : leadsAt s k h.slot h.pool = false
              · rw [if_pos h7, if_pos h7]; simp
              · rw [if_neg h7, if_neg h7]; simp

theorem offerErr_miss {s : St} {parent : Int} (h : Hdr) (hm : missing s parent ≠ 0) : offerErr s parent h = missing s parent := by
  have ht : turnErr s parent h.slot h.pool = missing s parent := by unfold turnErr; rw [if_pos hm]
  have hr : refused s parent h = missing s parent := by unfold refused; rw [ht, if_pos hm]
  unfold offerErr
  rw [hr, if_pos hm]

theorem offerErr_next {s : St} (hi : Inv s) {k : Nat} (hk : k ∈ s.keep) (h : Hdr) (hn : nextErr s.par (pageOf s.par s.all k) h ≠ 0) : offerErr s (k : Int) h = nextErr s.par (pageOf s.par s.all k) h := by
  have hr := refused_match hi hk h
  rw [if_neg hn] at hr
  unfold offerErr
  rw [hr, if_pos hn]

theorem offerErr_add {s : St} (hi : Inv s) {k : Nat} (hk : k ∈ s.keep) (h : Hdr) (hn : nextErr s.par (pageOf s.par s.all k) h = 0) :
    offerErr s (k : Int) h = if hasN (s.keep.map (ndOf s.par s.all)) (k : Int) h = true then 10 else if s.par.room ≤ s.keep.length then 11 else 0 := by
  have hr := refused_match hi hk h
  rw [if_pos hn] at hr
  unfold offerErr
  rw [hr, hasN_map hi (k : Int) h (by omega)]
  by_cases ht : 0 < there s (k : Int) h
  · rw [if_pos ht]; simp [ht]
  · rw [if_neg ht]; simp [ht]

theorem offer_no {s : St} {parent : Int} {h : Hdr} (he : offerErr s parent h ≠ 0) : offer s parent h = s ∧ offerId s parent h = 0 := by
  unfold offer offerId
  rw [if_neg he, if_neg he]
  exact ⟨rfl, rfl⟩


theorem rep_offer {s : St} (hi : Inv s) {k : Nat} {h : Hdr} (ha : Accept s k h) :
    setN (s.keep.map (ndOf s.par s.all) ++ [newN s k h]) (line s.all (fin s)).dropLast s.par.depth.toNat (fin s) = (taken s k h).keep.map (ndOf s.par (taken s k h).all) ∧
    setP (s.keep.map (ndOf s.par s.all) ++ [newN s k h]) (line s.all (fin s)).dropLast s.par.depth.toNat (fin s) = (line (taken s k h).all (fin (taken s k h))).dropLast := by
  have hst := settled hi ha
  have hid : (deepN (s.keep.map (ndOf s.par s.all) ++ [newN s k h]) s.par.depth.toNat (tipN (s.keep.map (ndOf s.par s.all) ++ [newN s k h]))).id = (fin (mid s k h) : Int) := by rw [hst.deep]; rfl
  unfold setN setP
  rw [hid]
  by_cases e : fin (mid s k h) = fin s
  · rw [if_pos (by rw [e]), if_pos (by rw [e])]
    obtain ⟨h1, h2⟩ := hst.same e
    exact ⟨h1.symm, by rw [h2]⟩
  · rw [if_neg (by omega), if_neg (by omega)]
    obtain ⟨h1, h2⟩ := hst.more e
    exact ⟨by rw [hst.deep]; exact h1, h2.symm⟩

end Go.Proofs.Ytpaakikgfojplab

/-
  A node that is built, a list of one node: under one name each.
-/
namespace Go.Proofs.Ytpaakikgfojplab
open Go.RowKit Num Bk
set_option linter.unusedVariables false

def buildNd (parts : Array (Nat × Value)) : Sem Value := Instr.build 89 parts
theorem buildNd_eq (parts : Array (Nat × Value)) : Instr.build 89 parts = buildNd parts := rfl
def buildNs (len : Nat) (parts : Array (Nat × Value)) : Sem Value := Instr.buildSlice 78 len parts
theorem buildNs_eq (len : Nat) (parts : Array (Nat × Value)) : Instr.buildSlice 78 len parts = buildNs len parts := rfl

theorem run_buildNd (w : World) (i q h a0 a1 a2 a3 a4 a5 a6 : Int) (g : Pg) :
    (buildNd #[(0, .int .i64 i), (1, .int .i64 q), (2, .int .i64 h), (3, .agg #[.int .i64 a0, .int .i64 a1, .int .i64 a2, .int .i64 a3, .int .i64 a4, .int .i64 a5, .int .i64 a6]), (4, .agg (pgA g))]).run Try.prog w = .ok (.agg (ndA ⟨i, q, h, ⟨a0, a1, a2, a3, a4, a5, a6⟩, g⟩)) w := by
  unfold buildNd
  exact run_build w 89 _ (ndA ⟨i, q, h, ⟨a0, a1, a2, a3, a4, a5, a6⟩, g⟩) (by kernel_rfl)

theorem run_buildNs (w : World) (n : Nd) :
    (buildNs 1 #[(0, .agg (ndA n))]).run Try.prog w = .ok (.slice (some ⟨w.heap.size, 0, none⟩) 1 1) (w.alloc (.cells (ndA n) 89)) := by
  obtain ⟨i1, hj, hy0, hy1, hy2⟩ := info_parts Try.info89
  unfold buildNs
  exact run_buildSlice w 78 89 1 #[(0, .agg (ndA n))] (ndA n) i1 (.agg (ndA zeroN)) Try.underlying78 hj hy0 (by rw [hy1]; decide) (by rw [hy1]; decide) (by rw [hy1]; kernel_rfl)

end Go.Proofs.Ytpaakikgfojplab

