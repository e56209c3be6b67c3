import Derived.Test.YtfpbkiknfkjpbaaGLed
namespace Go.Proofs.Ytfpbkiknfkjpbaa
open Go.RowKit Num Bk
set_option linter.unusedVariables false

def ndC (n : Nd) : List Value := [.int .i64 n.id, .int .i64 n.par, .int .i64 n.height, .int .i64 n.hdr.slot, .int .i64 n.hdr.pool, .int .i64 n.hdr.proof, .int .i64 n.hdr.count, .int .i64 n.hdr.frm, .int .i64 n.hdr.dst, .int .i64 n.hdr.amount] ++ (pgA n.pg).toList
def ndA (n : Nd) : Array Value := (ndC n).toArray
def ndV (n : Nd) : Value := .agg (ndA n)
def nsC (ns : List Nd) : List Value := ns.flatMap ndC

theorem ndC_length (n : Nd) : (ndC n).length = 37 := rfl
theorem nsC_length (l : List Nd) : (nsC l).length = l.length * 37 := by
  induction l with
  | nil => rfl
  | cons x l ih =>
    have e : nsC (x :: l) = ndC x ++ nsC l := by simp [nsC]
    rw [e, List.length_append, ndC_length, ih]; simp; omega
theorem nsC_append (l m : List Nd) : nsC (l ++ m) = nsC l ++ nsC m := by simp [nsC]
theorem nsC_at (l : List Nd) (i j : Nat) (hi : i < l.length) (hj : j < 37) : (nsC l)[i * 37 + j]? = (ndC (l.getD i zeroN))[j]? := by
  induction l generalizing i with
  | nil => simp at hi
  | cons x l ih =>
    have e : nsC (x :: l) = ndC x ++ nsC l := by simp [nsC]
    rw [e]
    cases i with
    | zero =>
      rw [List.getElem?_append_left (by rw [ndC_length]; omega)]
      simp [List.getD]
    | succ i =>
      rw [List.getElem?_append_right (by rw [ndC_length]; omega), ndC_length]
      have := ih i (by simpa using hi)
      have e2 : (i + 1) * 37 + j - 37 = i * 37 + j := by omega
      rw [e2, this]
      simp [List.getD]

theorem info_node (n : Nd) : (Try.prog.info? 81).map (·.size) = some (ndC n).length := by
  show _ = some 37
  kernel_rfl
theorem info_nodeA (n : Nd) : (Try.prog.info? 81).map (·.size) = some (ndA n).size := by
  show _ = some 37
  kernel_rfl
theorem nd_oneL (n : Nd) : ∀ u ∈ ndC n, u.oneCell' = true := by
  intro u hu
  simp only [ndC, pgA, List.mem_append, List.mem_cons, List.not_mem_nil, or_false] at hu
  rcases hu with (rfl | rfl | rfl | rfl | rfl | rfl | rfl | rfl | rfl | rfl) | hu
  all_goals first | rfl | skip
  rcases hu with rfl | rfl | rfl | rfl | rfl | rfl | rfl | rfl | rfl | rfl | rfl | rfl | rfl | rfl | rfl | rfl | rfl | rfl | rfl | rfl | rfl | rfl | rfl | rfl | rfl | rfl | rfl <;> rfl
theorem nd_one (n : Nd) : (ndA n).all (·.oneCell') = true := all_oneCell_toArray (nd_oneL n)

/-- The program's chain in memory. -/
structure ChAt (w : World) (x gk ck : Nat) (pv : Value) (p : Par) (acc : Int) (ns : List Nd) (past : List Nat) : Prop where
  blk : w.heap[x]? = some (.cells #[.int .i64 p.epoch, .int .i64 p.a, .int .i64 p.b, .int .i64 (p.stakes.length : Int), .int .i64 (total p), .int .i64 p.depth, .int .i64 p.room, .int .i64 acc, .slice (some ⟨gk, 0, none⟩) ns.length ck, pv] 89 (0, 0))
  kep : w.ownsRow 0 81 37 (.slice (some ⟨gk, 0, none⟩) ns.length ck) ns.length (nsC ns)
  pst : w.ownsRow 0 3 1 pv past.length (dcells past)

theorem ChAt.keep {w w' : World} {x gk ck : Nat} {pv : Value} {p : Par} {acc : Int} {ns : List Nd} {past : List Nat} (h : ChAt w x gk ck pv p acc ns past) (hb : Below w.heap.size w w') : ChAt w' x gk ck pv p acc ns past :=
  ⟨by rw [hb.block x (lt_of_block h.blk)]; exact h.blk, row_keep h.kep hb (Nat.le_refl _), row_keep h.pst hb (Nat.le_refl _)⟩

theorem ChAt.node {w : World} {x gk ck : Nat} {pv : Value} {p : Par} {acc : Int} {ns : List Nd} {past : List Nat} (h : ChAt w x gk ck pv p acc ns past) {i : Nat} (hi : i < ns.length) : w.rangeAt gk (i * 37) (ndC (ns.getD i zeroN)) := by
  intro j v hv
  have hj : j < 37 := by have := (List.getElem?_eq_some_iff.1 hv).1; rwa [ndC_length] at this
  rw [h.kep.cellAt _ (by omega), nsC_at _ _ _ hi hj]
  exact hv
theorem row_node {w : World} {base gk ck : Nat} {ns : List Nd} (h : w.ownsRow base 81 37 (.slice (some ⟨gk, 0, none⟩) ns.length ck) ns.length (nsC ns)) {i : Nat} (hi : i < ns.length) : w.rangeAt gk (i * 37) (ndC (ns.getD i zeroN)) := by
  intro j v hv
  have hj : j < 37 := by have := (List.getElem?_eq_some_iff.1 hv).1; rwa [ndC_length] at this
  rw [h.cellAt _ (by omega), nsC_at _ _ _ hi hj]
  exact hv

theorem find_step {α : Type} (P : α → Bool) (l : List α) (z : α) (k : Nat) (h : k < l.length) : (l.take (k + 1)).find? P = ((l.take k).find? P).or (if P (l.getD k z) then some (l.getD k z) else none) := by
  have e : l.take (k + 1) = l.take k ++ [l.getD k z] := by
    rw [List.take_succ_eq_append_getElem h]
    simp [List.getD, h]
  rw [e, List.find?_append]
  simp only [List.find?_cons, List.find?_nil]
  cases P (l.getD k z) <;> rfl
theorem find_done {α : Type} (P : α → Bool) (l : List α) (k : Nat) (v : α) (h : (l.take k).find? P = some v) : l.find? P = some v := by
  have e : l = l.take k ++ l.drop k := (List.take_append_drop k l).symm
  rw [e, List.find?_append, h]; rfl

theorem findN_none {ns : List Nd} {id : Int} (h : findN ns id = none) (past : List Nat) : findErr ns past id = if has past id then 2 else 3 := by
  unfold findErr; rw [h]; rfl
theorem findN_some {ns : List Nd} {id : Int} {n : Nd} (h : findN ns id = some n) (past : List Nat) : findErr ns past id = 0 := by
  unfold findErr; rw [h]; rfl

set_option maxHeartbeats 3200000 in
set_option maxRecDepth 1000000 in
theorem find_is (x gk ck : Nat) (pv : Value) (p : Par) (acc : Int) (ns : List Nd) (past : List Nat) (id : Int) (w : World) (hr : ChAt w x gk ck pv p acc ns past) (hl : ns.length ≤ 100) (hl2 : past.length ≤ 1000000) :
    Calls Try.prog 39 #[.pointer (some ⟨x, 5, none⟩), .int .i64 id] w fun e w' => e = .returned (.tuple #[ndV ((findN ns id).getD zeroN), .int .i64 (findErr ns past id)]) ∧ Below w.heap.size w w' := by
  obtain ⟨ao, pcap, hpv, hpo⟩ := own_any hr.pst
  subst hpv
  unfold ndV
  generalize hFV : (findN ns id).getD zeroN = FV at *
  generalize hFE : findErr ns past id = FE at *
  have HFV := Go.Proofs.Ytfpbkiknfkjpbaa.hid hFV
  have HFE := Go.Proofs.Ytfpbkiknfkjpbaa.hid hFE
  clear hFV hFE
  go_enter Try.func39, Try.ntmps39
  go_wp2
  generalize hA : w.alloc (.cells #[.int .i64 0, .int .i64 0, .int .i64 0, .int .i64 0, .int .i64 0, .int .i64 0, .int .i64 0, .int .i64 0, .int .i64 0, .int .i64 0, .int .i64 0, .int .i64 0, .int .i64 0, .int .i64 0, .int .i64 0, .int .i64 0, .int .i64 0, .int .i64 0, .int .i64 0, .int .i64 0, .int .i64 0, .int .i64 0, .int .i64 0, .int .i64 0, .int .i64 0, .int .i64 0, .int .i64 0, .int .i64 0, .int .i64 0, .int .i64 0, .int .i64 0, .int .i64 0, .int .i64 0, .int .i64 0, .int .i64 0, .int .i64 0, .int .i64 0] 81) = A at *
  obtain ⟨hsA, hbA, hAR⟩ := below_of hA
  clear hA
  have hrA := hr.keep hbA
  have HAR : Hid (A.heap[w.heap.size]? = some (.cells (ndA zeroN) 81 (0, 0))) := hAR
  have HBA := Go.Proofs.Ytfpbkiknfkjpbaa.hid hbA
  have hxw : w.heap.size < A.heap.size := by omega
  clear hr hAR hbA hsA
  have c8 := cell_of_cells (j := 8) hrA.blk rfl
  have c9 := cell_of_cells (j := 9) hrA.blk rfl
  go_loopw [6] (fun i wr => ∃ k : Nat, k ≤ ns.length ∧ i = .int .i64 k ∧ Hid (findN (ns.take k) id = none) ∧ wr = A) (fun i _ => ns.length - (intOf i).toNat)
  case atStart => exact ⟨0, Nat.zero_le _, rfl, rfl, rfl⟩
  case round =>
    obtain ⟨k, hk, rfl, HN, rfl⟩ := hrel
    by_cases hlt : k < ns.length
    · have hnr := hrA.node hlt
      have hst := find_step (fun n : Nd => n.id == id) ns zeroN k hlt
      have HST := Go.Proofs.Ytfpbkiknfkjpbaa.hid (hst.trans (by rw [show (ns.take k).find? (fun n : Nd => n.id == id) = none from HN.out]))
      clear hst HN
      generalize ns.getD k zeroN = n at *
      have ci : wr.cell? ⟨gk, k * 37, none⟩ = some (.int .i64 n.id) := hnr 0 _ rfl
      have i1 : (0 : Int) ≤ (k : Int) := by omega
      have i2 : (k : Int) < ((ns.length : Nat) : Int) := by omega
      by_cases hid' : n.id = id
      · have hf : findN ns id = some n := find_done _ ns (k + 1) n (HST.out.trans (by simp [hid']))
        have hfv : FV = n := by rw [← HFV.out, hf]; rfl
        have hfe : FE = 0 := by rw [← HFE.out, findN_some hf]
        have hbq : (n.id == id) = true := by simp [hid']
        clear hf HFV HFE HST
        subst hfv; subst hfe
        clear hid'
        have HNR := Go.Proofs.Ytfpbkiknfkjpbaa.hid hnr
        clear hnr
        go_wp2_with (first | refine wpList_load_mid rfl 81 _ rfl gk (k * 37) rfl (ndC FV) _ HNR.out Try.underlying81 rfl (info_node _) ?_ | refine wpList_store_row rfl 81 _ _ rfl w.heap.size (ndA FV) rfl rfl 81 (ndA zeroN) HAR.out (info_nodeA _) rfl (nd_one _) ?_)
        refine bodyPost_ret (results_ct rfl _ _ _ w.heap.size 81 (ndA FV) (0, 0) _ rfl (setRow_heap _ _ _ _ _ _ HAR.out) rfl Try.underlying81 (info_nodeA _)) rfl ⟨rfl, Below.setRow HBA.out (Nat.le_refl _) _⟩
      · have hbq : (n.id == id) = false := by simp [hid']
        have HN2 : Hid (findN (ns.take (k + 1)) id = none) := HST.out.trans (by simp [hid'])
        clear hid' hnr HST
        go_wp2
        go_roundw
        case rel => exact ⟨k + 1, by omega, by go_num, HN2, trivial⟩
        case measure => simp [intOf]; omega
    · have hkk : k = ns.length := by omega
      have hnf : findN ns id = none := by have := HN.out; rwa [hkk, List.take_length] at this
      have hfv : FV = zeroN := by rw [← HFV.out, hnf]; rfl
      have HFE2 := Go.Proofs.Ytfpbkiknfkjpbaa.hid (HFE.out.symm.trans (findN_none hnf past))
      clear HN hnf HFV HFE
      subst hfv
      go_wp2
      go_loopw [7] (fun i wr2 => ∃ k : Nat, k ≤ past.length ∧ i = .int .i64 k ∧ Hid (has (past.take k) id = false) ∧ wr2 = wr) (fun i _ => past.length - (intOf i).toNat)
      case atStart => exact ⟨0, Nat.zero_le _, rfl, rfl, rfl⟩
      case round =>
        obtain ⟨m, hm, rfl, HM, rfl⟩ := hrel
        by_cases hlm : m < past.length
        · obtain ⟨gp, rfl⟩ := hpo (by omega)
          have cm := (hrA.pst.cellAt m (by omega)).trans (dcells_at past m hlm)
          have HSM : Hid (has (past.take (m + 1)) id = (((past.getD m 0 : Nat) : Int) == id)) := by
            show _ = _
            rw [take_succ_getD past m hlm]
            unfold has
            rw [List.any_append, show (past.take m).any (fun k => (k : Int) == id) = false from HM.out]
            simp
          have HSA : Hid (((past.getD m 0 : Nat) : Int) == id → has past id = true) := by
            intro h
            rw [has_iff]
            exact ⟨past.getD m 0, by rw [show past.getD m 0 = past[m] from by simp [List.getD, hlm]]; exact List.getElem_mem hlm, by simpa using h⟩
          generalize past.getD m 0 = d at *
          have i1 : (0 : Int) ≤ (m : Int) := by omega
          have i2 : (m : Int) < ((past.length : Nat) : Int) := by omega
          clear HM
          cases hq : ((d : Int) == id)
          · have HN2 : Hid (has (past.take (m + 1)) id = false) := HSM.out.trans hq
            clear HSM HSA
            go_wp2
            go_roundw
            case rel => exact ⟨m + 1, by omega, by go_num, HN2, trivial⟩
            case measure => simp [intOf]; omega
          · have hfe : FE = 2 := by rw [HFE2.out, HSA.out hq]; rfl
            clear HFE2 HSM HSA
            subst hfe
            go_wp2_with (refine wpList_store_row rfl 81 _ _ rfl w.heap.size (ndA zeroN) rfl rfl 81 (ndA zeroN) HAR.out (info_nodeA _) rfl (nd_one _) ?_)
            refine bodyPost_ret (results_ct rfl _ _ _ w.heap.size 81 (ndA zeroN) (0, 0) _ rfl (setRow_heap _ _ _ _ _ _ HAR.out) rfl Try.underlying81 (info_nodeA _)) rfl ⟨rfl, Below.setRow HBA.out (Nat.le_refl _) _⟩
        · have hmm : m = past.length := by omega
          have hno : has past id = false := by have := HM.out; rwa [hmm, List.take_length] at this
          have hfe : FE = 3 := by rw [HFE2.out, hno]; rfl
          clear HFE2 HM hno
          subst hfe
          go_wp2_with (refine wpList_store_row rfl 81 _ _ rfl w.heap.size (ndA zeroN) rfl rfl 81 (ndA zeroN) HAR.out (info_nodeA _) rfl (nd_one _) ?_)
          refine bodyPost_ret (results_ct rfl _ _ _ w.heap.size 81 (ndA zeroN) (0, 0) _ rfl (setRow_heap _ _ _ _ _ _ HAR.out) rfl Try.underlying81 (info_nodeA _)) rfl ⟨rfl, Below.setRow HBA.out (Nat.le_refl _) _⟩

end Go.Proofs.Ytfpbkiknfkjpbaa

namespace Go.Proofs.Ytfpbkiknfkjpbaa
open Go.RowKit Num Bk
set_option linter.unusedVariables false

theorem any_step {α : Type} (P : α → Bool) (l : List α) (z : α) (k : Nat) (h : k < l.length) (hn : (l.take k).any P = false) : (l.take (k + 1)).any P = P (l.getD k z) := by
  have e : l.take (k + 1) = l.take k ++ [l.getD k z] := by
    rw [List.take_succ_eq_append_getElem h]
    simp [List.getD, h]
  rw [e, List.any_append, hn]
  simp
theorem any_done {α : Type} (P : α → Bool) (l : List α) (z : α) (k : Nat) (h : k < l.length) (hp : P (l.getD k z) = true) : l.any P = true := by
  rw [List.any_eq_true]
  exact ⟨l.getD k z, by rw [show l.getD k z = l[k] from by simp [List.getD, h]]; exact List.getElem_mem h, hp⟩

set_option maxHeartbeats 3200000 in
set_option maxRecDepth 1000000 in
theorem among_is (base gk ck : Nat) (ns : List Nd) (id : Int) (w : World) (hr : w.ownsRow base 81 37 (.slice (some ⟨gk, 0, none⟩) ns.length ck) ns.length (nsC ns)) (hl : ns.length ≤ 100) :
    Calls Try.prog 126 #[.slice (some ⟨gk, 0, none⟩) ns.length ck, .int .i64 id] w fun e w' => e = .returned (.bool (amongN ns id)) ∧ w = w' := by
  generalize hFV : amongN ns id = FV at *
  have HFV := Go.Proofs.Ytfpbkiknfkjpbaa.hid hFV
  clear hFV
  go_enter Try.func126, Try.ntmps126
  go_wp2
  go_loopw [5] (fun i wr => ∃ k : Nat, k ≤ ns.length ∧ i = .int .i64 k ∧ Hid (amongN (ns.take k) id = false) ∧ wr = w) (fun i _ => ns.length - (intOf i).toNat)
  case atStart => exact ⟨0, Nat.zero_le _, rfl, rfl, rfl⟩
  case round =>
    obtain ⟨k, hk, rfl, HN, rfl⟩ := hrel
    by_cases hlt : k < ns.length
    · have hnr := row_node hr hlt
      have HST := Go.Proofs.Ytfpbkiknfkjpbaa.hid (any_step (fun n : Nd => n.id == id) ns zeroN k hlt HN.out)
      have HDN := Go.Proofs.Ytfpbkiknfkjpbaa.hid (any_done (fun n : Nd => n.id == id) ns zeroN k hlt)
      clear HN
      generalize ns.getD k zeroN = n at *
      have ci : wr.cell? ⟨gk, k * 37, none⟩ = some (.int .i64 n.id) := hnr 0 _ rfl
      have i1 : (0 : Int) ≤ (k : Int) := by omega
      have i2 : (k : Int) < ((ns.length : Nat) : Int) := by omega
      clear hnr
      cases hq : (n.id == id)
      · have HN2 : Hid (amongN (ns.take (k + 1)) id = false) := HST.out.trans hq
        clear HST HDN
        go_wp2
        go_roundw
        case rel => exact ⟨k + 1, by omega, by go_num, HN2, trivial⟩
        case measure => simp [intOf]; omega
      · have hfv : FV = true := HFV.out.symm.trans (HDN.out hq)
        clear HST HDN HFV
        subst hfv
        go_wp2
        go_ret
        exact ⟨rfl, rfl⟩
    · have hkk : k = ns.length := by omega
      have hfv : FV = false := by have := HN.out; rw [hkk, List.take_length] at this; exact HFV.out.symm.trans this
      clear HN HFV
      subst hfv
      go_wp2
      go_ret
      exact ⟨rfl, rfl⟩

attribute [local go_sem ↓] run_eql_hdr

set_option maxHeartbeats 3200000 in
set_option maxRecDepth 1000000 in
theorem has_is (x gk ck : Nat) (pv : Value) (p : Par) (acc : Int) (ns : List Nd) (past : List Nat) (parent : Int) (h : Hdr) (w : World) (hr : ChAt w x gk ck pv p acc ns past) (hl : ns.length ≤ 100) :
    Calls Try.prog 116 #[.pointer (some ⟨x, 5, none⟩), .int .i64 parent, hdrV h] w fun e w' => e = .returned (.bool (hasN ns parent h)) ∧ Below w.heap.size w w' := by
  obtain ⟨a0, a1, a2, a3, a4, a5, a6⟩ := h
  unfold hdrV
  generalize hFV : hasN ns parent ⟨a0, a1, a2, a3, a4, a5, a6⟩ = FV at *
  have HFV := Go.Proofs.Ytfpbkiknfkjpbaa.hid hFV
  clear hFV
  simp only
  go_enter Try.func116, Try.ntmps116
  go_wp2
  generalize hA : w.alloc (.cells #[.int .i64 a0, .int .i64 a1, .int .i64 a2, .int .i64 a3, .int .i64 a4, .int .i64 a5, .int .i64 a6] 65) = A at *
  obtain ⟨hsA, hbA, hAR⟩ := below_of hA
  clear hA
  have hrA := hr.keep hbA
  have HBA := Go.Proofs.Ytfpbkiknfkjpbaa.hid hbA
  have hxw : w.heap.size < A.heap.size := by omega
  clear hr hbA hsA
  go_loopw [7] (fun i wr => ∃ k : Nat, k ≤ ns.length ∧ i = .int .i64 k ∧ Hid (hasN (ns.take k) parent ⟨a0, a1, a2, a3, a4, a5, a6⟩ = false) ∧ Below A.heap.size A wr) (fun i _ => ns.length - (intOf i).toNat)
  case atStart => exact ⟨0, Nat.zero_le _, rfl, rfl, Below.refl _ _⟩
  case round =>
    obtain ⟨k, hk, rfl, HN, hbel⟩ := hrel
    have hrr := hrA.keep hbel
    have hsz := hbel.size
    have c8 := cell_of_cells (j := 8) hrr.blk rfl
    by_cases hlt : k < ns.length
    · have hnr := hrr.node hlt
      have HST := Go.Proofs.Ytfpbkiknfkjpbaa.hid (any_step (fun n : Nd => (n.par == parent) && eqH n.hdr ⟨a0, a1, a2, a3, a4, a5, a6⟩) ns zeroN k hlt HN.out)
      have HDN := Go.Proofs.Ytfpbkiknfkjpbaa.hid (any_done (fun n : Nd => (n.par == parent) && eqH n.hdr ⟨a0, a1, a2, a3, a4, a5, a6⟩) ns zeroN k hlt)
      have hAw : wr.heap[w.heap.size]? = _ := (hbel.block _ hxw).trans hAR
      have p0 := cell_of_cells (j := 0) hAw rfl
      have p1 := cell_of_cells (j := 1) hAw rfl
      have p2 := cell_of_cells (j := 2) hAw rfl
      have p3 := cell_of_cells (j := 3) hAw rfl
      have p4 := cell_of_cells (j := 4) hAw rfl
      have p5 := cell_of_cells (j := 5) hAw rfl
      have p6 := cell_of_cells (j := 6) hAw rfl
      clear HN
      generalize ns.getD k zeroN = n at *
      obtain ⟨nid, npar, nht, ⟨b0, b1, b2, b3, b4, b5, b6⟩, npg⟩ := n
      have ci : wr.cell? ⟨gk, k * 37 + 1, none⟩ = some (.int .i64 npar) := hnr 1 _ rfl
      have h0 : wr.cell? ⟨gk, k * 37 + 3, none⟩ = some (.int .i64 b0) := hnr 3 _ rfl
      have h1 : wr.cell? ⟨gk, k * 37 + 4, none⟩ = some (.int .i64 b1) := hnr 4 _ rfl
      have h2 : wr.cell? ⟨gk, k * 37 + 5, none⟩ = some (.int .i64 b2) := hnr 5 _ rfl
      have h3 : wr.cell? ⟨gk, k * 37 + 6, none⟩ = some (.int .i64 b3) := hnr 6 _ rfl
      have h4 : wr.cell? ⟨gk, k * 37 + 7, none⟩ = some (.int .i64 b4) := hnr 7 _ rfl
      have h5 : wr.cell? ⟨gk, k * 37 + 8, none⟩ = some (.int .i64 b5) := hnr 8 _ rfl
      have h6 : wr.cell? ⟨gk, k * 37 + 9, none⟩ = some (.int .i64 b6) := hnr 9 _ rfl
      have i1 : (0 : Int) ≤ (k : Int) := by omega
      have i2 : (k : Int) < ((ns.length : Nat) : Int) := by omega
      simp only at HST HDN
      clear hnr hrr hAw
      cases hq : (npar == parent)
      · have HN2 : Hid (hasN (ns.take (k + 1)) parent ⟨a0, a1, a2, a3, a4, a5, a6⟩ = false) := HST.out.trans (by rw [hq]; rfl)
        clear HST HDN
        go_wp2
        go_quiet (fail)
        go_wp2
        go_roundw
        case rel => exact ⟨k + 1, by omega, by go_num, HN2, drawB hbel _⟩
        case measure => simp [intOf]; omega
      · cases hee : eqH ⟨b0, b1, b2, b3, b4, b5, b6⟩ ⟨a0, a1, a2, a3, a4, a5, a6⟩
        · have HN2 : Hid (hasN (ns.take (k + 1)) parent ⟨a0, a1, a2, a3, a4, a5, a6⟩ = false) := HST.out.trans (by rw [hq, hee]; rfl)
          clear HST HDN
          go_wp2
          go_quiet (fail)
          go_wp2
          go_roundw
          case rel => exact ⟨k + 1, by omega, by go_num, HN2, drawB hbel _⟩
          case measure => simp [intOf]; omega
        · have hfv : FV = true := HFV.out.symm.trans (HDN.out (by rw [hq, hee]; rfl))
          clear HST HDN HFV
          subst hfv
          have HB := Go.Proofs.Ytfpbkiknfkjpbaa.hid (HBA.out.trans (hbel.mono (by omega)))
          go_wp2
          go_quiet (fail)
          go_wp2
          go_ret
          exact ⟨rfl, drawB HB.out _⟩
    · have hkk : k = ns.length := by omega
      have hfv : FV = false := by have := HN.out; rw [hkk, List.take_length] at this; exact HFV.out.symm.trans this
      have HB := Go.Proofs.Ytfpbkiknfkjpbaa.hid (HBA.out.trans (hbel.mono (by omega)))
      clear HN HFV hrr hbel
      subst hfv
      go_wp2
      go_ret
      exact ⟨rfl, HB.out⟩

end Go.Proofs.Ytfpbkiknfkjpbaa

namespace Go.Proofs.Ytfpbkiknfkjpbaa
open Go.RowKit Num Bk
set_option linter.unusedVariables false

theorem range_below {W wr : World} {B g o : Nat} {cs : List Value} (hb : Below B W wr) (hg : g < B) (h : W.rangeAt g o cs) : wr.rangeAt g o cs := fun j v hv => (hb.cell (p := ⟨g, o + j, none⟩) hg).trans (h j v hv)

def bestN (l : List Nd) (k : Nat) : Nd := ((l.take k).tail).foldl (fun best n => if best.height < n.height then n else best) (l.headD zeroN)

theorem bestN_one (l : List Nd) : bestN l 1 = l.headD zeroN := by
  cases l <;> rfl
theorem bestN_step (l : List Nd) (k : Nat) (h1 : 1 ≤ k) (h : k < l.length) : bestN l (k + 1) = if (bestN l k).height < (l.getD k zeroN).height then l.getD k zeroN else bestN l k := by
  have e : l.take (k + 1) = l.take k ++ [l.getD k zeroN] := by
    rw [List.take_succ_eq_append_getElem h]
    simp [List.getD, h]
  unfold bestN
  rw [e, List.tail_append_of_ne_nil (List.ne_nil_of_length_pos (by rw [List.length_take]; omega)), List.foldl_append]
  rfl
theorem bestN_end (l : List Nd) : bestN l l.length = tipN l := by unfold bestN tipN; rw [List.take_length]

set_option maxHeartbeats 3200000 in
set_option maxRecDepth 1000000 in
theorem ttip_is (x gk ck : Nat) (pv : Value) (p : Par) (acc : Int) (ns : List Nd) (past : List Nat) (w : World) (hr : ChAt w x gk ck pv p acc ns past) (hl : ns.length ≤ 100) (hl1 : 1 ≤ ns.length) :
    Calls Try.prog 125 #[.pointer (some ⟨x, 5, none⟩)] w fun e w' => e = .returned (ndV (tipN ns)) ∧ Below w.heap.size w w' := by
  unfold ndV
  generalize hFV : tipN ns = FV at *
  have HFV := Go.Proofs.Ytfpbkiknfkjpbaa.hid hFV
  clear hFV
  go_enter Try.func125, Try.ntmps125
  go_upto_region 1 with fail
  generalize hA : w.alloc (.cells #[.int .i64 0, .int .i64 0, .int .i64 0, .int .i64 0, .int .i64 0, .int .i64 0, .int .i64 0, .int .i64 0, .int .i64 0, .int .i64 0, .int .i64 0, .int .i64 0, .int .i64 0, .int .i64 0, .int .i64 0, .int .i64 0, .int .i64 0, .int .i64 0, .int .i64 0, .int .i64 0, .int .i64 0, .int .i64 0, .int .i64 0, .int .i64 0, .int .i64 0, .int .i64 0, .int .i64 0, .int .i64 0, .int .i64 0, .int .i64 0, .int .i64 0, .int .i64 0, .int .i64 0, .int .i64 0, .int .i64 0, .int .i64 0, .int .i64 0] 81) = A at *
  obtain ⟨hsA, hbA, hAR⟩ := below_of hA
  clear hA
  have hrA := hr.keep hbA
  have HAR : Hid (A.heap[w.heap.size]? = some (.cells (ndA zeroN) 81 (0, 0))) := hAR
  have HBA := Go.Proofs.Ytfpbkiknfkjpbaa.hid hbA
  have hxw : w.heap.size < A.heap.size := by omega
  clear hr hAR hbA hsA
  have c8 := cell_of_cells (j := 8) hrA.blk rfl
  have hn0 := hrA.node (i := 0) (by omega)
  rw [Nat.zero_mul] at hn0
  have HN0 := Go.Proofs.Ytfpbkiknfkjpbaa.hid hn0
  have HH : Hid (ns.getD 0 zeroN = bestN ns 1) := by
    rw [bestN_one]; cases ns <;> rfl
  clear hn0
  generalize ns.getD 0 zeroN = n0 at *
  have i0 : (0 : Int) < ((ns.length : Nat) : Int) := by omega
  go_upto_region 2 with (first | refine wpList_load_mid rfl 81 _ rfl gk 0 rfl (ndC n0) _ HN0.out Try.underlying81 rfl (info_node _) ?_ | refine wpList_store_row rfl 81 _ _ rfl A.heap.size (ndA n0) rfl rfl 81 (ndA zeroN) (heap_alloc_new A _) (info_nodeA _) rfl (nd_one _) ?_)
  generalize hW : (A.alloc (.cells #[.int .i64 0, .int .i64 0, .int .i64 0, .int .i64 0, .int .i64 0, .int .i64 0, .int .i64 0, .int .i64 0, .int .i64 0, .int .i64 0, .int .i64 0, .int .i64 0, .int .i64 0, .int .i64 0, .int .i64 0, .int .i64 0, .int .i64 0, .int .i64 0, .int .i64 0, .int .i64 0, .int .i64 0, .int .i64 0, .int .i64 0, .int .i64 0, .int .i64 0, .int .i64 0, .int .i64 0, .int .i64 0, .int .i64 0, .int .i64 0, .int .i64 0, .int .i64 0, .int .i64 0, .int .i64 0, .int .i64 0, .int .i64 0, .int .i64 0] 81)).setRow A.heap.size (ndA n0) = W at *
  obtain ⟨hsW, hbW, hWR⟩ := row_new hW
  clear hW c8
  generalize hB : A.heap.size = B at *
  have hrW := hrA.keep (by rw [hB]; exact hbW)
  have hWA : W.heap[w.heap.size]? = some (.cells (ndA zeroN) 81 (0, 0)) := (hbW.block _ hxw).trans HAR.out
  have HBW := Go.Proofs.Ytfpbkiknfkjpbaa.hid (HBA.out.trans (hbW.mono (by omega)))
  have hxB : x < B := by rw [← hB]; exact lt_of_block hrA.blk
  have hgB : gk < B := by rw [← hB]; exact own_lt hrA.kep
  clear hrA HAR HBA HN0 hbW hB
  go_wp2
  go_loopw [4] (fun i wr => ∃ k : Nat, 1 ≤ k ∧ k ≤ ns.length ∧ i = .int .i64 k ∧ ∃ b, Hid (b = bestN ns k) ∧ wr.heap[B]? = some (.cells (ndA b) 81 (0, 0)) ∧ wr.heap[w.heap.size]? = some (.cells (ndA zeroN) 81 (0, 0)) ∧ Below B W wr) (fun i _ => ns.length - (intOf i).toNat)
  case atStart => exact ⟨1, Nat.le_refl _, hl1, rfl, n0, HH, hWR, hWA, Below.refl _ _⟩
  case round =>
    obtain ⟨k, hk1, hk, rfl, b, HBN, hRB, hRZ, hbel⟩ := hrel
    have hBW : B < W.heap.size := lt_of_block hWR
    have hblk : wr.heap[x]? = _ := (hbel.block x hxB).trans hrW.blk
    have c8 := cell_of_cells (j := 8) hblk rfl
    by_cases hlt : k < ns.length
    · have hnr := range_below hbel hgB (hrW.node hlt)
      have HST := Go.Proofs.Ytfpbkiknfkjpbaa.hid (bestN_step ns k hk1 hlt)
      rw [← HBN.out] at HST
      clear HBN
      generalize ns.getD k zeroN = n at *
      have cn : wr.cell? ⟨gk, k * 37 + 2, none⟩ = some (.int .i64 n.height) := hnr 2 _ rfl
      have cb : wr.cell? ⟨B, 2, none⟩ = some (.int .i64 b.height) := cell_of_cells (j := 2) hRB rfl
      have HNR : Hid (∀ nq, (wr.drewN nq).rangeAt gk (k * 37) (ndC n)) := fun _ => hnr
      have HRB : Hid (∀ nq, (wr.drewN nq).heap[B]? = some (.cells (ndA b) 81 (0, 0))) := fun _ => hRB
      have i1 : (0 : Int) ≤ (k : Int) := by omega
      have i2 : (k : Int) < ((ns.length : Nat) : Int) := by omega
      have HRZ := Go.Proofs.Ytfpbkiknfkjpbaa.hid hRZ
      have HBL := Go.Proofs.Ytfpbkiknfkjpbaa.hid hbel
      clear hnr hRB hRZ hbel hblk
      by_cases hh : b.height < n.height
      · have HN2 : Hid (n = bestN ns (k + 1)) := (HST.out.trans (if_pos hh)).symm
        clear HST
        go_wp2
        go_quiet (fail)
        go_wp2_with (first | refine wpList_load_mid rfl 81 _ rfl gk (k * 37) rfl (ndC n) _ (HNR.out _) Try.underlying81 rfl (info_node _) ?_ | refine wpList_store_row rfl 81 _ _ rfl B (ndA n) rfl rfl 81 (ndA b) (HRB.out _) (info_nodeA _) rfl (nd_one _) ?_)
        go_roundw
        case rel =>
          exact ⟨k + 1, by omega, by omega, by go_num, n, HN2, setRow_heap _ _ _ _ _ _ (HRB.out _), (setRow_other _ _ _ _ (by omega)).trans HRZ.out, Below.setRow (drawB HBL.out _) (Nat.le_refl _) _⟩
        case measure => simp [intOf]; omega
      · have HN2 : Hid (b = bestN ns (k + 1)) := (HST.out.trans (if_neg hh)).symm
        clear HST
        go_wp2
        go_quiet (fail)
        go_wp2
        go_roundw
        case rel => exact ⟨k + 1, by omega, by omega, by go_num, b, HN2, HRB.out _, HRZ.out, drawB HBL.out _⟩
        case measure => simp [intOf]; omega
    · have hkk : k = ns.length := by omega
      have hfv : FV = b := by rw [← HFV.out, HBN.out, hkk, bestN_end]
      have HRB := Go.Proofs.Ytfpbkiknfkjpbaa.hid hRB
      have HRZ := Go.Proofs.Ytfpbkiknfkjpbaa.hid hRZ
      have HBL := Go.Proofs.Ytfpbkiknfkjpbaa.hid (HBW.out.trans (hbel.mono (by omega)))
      clear HBN HFV hRB hRZ hbel hblk
      subst hfv
      go_wp2_with (first | refine wpList_load_row rfl 81 _ rfl B rfl 81 (ndA FV) (0, 0) _ HRB.out Try.underlying81 rfl (info_nodeA _) ?_ | refine wpList_store_row rfl 81 _ _ rfl w.heap.size (ndA FV) rfl rfl 81 (ndA zeroN) HRZ.out (info_nodeA _) rfl (nd_one _) ?_)
      refine bodyPost_ret (results_cell_row rfl _ _ w.heap.size 81 (ndA FV) (0, 0) _ rfl (setRow_heap _ _ _ _ _ _ HRZ.out) Try.underlying81 rfl (info_nodeA _)) rfl ⟨rfl, Below.setRow HBL.out (Nat.le_refl _) _⟩

end Go.Proofs.Ytfpbkiknfkjpbaa

namespace Go.Proofs.Ytfpbkiknfkjpbaa
open Go.RowKit Num Bk
set_option linter.unusedVariables false

theorem row_keepB {w w' : World} {base B n e size : Nat} {v : Value} {xs : List Value} (h : w.ownsRow base e size v n xs) (hb : Below B w w') (hB : ∀ k, v.ownBlock = some k → k < B) : w'.ownsRow base e size v n xs := by
  refine ⟨h.1, ?_⟩
  rcases h.2 with hn | ⟨g, cap, cur, hv, hb', hg, r⟩
  · exact Or.inl hn
  · refine Or.inr ⟨g, cap, cur, hv, hb', ?_, r⟩
    rw [hb.block g (hB g (by rw [hv]; rfl))]; exact hg

theorem ChAt.keepB {w w' : World} {x gk ck B : Nat} {pv : Value} {p : Par} {acc : Int} {ns : List Nd} {past : List Nat} (h : ChAt w x gk ck pv p acc ns past) (hb : Below B w w') (hx : x < B) (hg : gk < B) (hp : ∀ k, pv.ownBlock = some k → k < B) : ChAt w' x gk ck pv p acc ns past :=
  ⟨(hb.block x hx).trans h.blk, row_keepB h.kep hb (by intro k e; simp [Value.ownBlock] at e; subst e; exact hg), row_keepB h.pst hb hp⟩
theorem ChAt.lts {w : World} {x gk ck : Nat} {pv : Value} {p : Par} {acc : Int} {ns : List Nd} {past : List Nat} (h : ChAt w x gk ck pv p acc ns past) : x < w.heap.size ∧ gk < w.heap.size ∧ ∀ k, pv.ownBlock = some k → k < w.heap.size :=
  ⟨lt_of_block h.blk, own_lt h.kep, fun k e => (h.pst.lt k e).2⟩

theorem deepN_none {ns : List Nd} {c : Nd} (h : findN ns c.par = none) (m : Nat) : deepN ns m c = c := by
  cases m with
  | zero => rfl
  | succ m => unfold deepN; rw [h]
theorem deepN_some {ns : List Nd} {c q : Nd} (h : findN ns c.par = some q) (m : Nat) : deepN ns (m + 1) c = deepN ns m q := by
  conv => lhs; unfold deepN
  rw [h]

set_option maxHeartbeats 3200000 in
set_option maxRecDepth 1000000 in
theorem deepest_is (x gk ck : Nat) (pv : Value) (p : Par) (acc : Int) (ns : List Nd) (past : List Nat) (w : World) (hr : ChAt w x gk ck pv p acc ns past) (hl : ns.length ≤ 100) (hl1 : 1 ≤ ns.length) (hl2 : past.length ≤ 1000000) (hd1 : 1 ≤ p.depth) (hd2 : p.depth ≤ 8) :
    Calls Try.prog 121 #[.pointer (some ⟨x, 5, none⟩)] w fun e w' => e = .returned (ndV (deepN ns p.depth.toNat (tipN ns))) ∧ Below w.heap.size w w' := by
  unfold ndV
  generalize hFV : deepN ns p.depth.toNat (tipN ns) = FV at *
  have HFV := Go.Proofs.Ytfpbkiknfkjpbaa.hid hFV
  clear hFV
  go_enter Try.func121, Try.ntmps121
  go_upto_region 1 with fail
  generalize hA : w.alloc (.cells #[.int .i64 0, .int .i64 0, .int .i64 0, .int .i64 0, .int .i64 0, .int .i64 0, .int .i64 0, .int .i64 0, .int .i64 0, .int .i64 0, .int .i64 0, .int .i64 0, .int .i64 0, .int .i64 0, .int .i64 0, .int .i64 0, .int .i64 0, .int .i64 0, .int .i64 0, .int .i64 0, .int .i64 0, .int .i64 0, .int .i64 0, .int .i64 0, .int .i64 0, .int .i64 0, .int .i64 0, .int .i64 0, .int .i64 0, .int .i64 0, .int .i64 0, .int .i64 0, .int .i64 0, .int .i64 0, .int .i64 0, .int .i64 0, .int .i64 0] 81) = A at *
  obtain ⟨hsA, hbA, hAR⟩ := below_of hA
  clear hA
  have hrA := hr.keep hbA
  have HAR : Hid (A.heap[w.heap.size]? = some (.cells (ndA zeroN) 81 (0, 0))) := hAR
  have HBA := Go.Proofs.Ytfpbkiknfkjpbaa.hid hbA
  have hxw : w.heap.size < A.heap.size := by omega
  clear hr hAR hbA hsA
  go_wp2_with fail
  refine (ttip_is x gk ck pv p acc ns past A hrA hl hl1).mono ?_
  rintro r w1 ⟨rfl, hb1⟩
  have hr1 := hrA.keep hb1
  have hs1 := hb1.size
  have HAR1 : Hid (w1.heap[w.heap.size]? = some (.cells (ndA zeroN) 81 (0, 0))) := (hb1.block _ hxw).trans HAR.out
  have HB1 := Go.Proofs.Ytfpbkiknfkjpbaa.hid (HBA.out.trans (hb1.mono (by omega)))
  clear hrA HAR HBA hb1
  unfold ndV
  generalize hT : tipN ns = T0 at *
  clear hT
  go_upto_region 2 with (refine wpList_store_row rfl 81 _ _ rfl w1.heap.size (ndA T0) rfl rfl 81 (ndA zeroN) (heap_alloc_new w1 _) (info_nodeA _) rfl (nd_one _) ?_)
  generalize hW : (w1.alloc (.cells #[.int .i64 0, .int .i64 0, .int .i64 0, .int .i64 0, .int .i64 0, .int .i64 0, .int .i64 0, .int .i64 0, .int .i64 0, .int .i64 0, .int .i64 0, .int .i64 0, .int .i64 0, .int .i64 0, .int .i64 0, .int .i64 0, .int .i64 0, .int .i64 0, .int .i64 0, .int .i64 0, .int .i64 0, .int .i64 0, .int .i64 0, .int .i64 0, .int .i64 0, .int .i64 0, .int .i64 0, .int .i64 0, .int .i64 0, .int .i64 0, .int .i64 0, .int .i64 0, .int .i64 0, .int .i64 0, .int .i64 0, .int .i64 0, .int .i64 0] 81)).setRow w1.heap.size (ndA T0) = W at *
  obtain ⟨hsW, hbW, hWR⟩ := row_new hW
  clear hW
  have hlt1 := hr1.lts
  generalize hB : w1.heap.size = B at *
  have hrW := hr1.keep (by rw [hB]; exact hbW)
  have hWA : W.heap[w.heap.size]? = some (.cells (ndA zeroN) 81 (0, 0)) := (hbW.block _ (by omega)).trans HAR1.out
  have HBW := Go.Proofs.Ytfpbkiknfkjpbaa.hid (HB1.out.trans (hbW.mono (by omega)))
  have hwB : w.heap.size < B := by omega
  clear hr1 HAR1 HB1 hbW hB
  obtain ⟨hxB, hgB, hpB⟩ := hlt1
  go_wp2
  go_loopw [4] (fun i wr => ∃ k : Nat, (k : Int) ≤ p.depth ∧ i = .int .i64 k ∧ ∃ c, Hid (deepN ns (p.depth.toNat - k) c = FV) ∧ wr.heap[B]? = some (.cells (ndA c) 81 (0, 0)) ∧ wr.heap[w.heap.size]? = some (.cells (ndA zeroN) 81 (0, 0)) ∧ Below B W wr) (fun i _ => p.depth.toNat - (intOf i).toNat)
  case atStart => exact ⟨0, by omega, rfl, T0, HFV, hWR, hWA, Below.refl _ _⟩
  case round =>
    obtain ⟨k, hk, rfl, c, HDN, hRB, hRZ, hbel⟩ := hrel
    have hBW : B < W.heap.size := lt_of_block hWR
    have hrr := hrW.keepB hbel hxB hgB hpB
    have c5 := cell_of_cells (j := 5) hrr.blk rfl
    by_cases hlt : (k : Int) < p.depth
    · have cp : wr.cell? ⟨B, 1, none⟩ = some (.int .i64 c.par) := cell_of_cells (j := 1) hRB rfl
      go_wp2_with fail
      refine (find_is x gk ck pv p acc ns past c.par wr hrr hl hl2).mono ?_
      rintro r w2 ⟨rfl, hb2⟩
      have hs2 := hb2.size
      have hR2 : w2.heap[B]? = _ := (hb2.block _ (lt_of_block hRB)).trans hRB
      have hZ2 : w2.heap[w.heap.size]? = _ := (hb2.block _ (lt_of_block hRZ)).trans hRZ
      have hb2' : Below B W w2 := hbel.trans (hb2.mono (Nat.le_of_lt (lt_of_block hRB)))
      have hBw2 : B < w2.heap.size := lt_of_block hR2
      clear hb2 hrr c5 cp hRB hRZ hbel
      unfold ndV
      cases hf : findN ns c.par with
      | none =>
        have hfv : FV = c := by rw [← HDN.out, deepN_none hf]
        have hfe : findErr ns past c.par ≠ 0 := by rw [findN_none hf]; split <;> omega
        have hfb : (findErr ns past c.par != 0) = true := by simp [hfe]
        clear HDN HFV hf
        generalize findErr ns past c.par = FE at *
        subst hfv
        simp only [Option.getD_none]
        go_upto_region 6 with (refine wpList_store_row rfl 81 _ _ rfl w2.heap.size (ndA zeroN) rfl rfl 81 (ndA zeroN) (heap_alloc_new w2 _) (info_nodeA _) rfl (nd_one _) ?_)
        generalize hV : (w2.alloc (.cells #[.int .i64 0, .int .i64 0, .int .i64 0, .int .i64 0, .int .i64 0, .int .i64 0, .int .i64 0, .int .i64 0, .int .i64 0, .int .i64 0, .int .i64 0, .int .i64 0, .int .i64 0, .int .i64 0, .int .i64 0, .int .i64 0, .int .i64 0, .int .i64 0, .int .i64 0, .int .i64 0, .int .i64 0, .int .i64 0, .int .i64 0, .int .i64 0, .int .i64 0, .int .i64 0, .int .i64 0, .int .i64 0, .int .i64 0, .int .i64 0, .int .i64 0, .int .i64 0, .int .i64 0, .int .i64 0, .int .i64 0, .int .i64 0, .int .i64 0] 81)).setRow w2.heap.size (ndA zeroN) = V at *
        obtain ⟨hsV, hbV, hVR⟩ := row_new hV
        have hRV : V.heap[B]? = _ := (hbV.block _ hBw2).trans hR2
        have hZV : V.heap[w.heap.size]? = _ := (hbV.block _ (lt_of_block hZ2)).trans hZ2
        have HBV := Go.Proofs.Ytfpbkiknfkjpbaa.hid (HBW.out.trans ((hb2'.trans (hbV.mono (Nat.le_of_lt hBw2))).mono (Nat.le_of_lt hwB)))
        clear hV hbV hVR hR2 hZ2 hb2'
        go_wp2_with (first | refine wpList_load_row rfl 81 _ rfl B rfl 81 (ndA FV) (0, 0) _ hRV Try.underlying81 rfl (info_nodeA _) ?_ | refine wpList_store_row rfl 81 _ _ rfl w.heap.size (ndA FV) rfl rfl 81 (ndA zeroN) hZV (info_nodeA _) rfl (nd_one _) ?_)
        refine bodyPost_ret (results_cell_row rfl _ _ w.heap.size 81 (ndA FV) (0, 0) _ rfl (setRow_heap _ _ _ _ _ _ hZV) Try.underlying81 rfl (info_nodeA _)) rfl ⟨rfl, Below.setRow HBV.out (Nat.le_refl _) _⟩
      | some q =>
        have HD2 : Hid (deepN ns (p.depth.toNat - (k + 1)) q = FV) := by
          show _ = _
          rw [← HDN.out, show p.depth.toNat - k = (p.depth.toNat - (k + 1)) + 1 by omega, deepN_some hf]
        rw [findN_some hf]
        clear HDN HFV hf
        simp only [Option.getD_some]
        go_upto_region 6 with (refine wpList_store_row rfl 81 _ _ rfl w2.heap.size (ndA q) rfl rfl 81 (ndA zeroN) (heap_alloc_new w2 _) (info_nodeA _) rfl (nd_one _) ?_)
        generalize hV : (w2.alloc (.cells #[.int .i64 0, .int .i64 0, .int .i64 0, .int .i64 0, .int .i64 0, .int .i64 0, .int .i64 0, .int .i64 0, .int .i64 0, .int .i64 0, .int .i64 0, .int .i64 0, .int .i64 0, .int .i64 0, .int .i64 0, .int .i64 0, .int .i64 0, .int .i64 0, .int .i64 0, .int .i64 0, .int .i64 0, .int .i64 0, .int .i64 0, .int .i64 0, .int .i64 0, .int .i64 0, .int .i64 0, .int .i64 0, .int .i64 0, .int .i64 0, .int .i64 0, .int .i64 0, .int .i64 0, .int .i64 0, .int .i64 0, .int .i64 0, .int .i64 0] 81)).setRow w2.heap.size (ndA q) = V at *
        obtain ⟨hsV, hbV, hVR⟩ := row_new hV
        have hRV : V.heap[B]? = _ := (hbV.block _ hBw2).trans hR2
        have hZV : V.heap[w.heap.size]? = _ := (hbV.block _ (lt_of_block hZ2)).trans hZ2
        have HBV := Go.Proofs.Ytfpbkiknfkjpbaa.hid (hb2'.trans (hbV.mono (Nat.le_of_lt hBw2)))
        have HZV := Go.Proofs.Ytfpbkiknfkjpbaa.hid hZV
        have HRV := Go.Proofs.Ytfpbkiknfkjpbaa.hid hRV
        clear hV hbV hR2 hZ2 hb2' hRV hZV
        generalize w2.heap.size = B2 at *
        go_wp2_with (first | refine wpList_load_row rfl 81 _ rfl B2 rfl 81 (ndA q) (0, 0) _ hVR Try.underlying81 rfl (info_nodeA _) ?_ | refine wpList_store_row rfl 81 _ _ rfl B (ndA q) rfl rfl 81 (ndA c) HRV.out (info_nodeA _) rfl (nd_one _) ?_)
        go_roundw
        case rel =>
          exact ⟨k + 1, by omega, by go_num, q, HD2, setRow_heap _ _ _ _ _ _ HRV.out, (setRow_other _ _ _ _ (by omega)).trans HZV.out, Below.setRow HBV.out (Nat.le_refl _) _⟩
        case measure => simp [intOf]; omega
    · have hkk : p.depth.toNat - k = 0 := by omega
      have hfv : FV = c := by rw [← HDN.out, hkk]; rfl
      have HRB := Go.Proofs.Ytfpbkiknfkjpbaa.hid hRB
      have HRZ := Go.Proofs.Ytfpbkiknfkjpbaa.hid hRZ
      have HBL := Go.Proofs.Ytfpbkiknfkjpbaa.hid (HBW.out.trans (hbel.mono (Nat.le_of_lt hwB)))
      clear HDN HFV hRB hRZ hbel hrr
      subst hfv
      go_wp2_with (first | refine wpList_load_row rfl 81 _ rfl B rfl 81 (ndA FV) (0, 0) _ HRB.out Try.underlying81 rfl (info_nodeA _) ?_ | refine wpList_store_row rfl 81 _ _ rfl w.heap.size (ndA FV) rfl rfl 81 (ndA zeroN) HRZ.out (info_nodeA _) rfl (nd_one _) ?_)
      refine bodyPost_ret (results_cell_row rfl _ _ w.heap.size 81 (ndA FV) (0, 0) _ rfl (setRow_heap _ _ _ _ _ _ HRZ.out) Try.underlying81 rfl (info_nodeA _)) rfl ⟨rfl, Below.setRow HBL.out (Nat.le_refl _) _⟩

end Go.Proofs.Ytfpbkiknfkjpbaa

namespace Go.Proofs.Ytfpbkiknfkjpbaa
open Go.RowKit Num Bk
set_option linter.unusedVariables false

theorem Try.info81 : (Try.prog.info? 81).map (fun i => (i.zero, i.size, i.bytes)) = some (some (.agg (ndA zeroN)), 37, 296) := by kernel_rfl

theorem fold_nd (f : Nd) : Array.foldl (fun (cs : Array Value) (x : Value × Nat) => cs.setIfInBounds x.snd x.fst) #[.int .i64 0, .int .i64 0, .int .i64 0, .int .i64 0, .int .i64 0, .int .i64 0, .int .i64 0, .int .i64 0, .int .i64 0, .int .i64 0, .int .i64 0, .int .i64 0, .int .i64 0, .int .i64 0, .int .i64 0, .int .i64 0, .int .i64 0, .int .i64 0, .int .i64 0, .int .i64 0, .int .i64 0, .int .i64 0, .int .i64 0, .int .i64 0, .int .i64 0, .int .i64 0, .int .i64 0, .int .i64 0, .int .i64 0, .int .i64 0, .int .i64 0, .int .i64 0, .int .i64 0, .int .i64 0, .int .i64 0, .int .i64 0, .int .i64 0] (ndA f).zipIdx 0 37 = ndA f := by kernel_rfl

theorem wpList_load_nd {ops : Array Oper} {rest : List Oper} {op : Oper} {a : Act} {w : World} {Q : Exit → Act → World → Prop} (hgd : op.guard = none) (x : Operand) (ho : op.op = .load 81 x)
    (b o : Nat) (hx : a.eval x = .pointer (some ⟨b, o, none⟩)) (n : Nd) (hc : w.rangeAt b o (ndC n)) (h : wpList Try.prog ops Q rest (a.put op.dst (.agg (ndA n))) w) : wpList Try.prog ops Q (op :: rest) a w :=
  wpList_load_mid hgd 81 x ho b o hx (ndC n) _ hc Try.underlying81 rfl (info_node n) h

def keptTo (l : List Nd) (f : Nd) (k : Nat) : List Nd := (l.take k).foldl (fun left n => if amongN left n.par then left ++ [n] else left) [f]
theorem keptTo_step (l : List Nd) (f : Nd) (k : Nat) (h : k < l.length) : keptTo l f (k + 1) = if amongN (keptTo l f k) (l.getD k zeroN).par then keptTo l f k ++ [l.getD k zeroN] else keptTo l f k := by
  have e : l.take (k + 1) = l.take k ++ [l.getD k zeroN] := by
    rw [List.take_succ_eq_append_getElem h]
    simp [List.getD, h]
  unfold keptTo
  rw [e, List.foldl_append]
  rfl
theorem keptTo_end (l : List Nd) (f : Nd) : keptTo l f l.length = keptN l f := by unfold keptTo keptN; rw [List.take_length]

set_option maxHeartbeats 3200000 in
set_option maxRecDepth 1000000 in
theorem keptWith_is (x gk ck : Nat) (pv : Value) (p : Par) (acc : Int) (ns : List Nd) (past : List Nat) (f : Nd) (w : World) (hr : ChAt w x gk ck pv p acc ns past) (hl : ns.length ≤ 90) :
    Calls Try.prog 122 #[.pointer (some ⟨x, 5, none⟩), ndV f] w fun e w' => ∃ g cap, e = .returned (.slice (some ⟨g, 0, none⟩) (keptN ns f).length cap) ∧ w'.ownsRow w.heap.size 81 37 (.slice (some ⟨g, 0, none⟩) (keptN ns f).length cap) (keptN ns f).length (nsC (keptN ns f)) ∧ Below w.heap.size w w' := by
  obtain ⟨i1, hj, hy0, hy1, hy2⟩ := info_parts Try.info81
  unfold ndV
  generalize hFV : keptN ns f = FV at *
  have HFV := Go.Proofs.Ytfpbkiknfkjpbaa.hid hFV
  clear hFV
  go_enter Try.func122, Try.ntmps122
  go_upto_region 1 with fail
  generalize hA : w.alloc (.cells (ndA f) 81) = A at *
  obtain ⟨hsA, hbA, hAR⟩ := below_of hA
  clear hA
  have hrA := hr.keep hbA
  have HBA := Go.Proofs.Ytfpbkiknfkjpbaa.hid hbA
  have hxw : w.heap.size < A.heap.size := by omega
  clear hr hbA hsA
  have hszf : (ndA f).size = 37 := rfl
  go_upto_region 2 with (refine wpList_load_row rfl 81 _ rfl w.heap.size rfl 81 (ndA f) (0, 0) _ hAR Try.underlying81 rfl (info_nodeA _) ?_)
  rw [fold_nd]
  generalize hW : A.alloc (.cells (ndA f) 81) = W at *
  obtain ⟨hsW, hbW, hWR⟩ := below_of hW
  have hrW := hrA.keep hbW
  have hown : W.ownsRow A.heap.size 81 37 (.slice (some ⟨A.heap.size, 0, none⟩) (keptTo ns f 0).length 1) (keptTo ns f 0).length (nsC (keptTo ns f 0)) := by
    rw [← hW]
    have := World.ownsRow_lit (base := A.heap.size) (e := 81) (size := 37) A (ndA f) 1 (Nat.le_refl _) (by unfold maxLen; omega) rfl
    exact this
  clear hW
  have HBW := Go.Proofs.Ytfpbkiknfkjpbaa.hid (HBA.out.trans (hbW.mono (by omega)))
  have hAW : A.heap.size ≤ W.heap.size := by omega
  generalize hBA : A.heap.size = BA at *
  have hxA := hrA.lts
  rw [hBA] at hxA
  clear hrA HBA hbW hWR hsW hAR hszf hBA
  go_wp2
  go_loopw [5, 6] (fun kp i wr => ∃ (k : Nat) (os : List Nd) (g cap : Nat), k ≤ ns.length ∧ i = .int .i64 k ∧ os.length ≤ k + 1 ∧ Hid (os = keptTo ns f k) ∧ kp = .slice (some ⟨g, 0, none⟩) os.length cap ∧ wr.ownsRow BA 81 37 (.slice (some ⟨g, 0, none⟩) os.length cap) os.length (nsC os) ∧ Below BA W wr) (fun _ i _ => ns.length - (intOf i).toNat)
  case atStart => exact ⟨0, keptTo ns f 0, _, 1, Nat.zero_le _, rfl, Nat.le_refl _, rfl, rfl, hown, Below.refl _ _⟩
  case round =>
    obtain ⟨k, os, g, cap, hk, rfl, hosl, HOS, rfl, hout, hbel⟩ := hrel
    have hrr := hrW.keepB hbel hxA.1 hxA.2.1 hxA.2.2
    have c8 := cell_of_cells (j := 8) hrr.blk rfl
    have hsz := hbel.size
    by_cases hlt : k < ns.length
    · have hnr := hrr.node hlt
      have HST := Go.Proofs.Ytfpbkiknfkjpbaa.hid (keptTo_step ns f k hlt)
      rw [← HOS.out] at HST
      clear HOS
      generalize ns.getD k zeroN = n at *
      have cn : wr.cell? ⟨gk, k * 37 + 1, none⟩ = some (.int .i64 n.par) := hnr 1 _ rfl
      have HNR := Go.Proofs.Ytfpbkiknfkjpbaa.hid hnr
      have q1 : (0 : Int) ≤ (k : Int) := by omega
      have q2 : (k : Int) < ((ns.length : Nat) : Int) := by omega
      clear hnr hrr
      go_wp2_with fail
      refine (among_is BA g cap os n.par wr hout (by omega)).mono ?_
      rintro r w2 ⟨rfl, rfl⟩
      cases hq : amongN os n.par
      · have HN2 : Hid (os = keptTo ns f (k + 1)) := by
          show _ = _
          rw [HST.out, hq]; rfl
        clear HST
        go_wp2
        go_roundw
        case rel => exact ⟨k + 1, os, g, cap, by omega, by go_num, by omega, HN2, rfl, hout, hbel⟩
        case measure => simp [intOf]; omega
      · have HN2 : Hid (os ++ [n] = keptTo ns f (k + 1)) := by
          show _ = _
          rw [HST.out, hq]; rfl
        clear HST hq
        have hszn : (ndA n).size = 37 := rfl
        go_wp2_with (first | refine wpList_load_nd rfl _ rfl gk (k * 37) rfl n HNR.out ?_ | (at_builtin; rw [fold_nd]; refine wpList_append_lies _ rfl (.tmp 28) (.tmp 36) 85 rfl BA 81 i1 (.agg (ndA zeroN)) 37 296 Try.underlying85 hj hy0 hy1 hy2 rfl (by omega) _ os.length (nsC os) rfl (hout.alloc _) ⟨wr.heap.size, 0, none⟩ 1 1 (ndC n) rfl rfl (World.news_of_block (heap_alloc_new wr _)) (nd_oneL n) (by omega) (by unfold maxLen; omega) (by omega) (by simp; omega) (wr.heap.size + 1) (by simp) ?_))
        intro gq capq wq hownq hgrowq hatq hltq
        have hrow := fun k (e : Value.ownBlock (.slice (some ⟨g, 0, none⟩) os.length cap) = some k) => (hout.lt k e).1
        have HB := Go.Proofs.Ytfpbkiknfkjpbaa.hid ((hbel.alloc (by omega) _).grown hgrowq (by simp; omega) hrow)
        have HO := Go.Proofs.Ytfpbkiknfkjpbaa.hid hownq
        clear hownq hgrowq hatq hbel hout hrow hszn
        go_wp2
        go_roundw
        case rel =>
          refine ⟨k + 1, os ++ [n], gq, capq, by omega, by go_num, by simp; omega, HN2, by simp, ?_, HB.out⟩
          rw [List.length_append, nsC_append]
          exact HO.out
        case measure => simp [intOf]; omega
    · have hkk : k = ns.length := by omega
      have hfv : os = FV := by rw [HOS.out, hkk, keptTo_end]; exact HFV.out
      subst hfv
      have HB := Go.Proofs.Ytfpbkiknfkjpbaa.hid (HBW.out.trans (hbel.mono (by omega)))
      have HO := Go.Proofs.Ytfpbkiknfkjpbaa.hid (row_weak hout (show w.heap.size ≤ BA by omega))
      clear HOS hrr hbel hout HFV
      go_wp2
      go_ret
      exact ⟨g, cap, rfl, HO.out, HB.out⟩

end Go.Proofs.Ytfpbkiknfkjpbaa

namespace Go.Proofs.Ytfpbkiknfkjpbaa
open Go.RowKit Num Bk
set_option linter.unusedVariables false

theorem row_type {w : World} {base n e size k : Nat} {v : Value} {xs : List Value} (h : w.ownsRow base e size v n xs) (hv : v.ownBlock = some k) : ∃ cur, w.heap[k]? = some (.cells cur e (0, 0)) := by
  rcases h.2 with ⟨rfl, _⟩ | ⟨g, cap, cur, rfl, hb, hg, _⟩
  · simp [Value.ownBlock] at hv
  · simp [Value.ownBlock] at hv
    subst hv
    exact ⟨cur, hg⟩

theorem ChAt.ne {w : World} {x gk ck : Nat} {pv : Value} {p : Par} {acc : Int} {ns : List Nd} {past : List Nat} (h : ChAt w x gk ck pv p acc ns past) : x ≠ gk ∧ (∀ k, pv.ownBlock = some k → x ≠ k ∧ gk ≠ k) := by
  obtain ⟨c2, h2, _⟩ := row_block h.kep
  refine ⟨block_ne h.blk h2 (by decide), fun k hk => ?_⟩
  obtain ⟨c3, h3⟩ := row_type h.pst hk
  exact ⟨block_ne h.blk h3 (by decide), block_ne h2 h3 (by decide)⟩

/-- What a call that turns the chain leaves. -/
def Chd (w w' : World) (x gk : Nat) (pv : Value) (p : Par) (acc : Int) (ns : List Nd) (past : List Nat) : Prop :=
  ∃ gk' ck' pv', ChAt w' x gk' ck' pv' p acc ns past ∧ Fr (fun k => k = x ∨ k = gk ∨ pv.ownBlock = some k) w w' ∧ (gk' = gk ∨ w.heap.size ≤ gk') ∧ (∀ k, pv'.ownBlock = some k → pv.ownBlock = some k ∨ w.heap.size ≤ k)

theorem put_past {W w7 : World} {x gk ck g7 cap7 n : Nat} {pv : Value} {p : Par} {acc : Int} {ns : List Nd} {past : List Nat} (h : ChAt W x gk ck pv p acc ns past) (o : Obj) (hgrow : (W.alloc o).grownBy w7 pv.ownBlock)
    (hown : w7.ownsRow 0 3 1 (.slice (some ⟨g7, 0, none⟩) (past.length + 1) cap7) (past.length + 1) (dcells past ++ [.int .i64 (n : Int)])) (hat : pv.ownBlock = some g7 ∨ g7 = W.heap.size + 1) :
    (Fr (fun k => k = x ∨ k = gk ∨ pv.ownBlock = some k) W (w7.setCell ⟨x, 9, none⟩ (.slice (some ⟨g7, 0, none⟩) (past.length + 1) cap7)) ∧ ∀ k, (Value.slice (some ⟨g7, 0, none⟩) (past.length + 1) cap7).ownBlock = some k → pv.ownBlock = some k ∨ W.heap.size ≤ k) ∧ ChAt (w7.setCell ⟨x, 9, none⟩ (.slice (some ⟨g7, 0, none⟩) (past.length + 1) cap7)) x gk ck (.slice (some ⟨g7, 0, none⟩) (past.length + 1) cap7) p acc ns (past ++ [n]) := by
  obtain ⟨hn1, hn2⟩ := h.ne
  obtain ⟨l1, l2, l3⟩ := h.lts
  have hF7 : Fr (fun b => pv.ownBlock = some b) W w7 := ((Fr.refl _ W).alloc o).grown hgrow (by intro k e; exact Or.inl e)
  have hb7 : w7.heap[x]? = W.heap[x]? := hF7.block x l1 (fun e => (hn2 x e).1 rfl)
  have hxg : x ≠ g7 := by rcases hat with h' | h'; exact (hn2 g7 h').1; omega
  have hC : ChAt (w7.setCell ⟨x, 9, none⟩ (.slice (some ⟨g7, 0, none⟩) (past.length + 1) cap7)) x gk ck (.slice (some ⟨g7, 0, none⟩) (past.length + 1) cap7) p acc ns (past ++ [n]) := by
    refine ⟨?_, ?_, ?_⟩
    · rw [heap_setCell_same w7 x 9 _ 89 _ (hb7.trans h.blk)]
      simp
    · exact ownsRow_setCell_other (row_fr h.kep hF7 (by intro g e; simp [Value.ownBlock] at e; subst e; exact fun e => (hn2 _ e).2 rfl)) (by simpa [Value.ownBlock] using Ne.symm hn1) _
    · have := ownsRow_setCell_other hown (a := ⟨x, 9, none⟩) (by simpa [Value.ownBlock] using Ne.symm hxg) (.slice (some ⟨g7, 0, none⟩) (past.length + 1) cap7)
      rw [dcells_append, List.length_append]
      exact this
  refine ⟨⟨(hF7.mono (by intro k _ h; exact Or.inr (Or.inr h))).setCell (Or.inl (Or.inl rfl)) _, ?_⟩, hC⟩
  intro k e
  simp [Value.ownBlock] at e
  subst e
  rcases hat with h' | h'
  · exact Or.inl h'
  · exact Or.inr (by omega)

theorem put_kept {W : World} {x gk ck g c B : Nat} {pv : Value} {p : Par} {acc : Int} {ns os : List Nd} {past : List Nat} (h : ChAt W x gk ck pv p acc ns past) (hown : W.ownsRow B 81 37 (.slice (some ⟨g, 0, none⟩) os.length c) os.length (nsC os)) :
    ChAt (W.setCell ⟨x, 8, none⟩ (.slice (some ⟨g, 0, none⟩) os.length c)) x g c pv p acc os past := by
  obtain ⟨hn1, hn2⟩ := h.ne
  obtain ⟨cur, hgb, _⟩ := row_block hown
  have hxg : x ≠ g := block_ne h.blk hgb (by decide)
  refine ⟨?_, ?_, ?_⟩
  · rw [heap_setCell_same W x 8 _ 89 _ h.blk]
    simp
  · exact ownsRow_setCell_other (row_weak hown (Nat.zero_le _)) (by simpa [Value.ownBlock] using Ne.symm hxg) _
  · exact ownsRow_setCell_other h.pst (fun e => (hn2 x (by simpa using e)).1 rfl) _

theorem Chd.of_below {w w' : World} {x gk ck : Nat} {pv : Value} {p : Par} {acc : Int} {ns : List Nd} {past : List Nat} (h : ChAt w x gk ck pv p acc ns past) (hb : Below w.heap.size w w') : Chd w w' x gk pv p acc ns past :=
  ⟨gk, ck, pv, h.keep hb, Fr.of_below hb _ (fun k h1 h2 => by omega), Or.inl rfl, fun k e => Or.inl e⟩

/-- Two steps. -/
theorem Chd.trans {w w1 w2 : World} {x gk gk1 : Nat} {pv pv1 : Value} {p : Par} {acc : Int} {ns : List Nd} {past : List Nat}
    (hF : Fr (fun k => k = x ∨ k = gk ∨ pv.ownBlock = some k) w w1) (hg : gk1 = gk ∨ w.heap.size ≤ gk1) (hp : ∀ k, pv1.ownBlock = some k → pv.ownBlock = some k ∨ w.heap.size ≤ k) (h2 : Chd w1 w2 x gk1 pv1 p acc ns past) : Chd w w2 x gk pv p acc ns past := by
  obtain ⟨gk2, ck2, pv2, hC, hF2, hg2, hp2⟩ := h2
  have hs := hF.size
  refine ⟨gk2, ck2, pv2, hC, hF.trans' hF2 ?_, ?_, ?_⟩
  · rintro i hi (h | h | h)
    · exact Or.inl h
    · rcases hg with hg | hg
      · exact Or.inr (Or.inl (by omega))
      · omega
    · rcases hp i h with h' | h'
      · exact Or.inr (Or.inr h')
      · omega
  · rcases hg2 with h | h
    · rcases hg with hg | hg
      · exact Or.inl (h.trans hg)
      · exact Or.inr (by omega)
    · exact Or.inr (by omega)
  · intro k e
    rcases hp2 k e with h | h
    · exact hp k h
    · exact Or.inr (by omega)

def setN (ns : List Nd) (past : List Nat) (d : Nat) (o : Nat) : List Nd := if (deepN ns d (tipN ns)).id = o then ns else keptN ns (deepN ns d (tipN ns))
def setP (ns : List Nd) (past : List Nat) (d : Nat) (o : Nat) : List Nat := if (deepN ns d (tipN ns)).id = o then past else past ++ [o]

set_option maxHeartbeats 3200000 in
set_option maxRecDepth 1000000 in
theorem settle_is (x gk ck : Nat) (pv : Value) (p : Par) (acc : Int) (ns : List Nd) (past : List Nat) (o : Nat) (w : World) (hr : ChAt w x gk ck pv p acc ns past) (hl : ns.length ≤ 90) (hl1 : 1 ≤ ns.length) (hl2 : past.length ≤ 100000) (hd1 : 1 ≤ p.depth) (hd2 : p.depth ≤ 8) (ho : (ns.getD 0 zeroN).id = (o : Int)) :
    Calls Try.prog 117 #[.pointer (some ⟨x, 5, none⟩)] w fun e w' => e = .returned (.tuple #[]) ∧ Chd w w' x gk pv p acc (setN ns past p.depth.toNat o) (setP ns past p.depth.toNat o) := by
  obtain ⟨i0, hi0, hz0, hz1, hz2⟩ := info_parts Try.info3
  obtain ⟨ao, pcap, hpv, hpo⟩ := own_any hr.pst
  have HN := Go.Proofs.Ytfpbkiknfkjpbaa.hid (show setN ns past p.depth.toNat o = (if (deepN ns p.depth.toNat (tipN ns)).id = o then ns else keptN ns (deepN ns p.depth.toNat (tipN ns))) from rfl)
  have HP := Go.Proofs.Ytfpbkiknfkjpbaa.hid (show setP ns past p.depth.toNat o = (if (deepN ns p.depth.toNat (tipN ns)).id = o then past else past ++ [o]) from rfl)
  generalize setN ns past p.depth.toNat o = NS at *
  generalize setP ns past p.depth.toNat o = PS at *
  go_enter Try.func117, Try.ntmps117
  go_wp2_with fail
  refine (deepest_is x gk ck pv p acc ns past w hr (by omega) hl1 (by omega) hd1 hd2).mono ?_
  rintro r w1 ⟨rfl, hb1⟩
  have hr1 := hr.keep hb1
  unfold ndV
  generalize deepN ns p.depth.toNat (tipN ns) = D at *
  go_upto_region 1 with (refine wpList_store_row rfl 81 _ _ rfl w1.heap.size (ndA D) rfl rfl 81 (ndA zeroN) (heap_alloc_new w1 _) (info_nodeA _) rfl (nd_one _) ?_)
  generalize hW : (w1.alloc (.cells #[.int .i64 0, .int .i64 0, .int .i64 0, .int .i64 0, .int .i64 0, .int .i64 0, .int .i64 0, .int .i64 0, .int .i64 0, .int .i64 0, .int .i64 0, .int .i64 0, .int .i64 0, .int .i64 0, .int .i64 0, .int .i64 0, .int .i64 0, .int .i64 0, .int .i64 0, .int .i64 0, .int .i64 0, .int .i64 0, .int .i64 0, .int .i64 0, .int .i64 0, .int .i64 0, .int .i64 0, .int .i64 0, .int .i64 0, .int .i64 0, .int .i64 0, .int .i64 0, .int .i64 0, .int .i64 0, .int .i64 0, .int .i64 0, .int .i64 0] 81)).setRow w1.heap.size (ndA D) = W at *
  obtain ⟨hsW, hbW, hWR⟩ := row_new hW
  clear hW
  have hrW := hr1.keep hbW
  have hs1 := hb1.size
  have HBW := Go.Proofs.Ytfpbkiknfkjpbaa.hid (hb1.trans (hbW.mono (by omega)))
  generalize w1.heap.size = B at *
  have c8 := cell_of_cells (j := 8) hrW.blk rfl
  have c9 := cell_of_cells (j := 9) hrW.blk rfl
  have ch : W.cell? ⟨gk, 0, none⟩ = some (.int .i64 (o : Int)) := by
    have := hrW.node (i := 0) (by omega) 0 (.int .i64 (ns.getD 0 zeroN).id) rfl
    rw [ho] at this
    simpa using this
  have cd : W.cell? ⟨B, 0, none⟩ = some (.int .i64 D.id) := cell_of_cells (j := 0) hWR rfl
  have il : (0 : Int) < ((ns.length : Nat) : Int) := by omega
  have HR := Go.Proofs.Ytfpbkiknfkjpbaa.hid hr
  have HRW := Go.Proofs.Ytfpbkiknfkjpbaa.hid hrW
  clear hr hr1 hb1 hbW hrW
  by_cases hq : D.id = (o : Int)
  · have hns := HN.out.trans (if_pos hq)
    have hps := HP.out.trans (if_pos hq)
    have hqb : (D.id == (o : Int)) = true := by simp [hq]
    clear HN HP hWR
    subst hns; subst hps
    have HQ := Go.Proofs.Ytfpbkiknfkjpbaa.hid hq
    clear hq
    go_wp2
    (try simp only [Exit.inBlock, Exit.then])
    refine bodyPost_ret (results_none rfl _ _ _) rfl ?_
    exact ⟨rfl, Chd.of_below HR.out HBW.out⟩
  · have hns := HN.out.trans (if_neg hq)
    have hps := HP.out.trans (if_neg hq)
    have hqb : (D.id == (o : Int)) = false := by simp [hq]
    clear HN HP
    subst hns; subst hps
    clear hq
    have hown1 := HRW.out.pst
    have f9 := free_of_cells (j := 9) HRW.out.blk
    have hne := HRW.out.ne
    have hlW := HRW.out.lts
    have hxW := hlW.1
    have HWR := Go.Proofs.Ytfpbkiknfkjpbaa.hid hWR
    have hBW := lt_of_block hWR
    clear hWR
    subst hpv
    go_wp2_with (at_builtin; refine wpList_append_lies _ rfl (.tmp 21) (.tmp 23) 29 rfl 0 3 i0 (.int .i64 0) 1 8 Try.underlying29 hi0 hz0 hz1 hz2 rfl (by omega) _ past.length (dcells past) rfl (hown1.alloc _) ⟨W.heap.size, 0, none⟩ 1 1 [.int .i64 (o : Int)] rfl rfl (cell_one_new _ _ _) (one_int _) (by omega) (by unfold maxLen; omega) (by omega) (by omega) (W.heap.size + 1) (by simp) ?_)
    intro g7 cap7 w7 hown7 hgrow7 hat7 hlt7
    have k9 := (hgrow7.cell_far ⟨x, 9, none⟩ (by simp; omega) (fun e => (hne.2 x e.symm).1 rfl)).trans ((World.cell?_alloc_past _ _ _ hxW).trans c9)
    have kf := (hgrow7.frozen_far ⟨x, 9, none⟩ (by simp; omega) (fun e => (hne.2 x e.symm).1 rfl)).trans ((World.frozen?_alloc_past _ _ _ hxW).trans f9)
    have hmk := put_past HRW.out _ hgrow7 hown7 hat7
    have HMK := Go.Proofs.Ytfpbkiknfkjpbaa.hid hmk
    have hB7 : w7.heap[B]? = some (.cells (ndA D) 81 (0, 0)) := by
      rw [hgrow7.block B (by simp; omega) (fun e => by
        obtain ⟨cur, hc⟩ := row_type HRW.out.pst e.symm
        exact (block_ne HWR.out hc (by decide)) rfl)]
      exact (Below.heap_alloc _ _ _ hBW).trans HWR.out
    have HB7 := Go.Proofs.Ytfpbkiknfkjpbaa.hid hB7
    have hxB : x ≠ B := block_ne HRW.out.blk HWR.out (by decide)
    have HB8 : Hid ((w7.setCell ⟨x, 9, none⟩ (.slice (some ⟨g7, 0, none⟩) (past.length + 1) cap7)).heap[B]? = some (.cells (ndA D) 81 (0, 0))) := (Below.heap_setCell _ _ _ _ (Ne.symm hxB)).trans hB7
    clear hmk hown7 hgrow7 hat7 hown1 c9 f9 c8 ch cd hB7 HB7
    go_upto_region 4 with fail
    generalize w7.setCell ⟨x, 9, none⟩ (.slice (some ⟨g7, 0, none⟩) (past.length + 1) cap7) = W8 at *
    obtain ⟨⟨hF8, hp8⟩, hC8⟩ := HMK.out
    have hBR := HB8.out
    have HF8 := Go.Proofs.Ytfpbkiknfkjpbaa.hid hF8
    have HP8 := Go.Proofs.Ytfpbkiknfkjpbaa.hid hp8
    clear HMK HB8 HWR k9 kf hF8 hp8
    go_wp2_with (refine wpList_load_row rfl 81 _ rfl B rfl 81 (ndA D) (0, 0) _ hBR Try.underlying81 rfl (info_nodeA _) ?_)
    refine (keptWith_is x gk ck _ p acc ns (past ++ [o]) D W8 hC8 hl).mono ?_
    rintro e w9 ⟨g, cap, rfl, hown9, hb9⟩
    have hr9 := hC8.keep hb9
    have hs9 := hb9.size
    have hpk := put_kept hr9 hown9
    obtain ⟨cur, _, hg8⟩ := row_block hown9
    have HFIN := Go.Proofs.Ytfpbkiknfkjpbaa.hid (show Chd w (w9.setCell ⟨x, 8, none⟩ (.slice (some ⟨g, 0, none⟩) (keptN ns D).length cap)) x gk (.slice ao past.length pcap) p acc (keptN ns D) (past ++ [o]) from
      Chd.trans ((Fr.of_below HBW.out _ (fun k h1 h2 => by omega)).trans' HF8.out (by intro i _ h; exact h)) (Or.inl rfl) (fun k e => by
        rcases HP8.out k e with h | h
        · exact Or.inl h
        · exact Or.inr (by have := HBW.out.size; omega))
      ⟨g, cap, _, hpk, (Fr.of_below hb9 _ (fun k h1 h2 => by omega)).setCell (Or.inl (Or.inl rfl)) _, Or.inr hg8, fun k e => Or.inl e⟩)
    have c8 := cell_of_cells (j := 8) hr9.blk rfl
    have f8 := free_of_cells (j := 8) hr9.blk
    clear hpk hown9 hb9 hr9 hC8 hBR HF8 HP8
    generalize hKN : keptN ns D = KN at *
    go_wp2
    go_end0
    exact ⟨rfl, by rw [hKN]; exact HFIN.out⟩

end Go.Proofs.Ytfpbkiknfkjpbaa

