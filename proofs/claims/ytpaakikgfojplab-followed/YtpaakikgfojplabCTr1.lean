import Derived.Test.YtpaakikgfojplabCLed7
/-
  THE WALKS of the program's tree: the chain in memory; Find.
-/
namespace Go.Proofs.Ytpaakikgfojplab
open Go.RowKit Num Bk
set_option linter.unusedVariables false

def ndC (n : Nd) : List Value := [.int .i64 n.id, .int .i64 n.par, .int .i64 n.height, .int .i64 n.hdr.slot, .int .i64 n.hdr.pool, .int .i64 n.hdr.proof, .int .i64 n.hdr.count, .int .i64 n.hdr.frm, .int .i64 n.hdr.dst, .int .i64 n.hdr.amount] ++ (pgA n.pg).toList
def ndA (n : Nd) : Array Value := (ndC n).toArray
def ndV (n : Nd) : Value := .agg (ndA n)
def nsC (ns : List Nd) : List Value := ns.flatMap ndC

theorem ndC_length (n : Nd) : (ndC n).length = 37 := rfl
theorem nsC_length (l : List Nd) : (nsC l).length = l.length * 37 := by
  induction l with
  | nil => rfl
  | cons x l ih =>
    have e : nsC (x :: l) = ndC x ++ nsC l := by simp [nsC]
    rw [e, List.length_append, ndC_length, ih]; simp; omega
theorem nsC_append (l m : List Nd) : nsC (l ++ m) = nsC l ++ nsC m := by simp [nsC]
theorem nsC_at (l : List Nd) (i j : Nat) (hi : i < l.length) (hj : j < 37) : (nsC l)[i * 37 + j]? = (ndC (l.getD i zeroN))[j]? := by
  induction l generalizing i with
  | nil => simp at hi
  | cons x l ih =>
    have e : nsC (x :: l) = ndC x ++ nsC l := by simp [nsC]
    rw [e]
    cases i with
    | zero =>
      rw [List.getElem?_append_left (by rw [ndC_length]; omega)]
      simp [List.getD]
    | succ i =>
      rw [List.getElem?_append_right (by rw [ndC_length]; omega), ndC_length]
      have := ih i (by simpa using hi)
      have e2 : (i + 1) * 37 + j - 37 = i * 37 + j := by omega
      rw [e2, this]
      simp [List.getD]

theorem info_node (n : Nd) : (Try.prog.info? 89).map (·.size) = some (ndC n).length := by
  show _ = some 37
  kernel_rfl
theorem info_nodeA (n : Nd) : (Try.prog.info? 89).map (·.size) = some (ndA n).size := by
  show _ = some 37
  kernel_rfl
theorem nd_oneL (n : Nd) : ∀ u ∈ ndC n, u.oneCell' = true := by
  intro u hu
  simp only [ndC, pgA, List.mem_append, List.mem_cons, List.not_mem_nil, or_false] at hu
  rcases hu with (rfl | rfl | rfl | rfl | rfl | rfl | rfl | rfl | rfl | rfl) | hu
  all_goals first | rfl | skip
  rcases hu with rfl | rfl | rfl | rfl | rfl | rfl | rfl | rfl | rfl | rfl | rfl | rfl | rfl | rfl | rfl | rfl | rfl | rfl | rfl | rfl | rfl | rfl | rfl | rfl | rfl | rfl | rfl <;> rfl
theorem nd_one (n : Nd) : (ndA n).all (·.oneCell') = true := all_oneCell_toArray (nd_oneL n)

/-- The program's chain in memory. -/
structure ChAt (w : World) (x gk ck : Nat) (pv : Value) (ps : List Nat) (p : Par) (acc : Int) (ns : List Nd) (past : List Nat) : Prop where
  blk : w.heap[x]? = some (.cells #[.int .i64 p.epoch, .int .i64 p.a, .int .i64 p.b, .int .i64 (p.stakes.length : Int), .int .i64 (total p), .int .i64 p.depth, .int .i64 p.room, .int .i64 acc, .slice (some ⟨gk, 0, none⟩) ns.length ck, pv, .int .i64 (ps.getD 0 0 : Nat), .int .i64 (ps.getD 1 0 : Nat), .int .i64 (ps.getD 2 0 : Nat), .int .i64 (ps.getD 3 0 : Nat)] 83 (0, 0))
  kep : w.ownsRow 0 89 37 (.slice (some ⟨gk, 0, none⟩) ns.length ck) ns.length (nsC ns)
  pst : w.ownsRow 0 3 1 pv past.length (dcells past)

theorem ChAt.keep {w w' : World} {x gk ck : Nat} {pv : Value} {ps : List Nat} {p : Par} {acc : Int} {ns : List Nd} {past : List Nat} (h : ChAt w x gk ck pv ps p acc ns past) (hb : Below w.heap.size w w') : ChAt w' x gk ck pv ps p acc ns past :=
  ⟨by rw [hb.block x (lt_of_block h.blk)]; exact h.blk, row_keep h.kep hb (Nat.le_refl _), row_keep h.pst hb (Nat.le_refl _)⟩

theorem ChAt.node {w : World} {x gk ck : Nat} {pv : Value} {ps : List Nat} {p : Par} {acc : Int} {ns : List Nd} {past : List Nat} (h : ChAt w x gk ck pv ps p acc ns past) {i : Nat} (hi : i < ns.length) : w.rangeAt gk (i * 37) (ndC (ns.getD i zeroN)) := by
  intro j v hv
  have hj : j < 37 := by have := (List.getElem?_eq_some_iff.1 hv).1; rwa [ndC_length] at this
  rw [h.kep.cellAt _ (by omega), nsC_at _ _ _ hi hj]
  exact hv
theorem row_node {w : World} {base gk ck : Nat} {ns : List Nd} (h : w.ownsRow base 89 37 (.slice (some ⟨gk, 0, none⟩) ns.length ck) ns.length (nsC ns)) {i : Nat} (hi : i < ns.length) : w.rangeAt gk (i * 37) (ndC (ns.getD i zeroN)) := by
  intro j v hv
  have hj : j < 37 := by have := (List.getElem?_eq_some_iff.1 hv).1; rwa [ndC_length] at this
  rw [h.cellAt _ (by omega), nsC_at _ _ _ hi hj]
  exact hv

theorem find_step {α : Type} (P : α → Bool) (l : List α) (z : α) (k : Nat) (h : k < l.length) : (l.take (k + 1)).find? P = ((l.take k).find? P).or (if P (l.getD k z) then some (l.getD k z) else none) := by
  have e : l.take (k + 1) = l.take k ++ [l.getD k z] := by
    rw [List.take_succ_eq_append_getElem h]
    simp [List.getD, h]
  rw [e, List.find?_append]
  simp only [List.find?_cons, List.find?_nil]
  cases P (l.getD k z) <;> rfl
theorem find_done {α : Type} (P : α → Bool) (l : List α) (k : Nat) (v : α) (h : (l.take k).find? P = some v) : l.find? P = some v := by
  have e : l = l.take k ++ l.drop k := (List.take_append_drop k l).symm
  rw [e, List.find?_append, h]; rfl

theorem findN_none {ns : List Nd} {id : Int} (h : findN ns id = none) (past : List Nat) : findErr ns past id = if has past id then 2 else 3 := by
  unfold findErr; rw [h]; rfl
theorem findN_some {ns : List Nd} {id : Int} {n : Nd} (h : findN ns id = some n) (past : List Nat) : findErr ns past id = 0 := by
  unfold findErr; rw [h]; rfl

set_option maxHeartbeats 3200000 in
set_option maxRecDepth 1000000 in
theorem find_is (x gk ck : Nat) (pv : Value) {ps : List Nat} (p : Par) (acc : Int) (ns : List Nd) (past : List Nat) (id : Int) (w : World) (hr : ChAt w x gk ck pv ps p acc ns past) (hl : ns.length ≤ 100) (hl2 : past.length ≤ 1000000) :
    Calls Try.prog 47 #[.pointer (some ⟨x, 5, none⟩), .int .i64 id] w fun e w' => e = .returned (.tuple #[ndV ((findN ns id).getD zeroN), .int .i64 (findErr ns past id)]) ∧ Below w.heap.size w w' := by
  obtain ⟨ao, pcap, hpv, hpo⟩ := own_any hr.pst
  subst hpv
  unfold ndV
  generalize hFV : (findN ns id).getD zeroN = FV at *
  generalize hFE : findErr ns past id = FE at *
  have HFV := Go.Proofs.Ytpaakikgfojplab.hid hFV
  have HFE := Go.Proofs.Ytpaakikgfojplab.hid hFE
  clear hFV hFE
  go_enter Try.func47, Try.ntmps47
  go_wp2
  generalize hA : w.alloc (.cells #[.int .i64 0, .int .i64 0, .int .i64 0, .int .i64 0, .int .i64 0, .int .i64 0, .int .i64 0, .int .i64 0, .int .i64 0, .int .i64 0, .int .i64 0, .int .i64 0, .int .i64 0, .int .i64 0, .int .i64 0, .int .i64 0, .int .i64 0, .int .i64 0, .int .i64 0, .int .i64 0, .int .i64 0, .int .i64 0, .int .i64 0, .int .i64 0, .int .i64 0, .int .i64 0, .int .i64 0, .int .i64 0, .int .i64 0, .int .i64 0, .int .i64 0, .int .i64 0, .int .i64 0, .int .i64 0, .int .i64 0, .int .i64 0, .int .i64 0] 89) = A at *
  obtain ⟨hsA, hbA, hAR⟩ := below_of hA
  clear hA
  have hrA := hr.keep hbA
  have HAR : Hid (A.heap[w.heap.size]? = some (.cells (ndA zeroN) 89 (0, 0))) := hAR
  have HBA := Go.Proofs.Ytpaakikgfojplab.hid hbA
  have hxw : w.heap.size < A.heap.size := by omega
  clear hr hAR hbA hsA
  have c8 := cell_of_cells (j := 8) hrA.blk rfl
  have c9 := cell_of_cells (j := 9) hrA.blk rfl
  go_loopw [6] (fun i wr => ∃ k : Nat, k ≤ ns.length ∧ i = .int .i64 k ∧ Hid (findN (ns.take k) id = none) ∧ wr = A) (fun i _ => ns.length - (intOf i).toNat)
  case atStart => exact ⟨0, Nat.zero_le _, rfl, rfl, rfl⟩
  case round =>
    obtain ⟨k, hk, rfl, HN, rfl⟩ := hrel
    by_cases hlt : k < ns.length
    · have hnr := hrA.node hlt
      have hst := find_step (fun n : Nd => n.id == id) ns zeroN k hlt
      have HST := Go.Proofs.Ytpaakikgfojplab.hid (hst.trans (by rw [show (ns.take k).find? (fun n : Nd => n.id == id) = none from HN.out]))
      clear hst HN
      generalize ns.getD k zeroN = n at *
      have ci : wr.cell? ⟨gk, k * 37, none⟩ = some (.int .i64 n.id) := hnr 0 _ rfl
      have i1 : (0 : Int) ≤ (k : Int) := by omega
      have i2 : (k : Int) < ((ns.length : Nat) : Int) := by omega
      by_cases hid' : n.id = id
      · have hf : findN ns id = some n := find_done _ ns (k + 1) n (HST.out.trans (by simp [hid']))
        have hfv : FV = n := by rw [← HFV.out, hf]; rfl
        have hfe : FE = 0 := by rw [← HFE.out, findN_some hf]
        have hbq : (n.id == id) = true := by simp [hid']
        clear hf HFV HFE HST
        subst hfv; subst hfe
        clear hid'
        have HNR := Go.Proofs.Ytpaakikgfojplab.hid hnr
        clear hnr
        go_wp2_with (first | refine wpList_load_mid rfl 89 _ rfl gk (k * 37) rfl (ndC FV) _ HNR.out Try.underlying89 rfl (info_node _) ?_ | refine wpList_store_row rfl 89 _ _ rfl w.heap.size (ndA FV) rfl rfl 89 (ndA zeroN) HAR.out (info_nodeA _) rfl (nd_one _) ?_)
        refine bodyPost_ret (results_ct rfl _ _ _ w.heap.size 89 (ndA FV) (0, 0) _ rfl (setRow_heap _ _ _ _ _ _ HAR.out) rfl Try.underlying89 (info_nodeA _)) rfl ⟨rfl, Below.setRow HBA.out (Nat.le_refl _) _⟩
      · have hbq : (n.id == id) = false := by simp [hid']
        have HN2 : Hid (findN (ns.take (k + 1)) id = none) := HST.out.trans (by simp [hid'])
        clear hid' hnr HST
        go_wp2
        go_roundw
        case rel => exact ⟨k + 1, by omega, by go_num, HN2, trivial⟩
        case measure => simp [intOf]; omega
    · have hkk : k = ns.length := by omega
      have hnf : findN ns id = none := by have := HN.out; rwa [hkk, List.take_length] at this
      have hfv : FV = zeroN := by rw [← HFV.out, hnf]; rfl
      have HFE2 := Go.Proofs.Ytpaakikgfojplab.hid (HFE.out.symm.trans (findN_none hnf past))
      clear HN hnf HFV HFE
      subst hfv
      go_wp2
      go_loopw [7] (fun i wr2 => ∃ k : Nat, k ≤ past.length ∧ i = .int .i64 k ∧ Hid (has (past.take k) id = false) ∧ wr2 = wr) (fun i _ => past.length - (intOf i).toNat)
      case atStart => exact ⟨0, Nat.zero_le _, rfl, rfl, rfl⟩
      case round =>
        obtain ⟨m, hm, rfl, HM, rfl⟩ := hrel
        by_cases hlm : m < past.length
        · obtain ⟨gp, rfl⟩ := hpo (by omega)
          have cm := (hrA.pst.cellAt m (by omega)).trans (dcells_at past m hlm)
          have HSM : Hid (has (past.take (m + 1)) id = (((past.getD m 0 : Nat) : Int) == id)) := by
            show _ = _
            rw [take_succ_getD past m hlm]
            unfold has
            rw [List.any_append, show (past.take m).any (fun k => (k : Int) == id) = false from HM.out]
            simp
          have HSA : Hid (((past.getD m 0 : Nat) : Int) == id → has past id = true) := by
            intro h
            rw [has_iff]
            exact ⟨past.getD m 0, by rw [show past.getD m 0 = past[m] from by simp [List.getD, hlm]]; exact List.getElem_mem hlm, by simpa using h⟩
          generalize past.getD m 0 = d at *
          have i1 : (0 : Int) ≤ (m : Int) := by omega
          have i2 : (m : Int) < ((past.length : Nat) : Int) := by omega
          clear HM
          cases hq : ((d : Int) == id)
          · have HN2 : Hid (has (past.take (m + 1)) id = false) := HSM.out.trans hq
            clear HSM HSA
            go_wp2
            go_roundw
            case rel => exact ⟨m + 1, by omega, by go_num, HN2, trivial⟩
            case measure => simp [intOf]; omega
          · have hfe : FE = 2 := by rw [HFE2.out, HSA.out hq]; rfl
            clear HFE2 HSM HSA
            subst hfe
            go_wp2_with (refine wpList_store_row rfl 89 _ _ rfl w.heap.size (ndA zeroN) rfl rfl 89 (ndA zeroN) HAR.out (info_nodeA _) rfl (nd_one _) ?_)
            refine bodyPost_ret (results_ct rfl _ _ _ w.heap.size 89 (ndA zeroN) (0, 0) _ rfl (setRow_heap _ _ _ _ _ _ HAR.out) rfl Try.underlying89 (info_nodeA _)) rfl ⟨rfl, Below.setRow HBA.out (Nat.le_refl _) _⟩
        · have hmm : m = past.length := by omega
          have hno : has past id = false := by have := HM.out; rwa [hmm, List.take_length] at this
          have hfe : FE = 3 := by rw [HFE2.out, hno]; rfl
          clear HFE2 HM hno
          subst hfe
          go_wp2_with (refine wpList_store_row rfl 89 _ _ rfl w.heap.size (ndA zeroN) rfl rfl 89 (ndA zeroN) HAR.out (info_nodeA _) rfl (nd_one _) ?_)
          refine bodyPost_ret (results_ct rfl _ _ _ w.heap.size 89 (ndA zeroN) (0, 0) _ rfl (setRow_heap _ _ _ _ _ _ HAR.out) rfl Try.underlying89 (info_nodeA _)) rfl ⟨rfl, Below.setRow HBA.out (Nat.le_refl _) _⟩

end Go.Proofs.Ytpaakikgfojplab

