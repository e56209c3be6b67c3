import Derived.Test.YtpaakikgfojplaaGreatCLed7
/-
  THE WALKS of the program's tree: the chain in memory; Find.
-/
namespace Go.Proofs.YtpaakikgfojplaaGreat
open Go.RowKit Num Bk
set_option linter.unusedVariables false

def ndC (n : Nd) : List Value := [.int .i64 n.id, .int .i64 n.par, .int .i64 n.height, .int .i64 n.hdr.slot, .int .i64 n.hdr.pool, .int .i64 n.hdr.proof, .int .i64 n.hdr.count, .int .i64 n.hdr.frm, .int .i64 n.hdr.dst, .int .i64 n.hdr.amount] ++ (pgA n.pg).toList
def ndA (n : Nd) : Array Value := (ndC n).toArray
def ndV (n : Nd) : Value := .agg (ndA n)
def nsC (ns : List Nd) : List Value := ns.flatMap ndC

theorem ndC_length (n : Nd) : (ndC n).length = 37 := rfl
theorem nsC_length (l : List Nd) : (nsC l).length = l.length * 37 := by
  induction l with
  | nil => rfl
  | cons x l ih =>
    have e : nsC (x :: l) = ndC x ++ nsC l := by simp [nsC]
    rw [e, List.length_append, ndC_length, ih]; simp; omega
theorem nsC_append (l m : List Nd) : nsC (l ++ m) = nsC l ++ nsC m := by simp [nsC]
theorem nsC_at (l : List Nd) (i j : Nat) (hi : i < l.length) (hj : j < 37) : (nsC l)[i * 37 + j]? = (ndC (l.getD i zeroN))[j]? := by
  induction l generalizing i with
  | nil => simp at hi
  | cons x l ih =>
    have e : nsC (x :: l) = ndC x ++ nsC l := by simp [nsC]
    rw [e]
    cases i with
    | zero =>
      rw [List.getElem?_append_left (by rw [ndC_length]; omega)]
      simp [List.getD]
    | succ i =>
      rw [List.getElem?_append_right (by rw [ndC_length]; omega), ndC_length]
      have := ih i (by simpa using hi)
      have e2 : (i + 1) * 37 + j - 37 = i * 37 + j := by omega
      rw [e2, this]
      simp [List.getD]

theorem info_node (n : Nd) : (Tryz.prog.info? 95).map (·.size) = some (ndC n).length := by
  show _ = some 37
  kernel_rfl
theorem info_nodeA (n : Nd) : (Tryz.prog.info? 95).map (·.size) = some (ndA n).size := by
  show _ = some 37
  kernel_rfl
theorem nd_oneL (n : Nd) : ∀ u ∈ ndC n, u.oneCell' = true := by
  intro u hu
  simp only [ndC, pgA, List.mem_append, List.mem_cons, List.not_mem_nil, or_false] at hu
  rcases hu with (rfl | rfl | rfl | rfl | rfl | rfl | rfl | rfl | rfl | rfl) | hu
  all_goals first | rfl | skip
  rcases hu with rfl | rfl | rfl | rfl | rfl | rfl | rfl | rfl | rfl | rfl | rfl | rfl | rfl | rfl | rfl | rfl | rfl | rfl | rfl | rfl | rfl | rfl | rfl | rfl | rfl | rfl | rfl <;> rfl
theorem nd_one (n : Nd) : (ndA n).all (·.oneCell') = true := all_oneCell_toArray (nd_oneL n)

/-- The program's chain in memory. -/
structure ChAt (w : World) (x gk ck : Nat) (pv : Value) (ps : List Nat) (p : Par) (acc : Int) (ns : List Nd) (past : List Nat) : Prop where
  blk : w.heap[x]? = some (.cells #[.int .i64 p.epoch, .int .i64 p.a, .int .i64 p.b, .int .i64 (p.stakes.length : Int), .int .i64 (total p), .int .i64 p.depth, .int .i64 p.room, .int .i64 acc, .slice (some ⟨gk, 0, none⟩) ns.length ck, pv, .int .i64 (ps.getD 0 0 : Nat), .int .i64 (ps.getD 1 0 : Nat), .int .i64 (ps.getD 2 0 : Nat), .int .i64 (ps.getD 3 0 : Nat)] 66 (0, 0))
  kep : w.ownsRow 0 95 37 (.slice (some ⟨gk, 0, none⟩) ns.length ck) ns.length (nsC ns)
  pst : w.ownsRow 0 3 1 pv past.length (dcells past)

theorem ChAt.keep {w w' : World} {x gk ck : Nat} {pv : Value} {ps : List Nat} {p : Par} {acc : Int} {ns : List Nd} {past : List Nat} (h : ChAt w x gk ck pv ps p acc ns past) (hb : Below w.heap.size w w') : ChAt w' x gk ck pv ps p acc ns past :=
  ⟨by rw [hb.block x (lt_of_block h.blk)]; exact h.blk, row_keep h.kep hb (Nat.le_refl _), row_keep h.pst hb (Nat.le_refl _)⟩

theorem ChAt.node {w : World} {x gk ck : Nat} {pv : Value} {ps : List Nat} {p : Par} {acc : Int} {ns : List Nd} {past : List Nat} (h : ChAt w x gk ck pv ps p acc ns past) {i : Nat} (hi : i < ns.length) : w.rangeAt gk (i * 37) (ndC (ns.getD i zeroN)) := by
  intro j v hv
  have hj : j < 37 := by have := (List.getElem?_eq_some_iff.1 hv).1; rwa [ndC_length] at this
  rw [h.kep.cellAt _ (by omega), nsC_at _ _ _ hi hj]
  exact hv
theorem row_node {w : World} {base gk ck : Nat} {ns : List Nd} (h : w.ownsRow base 95 37 (.slice (some ⟨gk, 0, none⟩) ns.length ck) ns.length (nsC ns)) {i : Nat} (hi : i < ns.length) : w.rangeAt gk (i * 37) (ndC (ns.getD i zeroN)) := by
  intro j v hv
  have hj : j < 37 := by have := (List.getElem?_eq_some_iff.1 hv).1; rwa [ndC_length] at this
  rw [h.cellAt _ (by omega), nsC_at _ _ _ hi hj]
  exact hv

theorem find_step {α : Type} (P : α → Bool) (l : List α) (z : α) (k : Nat) (h : k < l.length) : (l.take (k + 1)).find? P = ((l.take k).find? P).or (if P (l.getD k z) then some (l.getD k z) else none) := by
  have e : l.take (k + 1) = l.take k ++ [l.getD k z] := by
    rw [List.take_succ_eq_append_getElem h]
    simp [List.getD, h]
  rw [e, List.find?_append]
  simp only [List.find?_cons, List.find?_nil]
  cases P (l.getD k z) <;> rfl
theorem find_done {α : Type} (P : α → Bool) (l : List α) (k : Nat) (v : α) (h : (l.take k).find? P = some v) : l.find? P = some v := by
  have e : l = l.take k ++ l.drop k := (List.take_append_drop k l).symm
  rw [e, List.find?_append, h]; rfl

theorem findN_none {ns : List Nd} {id : Int} (h : findN ns id = none) (past : List Nat) : findErr ns past id = if has past id then 2 else 3 := by
  unfold findErr; rw [h]; rfl
theorem findN_some {ns : List Nd} {id : Int} {n : Nd} (h : findN ns id = some n) (past : List Nat) : findErr ns past id = 0 := by
  unfold findErr; rw [h]; rfl

set_option maxHeartbeats 3200000 in
set_option maxRecDepth 1000000 in
theorem find_is (x gk ck : Nat) (pv : Value) {ps : List Nat} (p : Par) (acc : Int) (ns : List Nd) (past : List Nat) (id : Int) (w : World) (hr : ChAt w x gk ck pv ps p acc ns past) (hl : ns.length ≤ 100) (hl2 : past.length ≤ 1000000) :
    Calls Tryz.prog 51 #[.pointer (some ⟨x, 5, none⟩), .int .i64 id] w fun e w' => e = .returned (.tuple #[ndV ((findN ns id).getD zeroN), .int .i64 (findErr ns past id)]) ∧ Below w.heap.size w w' := by
  obtain ⟨ao, pcap, hpv, hpo⟩ := own_any hr.pst
  subst hpv
  unfold ndV
  generalize hFV : (findN ns id).getD zeroN = FV at *
  generalize hFE : findErr ns past id = FE at *
  have HFV := Go.Proofs.YtpaakikgfojplaaGreat.hid hFV
  have HFE := Go.Proofs.YtpaakikgfojplaaGreat.hid hFE
  clear hFV hFE
  go_enter Tryz.func51, Tryz.ntmps51
  go_wp2
  generalize hA : w.alloc (.cells #[.int .i64 0, .int .i64 0, .int .i64 0, .int .i64 0, .int .i64 0, .int .i64 0, .int .i64 0, .int .i64 0, .int .i64 0, .int .i64 0, .int .i64 0, .int .i64 0, .int .i64 0, .int .i64 0, .int .i64 0, .int .i64 0, .int .i64 0, .int .i64 0, .int .i64 0, .int .i64 0, .int .i64 0, .int .i64 0, .int .i64 0, .int .i64 0, .int .i64 0, .int .i64 0, .int .i64 0, .int .i64 0, .int .i64 0, .int .i64 0, .int .i64 0, .int .i64 0, .int .i64 0, .int .i64 0, .int .i64 0, .int .i64 0, .int .i64 0] 95) = A at *
  obtain ⟨hsA, hbA, hAR⟩ := below_of hA
  clear hA
  have hrA := hr.keep hbA
  have HAR : Hid (A.heap[w.heap.size]? = some (.cells (ndA zeroN) 95 (0, 0))) := hAR
  have HBA := Go.Proofs.YtpaakikgfojplaaGreat.hid hbA
  have hxw : w.heap.size < A.heap.size := by omega
  clear hr hAR hbA hsA
  have c8 := cell_of_cells (j := 8) hrA.blk rfl
  have c9 := cell_of_cells (j := 9) hrA.blk rfl
  go_loopw [6] (fun i wr => ∃ k : Nat, k ≤ ns.length ∧ i = .int .i64 k ∧ Hid (findN (ns.take k) id = none) ∧ wr = A) (fun i _ => ns.length - (intOf i).toNat)
  case atStart => exact ⟨0, Nat.zero_le _, rfl, rfl, rfl⟩
  case round =>
    obtain ⟨k, hk, rfl, HN, rfl⟩ := hrel
    by_cases hlt : k < ns.length
    · have hnr := hrA.node hlt
      have hst := find_step (fun n : Nd => n.id == id) ns zeroN k hlt
      have HST := Go.Proofs.YtpaakikgfojplaaGreat.hid (hst.trans (by rw [show (ns.take k).find? (fun n : Nd => n.id == id) = none from HN.out]))
      clear hst HN
      generalize ns.getD k zeroN = n at *
      have ci : wr.cell? ⟨gk, k * 37, none⟩ = some (.int .i64 n.id) := hnr 0 _ rfl
      have i1 : (0 : Int) ≤ (k : Int) := by omega
      have i2 : (k : Int) < ((ns.length : Nat) : Int) := by omega
      by_cases hid' : n.id = id
      · have hf : findN ns id = some n := find_done _ ns (k + 1) n (HST.out.trans (by simp [hid']))
        have hfv : FV = n := by rw [← HFV.out, hf]; rfl
        have hfe : FE = 0 := by rw [← HFE.out, findN_some hf]
        have hbq : (n.id == id) = true := by simp [hid']
        clear hf HFV HFE HST
        subst hfv; subst hfe
        clear hid'
        have HNR := Go.Proofs.YtpaakikgfojplaaGreat.hid hnr
        clear hnr
        go_wp2_with (first | refine wpList_load_mid rfl 95 _ rfl gk (k * 37) rfl (ndC FV) _ HNR.out Tryz.underlying95 rfl (info_node _) ?_ | refine wpList_store_row rfl 95 _ _ rfl w.heap.size (ndA FV) rfl rfl 95 (ndA zeroN) HAR.out (info_nodeA _) rfl (nd_one _) ?_)
        refine bodyPost_ret (results_ct rfl _ _ _ w.heap.size 95 (ndA FV) (0, 0) _ rfl (setRow_heap _ _ _ _ _ _ HAR.out) rfl Tryz.underlying95 (info_nodeA _)) rfl ⟨rfl, Below.setRow HBA.out (Nat.le_refl _) _⟩
      · have hbq : (n.id == id) = false := by simp [hid']
        have HN2 : Hid (findN (ns.take (k + 1)) id = none) := HST.out.trans (by simp [hid'])
        clear hid' hnr HST
        go_wp2
        go_roundw
        case rel => exact ⟨k + 1, by omega, by go_num, HN2, trivial⟩
        case measure => simp [intOf]; omega
    · have hkk : k = ns.length := by omega
      have hnf : findN ns id = none := by have := HN.out; rwa [hkk, List.take_length] at this
      have hfv : FV = zeroN := by rw [← HFV.out, hnf]; rfl
      have HFE2 := Go.Proofs.YtpaakikgfojplaaGreat.hid (HFE.out.symm.trans (findN_none hnf past))
      clear HN hnf HFV HFE
      subst hfv
      go_wp2
      go_loopw [7] (fun i wr2 => ∃ k : Nat, k ≤ past.length ∧ i = .int .i64 k ∧ Hid (has (past.take k) id = false) ∧ wr2 = wr) (fun i _ => past.length - (intOf i).toNat)
      case atStart => exact ⟨0, Nat.zero_le _, rfl, rfl, rfl⟩
      case round =>
        obtain ⟨m, hm, rfl, HM, rfl⟩ := hrel
        by_cases hlm : m < past.length
        · obtain ⟨gp, rfl⟩ := hpo (by omega)
          have cm := (hrA.pst.cellAt m (by omega)).trans (dcells_at past m hlm)
          have HSM : Hid (has (past.take (m + 1)) id = (((past.getD m 0 : Nat) : Int) == id)) := by
            show _ = _
            rw [take_succ_getD past m hlm]
            unfold has
            rw [List.any_append, show (past.take m).any (fun k => (k : Int) == id) = false from HM.out]
            simp
          have HSA : Hid (((past.getD m 0 : Nat) : Int) == id → has past id = true) := by
            intro h
            rw [has_iff]
            exact ⟨past.getD m 0, by rw [show past.getD m 0 = past[m] from by simp [List.getD, hlm]]; exact List.getElem_mem hlm, by simpa using h⟩
          generalize past.getD m 0 = d at *
          have i1 : (0 : Int) ≤ (m : Int) := by omega
          have i2 : (m : Int) < ((past.length : Nat) : Int) := by omega
          clear HM
          cases hq : ((d : Int) == id)
          · have HN2 : Hid (has (past.take (m + 1)) id = false) := HSM.out.trans hq
            clear HSM HSA
            go_wp2
            go_roundw
            case rel => exact ⟨m + 1, by omega, by go_num, HN2, trivial⟩
            case measure => simp [intOf]; omega
          · have hfe : FE = 2 := by rw [HFE2.out, HSA.out hq]; rfl
            clear HFE2 HSM HSA
            subst hfe
            go_wp2_with (refine wpList_store_row rfl 95 _ _ rfl w.heap.size (ndA zeroN) rfl rfl 95 (ndA zeroN) HAR.out (info_nodeA _) rfl (nd_one _) ?_)
            refine bodyPost_ret (results_ct rfl _ _ _ w.heap.size 95 (ndA zeroN) (0, 0) _ rfl (setRow_heap _ _ _ _ _ _ HAR.out) rfl Tryz.underlying95 (info_nodeA _)) rfl ⟨rfl, Below.setRow HBA.out (Nat.le_refl _) _⟩
        · have hmm : m = past.length := by omega
          have hno : has past id = false := by have := HM.out; rwa [hmm, List.take_length] at this
          have hfe : FE = 3 := by rw [HFE2.out, hno]; rfl
          clear HFE2 HM hno
          subst hfe
          go_wp2_with (refine wpList_store_row rfl 95 _ _ rfl w.heap.size (ndA zeroN) rfl rfl 95 (ndA zeroN) HAR.out (info_nodeA _) rfl (nd_one _) ?_)
          refine bodyPost_ret (results_ct rfl _ _ _ w.heap.size 95 (ndA zeroN) (0, 0) _ rfl (setRow_heap _ _ _ _ _ _ HAR.out) rfl Tryz.underlying95 (info_nodeA _)) rfl ⟨rfl, Below.setRow HBA.out (Nat.le_refl _) _⟩

end Go.Proofs.YtpaakikgfojplaaGreat

/-
  THE WALKS of the program's tree: isAmong, has, tip.
-/
namespace Go.Proofs.YtpaakikgfojplaaGreat
open Go.RowKit Num Bk
set_option linter.unusedVariables false

theorem any_step {α : Type} (P : α → Bool) (l : List α) (z : α) (k : Nat) (h : k < l.length) (hn : (l.take k).any P = false) : (l.take (k + 1)).any P = P (l.getD k z) := by
  have e : l.take (k + 1) = l.take k ++ [l.getD k z] := by
    rw [List.take_succ_eq_append_getElem h]
    simp [List.getD, h]
  rw [e, List.any_append, hn]
  simp
theorem any_done {α : Type} (P : α → Bool) (l : List α) (z : α) (k : Nat) (h : k < l.length) (hp : P (l.getD k z) = true) : l.any P = true := by
  rw [List.any_eq_true]
  exact ⟨l.getD k z, by rw [show l.getD k z = l[k] from by simp [List.getD, h]]; exact List.getElem_mem h, hp⟩

set_option maxHeartbeats 3200000 in
set_option maxRecDepth 1000000 in
theorem among_is (base gk ck : Nat) (ns : List Nd) (id : Int) (w : World) (hr : w.ownsRow base 95 37 (.slice (some ⟨gk, 0, none⟩) ns.length ck) ns.length (nsC ns)) (hl : ns.length ≤ 100) :
    Calls Tryz.prog 107 #[.slice (some ⟨gk, 0, none⟩) ns.length ck, .int .i64 id] w fun e w' => e = .returned (.bool (amongN ns id)) ∧ w = w' := by
  generalize hFV : amongN ns id = FV at *
  have HFV := Go.Proofs.YtpaakikgfojplaaGreat.hid hFV
  clear hFV
  go_enter Tryz.func107, Tryz.ntmps107
  go_wp2
  go_loopw [5] (fun i wr => ∃ k : Nat, k ≤ ns.length ∧ i = .int .i64 k ∧ Hid (amongN (ns.take k) id = false) ∧ wr = w) (fun i _ => ns.length - (intOf i).toNat)
  case atStart => exact ⟨0, Nat.zero_le _, rfl, rfl, rfl⟩
  case round =>
    obtain ⟨k, hk, rfl, HN, rfl⟩ := hrel
    by_cases hlt : k < ns.length
    · have hnr := row_node hr hlt
      have HST := Go.Proofs.YtpaakikgfojplaaGreat.hid (any_step (fun n : Nd => n.id == id) ns zeroN k hlt HN.out)
      have HDN := Go.Proofs.YtpaakikgfojplaaGreat.hid (any_done (fun n : Nd => n.id == id) ns zeroN k hlt)
      clear HN
      generalize ns.getD k zeroN = n at *
      have ci : wr.cell? ⟨gk, k * 37, none⟩ = some (.int .i64 n.id) := hnr 0 _ rfl
      have i1 : (0 : Int) ≤ (k : Int) := by omega
      have i2 : (k : Int) < ((ns.length : Nat) : Int) := by omega
      clear hnr
      cases hq : (n.id == id)
      · have HN2 : Hid (amongN (ns.take (k + 1)) id = false) := HST.out.trans hq
        clear HST HDN
        go_wp2
        go_roundw
        case rel => exact ⟨k + 1, by omega, by go_num, HN2, trivial⟩
        case measure => simp [intOf]; omega
      · have hfv : FV = true := HFV.out.symm.trans (HDN.out hq)
        clear HST HDN HFV
        subst hfv
        go_wp2
        go_ret
        exact ⟨rfl, rfl⟩
    · have hkk : k = ns.length := by omega
      have hfv : FV = false := by have := HN.out; rw [hkk, List.take_length] at this; exact HFV.out.symm.trans this
      clear HN HFV
      subst hfv
      go_wp2
      go_ret
      exact ⟨rfl, rfl⟩

attribute [local go_sem ↓] run_eql_hdr

set_option maxHeartbeats 3200000 in
set_option maxRecDepth 1000000 in
theorem twin_is (x gk ck : Nat) (pv : Value) {ps : List Nat} (p : Par) (acc : Int) (ns : List Nd) (past : List Nat) (parent : Int) (h : Hdr) (w : World) (hr : ChAt w x gk ck pv ps p acc ns past) (hl : ns.length ≤ 100) :
    Calls Tryz.prog 91 #[.pointer (some ⟨x, 5, none⟩), .int .i64 parent, hdrV h] w fun e w' => e = .returned (.tuple #[.int .i64 (twinN ns parent h), .bool (hasN ns parent h)]) ∧ Below w.heap.size w w' := by
  obtain ⟨a0, a1, a2, a3, a4, a5, a6⟩ := h
  unfold hdrV
  have HFF := Go.Proofs.YtpaakikgfojplaaGreat.hid (hasN_find ns parent ⟨a0, a1, a2, a3, a4, a5, a6⟩)
  generalize hFV : hasN ns parent ⟨a0, a1, a2, a3, a4, a5, a6⟩ = FV at *
  generalize hFT : twinN ns parent ⟨a0, a1, a2, a3, a4, a5, a6⟩ = FT at *
  have HFT := Go.Proofs.YtpaakikgfojplaaGreat.hid hFT
  clear hFV hFT
  simp only
  go_enter Tryz.func91, Tryz.ntmps91
  go_wp2
  generalize hA : w.alloc (.cells #[.int .i64 a0, .int .i64 a1, .int .i64 a2, .int .i64 a3, .int .i64 a4, .int .i64 a5, .int .i64 a6] 40) = A at *
  obtain ⟨hsA, hbA, hAR⟩ := below_of hA
  clear hA
  have hrA := hr.keep hbA
  have HBA := Go.Proofs.YtpaakikgfojplaaGreat.hid hbA
  have hxw : w.heap.size < A.heap.size := by omega
  clear hr hbA hsA
  go_loopw [8] (fun i wr => ∃ k : Nat, k ≤ ns.length ∧ i = .int .i64 k ∧ Hid ((ns.take k).find? (fun n : Nd => (n.par == parent) && eqH n.hdr ⟨a0, a1, a2, a3, a4, a5, a6⟩) = none) ∧ Below A.heap.size A wr) (fun i _ => ns.length - (intOf i).toNat)
  case atStart => exact ⟨0, Nat.zero_le _, rfl, rfl, Below.refl _ _⟩
  case round =>
    obtain ⟨k, hk, rfl, HN, hbel⟩ := hrel
    have hrr := hrA.keep hbel
    have hsz := hbel.size
    have c8 := cell_of_cells (j := 8) hrr.blk rfl
    by_cases hlt : k < ns.length
    · have hnr := hrr.node hlt
      have HST := Go.Proofs.YtpaakikgfojplaaGreat.hid ((find_step (fun n : Nd => (n.par == parent) && eqH n.hdr ⟨a0, a1, a2, a3, a4, a5, a6⟩) ns zeroN k hlt).trans (by rw [HN.out]))
      have hAw : wr.heap[w.heap.size]? = _ := (hbel.block _ hxw).trans hAR
      have p0 := cell_of_cells (j := 0) hAw rfl
      have p1 := cell_of_cells (j := 1) hAw rfl
      have p2 := cell_of_cells (j := 2) hAw rfl
      have p3 := cell_of_cells (j := 3) hAw rfl
      have p4 := cell_of_cells (j := 4) hAw rfl
      have p5 := cell_of_cells (j := 5) hAw rfl
      have p6 := cell_of_cells (j := 6) hAw rfl
      clear HN
      generalize ns.getD k zeroN = n at *
      obtain ⟨nid, npar, nht, ⟨b0, b1, b2, b3, b4, b5, b6⟩, npg⟩ := n
      have cn : wr.cell? ⟨gk, k * 37, none⟩ = some (.int .i64 nid) := hnr 0 _ rfl
      have ci : wr.cell? ⟨gk, k * 37 + 1, none⟩ = some (.int .i64 npar) := hnr 1 _ rfl
      have h0 : wr.cell? ⟨gk, k * 37 + 3, none⟩ = some (.int .i64 b0) := hnr 3 _ rfl
      have h1 : wr.cell? ⟨gk, k * 37 + 4, none⟩ = some (.int .i64 b1) := hnr 4 _ rfl
      have h2 : wr.cell? ⟨gk, k * 37 + 5, none⟩ = some (.int .i64 b2) := hnr 5 _ rfl
      have h3 : wr.cell? ⟨gk, k * 37 + 6, none⟩ = some (.int .i64 b3) := hnr 6 _ rfl
      have h4 : wr.cell? ⟨gk, k * 37 + 7, none⟩ = some (.int .i64 b4) := hnr 7 _ rfl
      have h5 : wr.cell? ⟨gk, k * 37 + 8, none⟩ = some (.int .i64 b5) := hnr 8 _ rfl
      have h6 : wr.cell? ⟨gk, k * 37 + 9, none⟩ = some (.int .i64 b6) := hnr 9 _ rfl
      have i1 : (0 : Int) ≤ (k : Int) := by omega
      have i2 : (k : Int) < ((ns.length : Nat) : Int) := by omega
      simp only at HST
      clear hnr hrr hAw
      cases hq : (npar == parent)
      · have HN2 : Hid ((ns.take (k + 1)).find? (fun n : Nd => (n.par == parent) && eqH n.hdr ⟨a0, a1, a2, a3, a4, a5, a6⟩) = none) := HST.out.trans (by simp [hq])
        clear HST
        go_wp2
        go_quiet (fail)
        go_wp2
        go_roundw
        case rel => exact ⟨k + 1, by omega, by go_num, HN2, drawB hbel _⟩
        case measure => simp [intOf]; omega
      · cases hee : eqH ⟨b0, b1, b2, b3, b4, b5, b6⟩ ⟨a0, a1, a2, a3, a4, a5, a6⟩
        · have HN2 : Hid ((ns.take (k + 1)).find? (fun n : Nd => (n.par == parent) && eqH n.hdr ⟨a0, a1, a2, a3, a4, a5, a6⟩) = none) := HST.out.trans (by simp [hq, hee])
          clear HST
          go_wp2
          go_quiet (fail)
          go_wp2
          go_roundw
          case rel => exact ⟨k + 1, by omega, by go_num, HN2, drawB hbel _⟩
          case measure => simp [intOf]; omega
        · have hfd : ns.find? (fun n : Nd => (n.par == parent) && eqH n.hdr ⟨a0, a1, a2, a3, a4, a5, a6⟩) = some ⟨nid, npar, nht, ⟨b0, b1, b2, b3, b4, b5, b6⟩, npg⟩ := find_done _ ns (k + 1) _ (HST.out.trans (by simp [hq, hee]))
          have hfv : FV = true := HFF.out.trans (by rw [hfd]; rfl)
          have hft : FT = nid := HFT.out.symm.trans (by unfold twinN; rw [hfd]; rfl)
          clear HST HFF HFT hfd
          subst hfv
          subst hft
          have HB := Go.Proofs.YtpaakikgfojplaaGreat.hid (HBA.out.trans (hbel.mono (by omega)))
          go_wp2
          go_quiet (fail)
          go_wp2
          go_ret2
          exact ⟨rfl, drawB HB.out _⟩
    · have hkk : k = ns.length := by omega
      have hfd := HN.out
      rw [hkk, List.take_length] at hfd
      have hfv : FV = false := HFF.out.trans (by rw [hfd]; rfl)
      have hft : FT = 0 := HFT.out.symm.trans (by unfold twinN; rw [hfd]; rfl)
      have HB := Go.Proofs.YtpaakikgfojplaaGreat.hid (HBA.out.trans (hbel.mono (by omega)))
      clear HN HFF HFT hfd hrr hbel
      subst hfv
      subst hft
      go_wp2
      go_ret2
      exact ⟨rfl, HB.out⟩

end Go.Proofs.YtpaakikgfojplaaGreat

/-
  THE WALKS of the program's tree: tip.
-/
namespace Go.Proofs.YtpaakikgfojplaaGreat
open Go.RowKit Num Bk
set_option linter.unusedVariables false

theorem range_below {W wr : World} {B g o : Nat} {cs : List Value} (hb : Below B W wr) (hg : g < B) (h : W.rangeAt g o cs) : wr.rangeAt g o cs := fun j v hv => (hb.cell (p := ⟨g, o + j, none⟩) hg).trans (h j v hv)

def bestN (l : List Nd) (k : Nat) : Nd := ((l.take k).tail).foldl (fun best n => if best.height < n.height then n else best) (l.headD zeroN)

theorem bestN_one (l : List Nd) : bestN l 1 = l.headD zeroN := by
  cases l <;> rfl
theorem bestN_step (l : List Nd) (k : Nat) (h1 : 1 ≤ k) (h : k < l.length) : bestN l (k + 1) = if (bestN l k).height < (l.getD k zeroN).height then l.getD k zeroN else bestN l k := by
  have e : l.take (k + 1) = l.take k ++ [l.getD k zeroN] := by
    rw [List.take_succ_eq_append_getElem h]
    simp [List.getD, h]
  unfold bestN
  rw [e, List.tail_append_of_ne_nil (List.ne_nil_of_length_pos (by rw [List.length_take]; omega)), List.foldl_append]
  rfl
theorem bestN_end (l : List Nd) : bestN l l.length = tipN l := by unfold bestN tipN; rw [List.take_length]

def bestZ (l : List Nd) (k : Nat) : Nd := if k = 0 then zeroN else bestN l k
theorem bestZ_one (l : List Nd) (h : 0 < l.length) : l.getD 0 zeroN = bestZ l (0 + 1) := by
  unfold bestZ
  rw [if_neg (by omega), bestN_one]
  cases l <;> rfl
theorem bestZ_step (l : List Nd) (k : Nat) (h1 : ¬ k = 0) (h : k < l.length) : bestZ l (k + 1) = if (bestZ l k).height < (l.getD k zeroN).height then l.getD k zeroN else bestZ l k := by
  unfold bestZ
  rw [if_neg (by omega), if_neg h1]
  exact bestN_step l k (by omega) h
theorem bestZ_end (l : List Nd) : bestZ l l.length = tipN l := by
  unfold bestZ
  cases l with
  | nil => rfl
  | cons a l => rw [if_neg (by simp)]; exact bestN_end _

set_option maxHeartbeats 3200000 in
set_option maxRecDepth 1000000 in
theorem ttip_is (x gk ck : Nat) (pv : Value) {ps : List Nat} (p : Par) (acc : Int) (ns : List Nd) (past : List Nat) (w : World) (hr : ChAt w x gk ck pv ps p acc ns past) (hl : ns.length ≤ 100) (hl1 : 1 ≤ ns.length) :
    Calls Tryz.prog 84 #[.pointer (some ⟨x, 5, none⟩)] w fun e w' => e = .returned (ndV (tipN ns)) ∧ Below w.heap.size w w' := by
  unfold ndV
  generalize hFV : tipN ns = FV at *
  have HFV := Go.Proofs.YtpaakikgfojplaaGreat.hid hFV
  clear hFV
  go_enter Tryz.func84, Tryz.ntmps84
  go_upto_region 1 with fail
  generalize hA : w.alloc (.cells #[.int .i64 0, .int .i64 0, .int .i64 0, .int .i64 0, .int .i64 0, .int .i64 0, .int .i64 0, .int .i64 0, .int .i64 0, .int .i64 0, .int .i64 0, .int .i64 0, .int .i64 0, .int .i64 0, .int .i64 0, .int .i64 0, .int .i64 0, .int .i64 0, .int .i64 0, .int .i64 0, .int .i64 0, .int .i64 0, .int .i64 0, .int .i64 0, .int .i64 0, .int .i64 0, .int .i64 0, .int .i64 0, .int .i64 0, .int .i64 0, .int .i64 0, .int .i64 0, .int .i64 0, .int .i64 0, .int .i64 0, .int .i64 0, .int .i64 0] 95) = A at *
  obtain ⟨hsA, hbA, hAR⟩ := below_of hA
  clear hA
  have hrA := hr.keep hbA
  have HAR : Hid (A.heap[w.heap.size]? = some (.cells (ndA zeroN) 95 (0, 0))) := hAR
  have HBA := Go.Proofs.YtpaakikgfojplaaGreat.hid hbA
  have hxw : w.heap.size < A.heap.size := by omega
  clear hr hAR hbA hsA
  go_upto_region 2 with (refine wpList_store_row rfl 95 _ _ rfl A.heap.size (ndA zeroN) rfl rfl 95 (ndA zeroN) (heap_alloc_new A _) (info_nodeA _) rfl (nd_one _) ?_)
  generalize hW : (A.alloc (.cells #[.int .i64 0, .int .i64 0, .int .i64 0, .int .i64 0, .int .i64 0, .int .i64 0, .int .i64 0, .int .i64 0, .int .i64 0, .int .i64 0, .int .i64 0, .int .i64 0, .int .i64 0, .int .i64 0, .int .i64 0, .int .i64 0, .int .i64 0, .int .i64 0, .int .i64 0, .int .i64 0, .int .i64 0, .int .i64 0, .int .i64 0, .int .i64 0, .int .i64 0, .int .i64 0, .int .i64 0, .int .i64 0, .int .i64 0, .int .i64 0, .int .i64 0, .int .i64 0, .int .i64 0, .int .i64 0, .int .i64 0, .int .i64 0, .int .i64 0] 95)).setRow A.heap.size (ndA zeroN) = W at *
  obtain ⟨hsW, hbW, hWR⟩ := row_new hW
  clear hW
  generalize hB : A.heap.size = B at *
  have hrW := hrA.keep (by rw [hB]; exact hbW)
  have hWA : W.heap[w.heap.size]? = some (.cells (ndA zeroN) 95 (0, 0)) := (hbW.block _ hxw).trans HAR.out
  have HBW := Go.Proofs.YtpaakikgfojplaaGreat.hid (HBA.out.trans (hbW.mono (by omega)))
  have hxB : x < B := by rw [← hB]; exact lt_of_block hrA.blk
  have hgB : gk < B := by rw [← hB]; exact own_lt hrA.kep
  clear hrA HAR HBA hbW hB
  go_wp2
  go_loopw [4] (fun i wr => ∃ k : Nat, k ≤ ns.length ∧ i = .int .i64 k ∧ ∃ b, Hid (b = bestZ ns k) ∧ wr.heap[B]? = some (.cells (ndA b) 95 (0, 0)) ∧ wr.heap[w.heap.size]? = some (.cells (ndA zeroN) 95 (0, 0)) ∧ Below B W wr) (fun i _ => ns.length - (intOf i).toNat)
  case atStart => exact ⟨0, Nat.zero_le _, rfl, zeroN, rfl, hWR, hWA, Below.refl _ _⟩
  case round =>
    obtain ⟨k, hk, rfl, b, HBN, hRB, hRZ, hbel⟩ := hrel
    have hBW : B < W.heap.size := lt_of_block hWR
    have hblk : wr.heap[x]? = _ := (hbel.block x hxB).trans hrW.blk
    have c8 := cell_of_cells (j := 8) hblk rfl
    by_cases hlt : k < ns.length
    · have hnr := range_below hbel hgB (hrW.node hlt)
      by_cases hk0 : k = 0
      · have HN2 := Go.Proofs.YtpaakikgfojplaaGreat.hid (bestZ_one ns (by omega))
        clear HBN
        subst hk0
        generalize ns.getD 0 zeroN = n at *
        have HNR : Hid (∀ nq, (wr.drewN nq).rangeAt gk (0 * 37) (ndC n)) := fun _ => hnr
        have HRB : Hid (∀ nq, (wr.drewN nq).heap[B]? = some (.cells (ndA b) 95 (0, 0))) := fun _ => hRB
        have i2 : (0 : Int) < ((ns.length : Nat) : Int) := by omega
        have HRZ := Go.Proofs.YtpaakikgfojplaaGreat.hid hRZ
        have HBL := Go.Proofs.YtpaakikgfojplaaGreat.hid hbel
        clear hnr hRB hRZ hbel hblk
        rw [show ((0 : Nat) : Int) = 0 from rfl]
        go_wp2
        go_quiet (fail)
        go_wp2_with (first | refine wpList_load_mid rfl 95 _ rfl gk (0 * 37) rfl (ndC n) _ (HNR.out _) Tryz.underlying95 rfl (info_node _) ?_ | refine wpList_store_row rfl 95 _ _ rfl B (ndA n) rfl rfl 95 (ndA b) (HRB.out _) (info_nodeA _) rfl (nd_one _) ?_)
        go_roundw
        case rel =>
          exact ⟨0 + 1, by omega, by go_num, n, HN2, setRow_heap _ _ _ _ _ _ (HRB.out _), (setRow_other _ _ _ _ (by omega)).trans HRZ.out, Below.setRow (drawB HBL.out _) (Nat.le_refl _) _⟩
        case measure => simp [intOf]; omega
      · have HST := Go.Proofs.YtpaakikgfojplaaGreat.hid (bestZ_step ns k hk0 hlt)
        rw [← HBN.out] at HST
        clear HBN
        generalize ns.getD k zeroN = n at *
        have cn : wr.cell? ⟨gk, k * 37 + 2, none⟩ = some (.int .i64 n.height) := hnr 2 _ rfl
        have cb : wr.cell? ⟨B, 2, none⟩ = some (.int .i64 b.height) := cell_of_cells (j := 2) hRB rfl
        have HNR : Hid (∀ nq, (wr.drewN nq).rangeAt gk (k * 37) (ndC n)) := fun _ => hnr
        have HRB : Hid (∀ nq, (wr.drewN nq).heap[B]? = some (.cells (ndA b) 95 (0, 0))) := fun _ => hRB
        have i1 : (0 : Int) ≤ (k : Int) := by omega
        have i2 : (k : Int) < ((ns.length : Nat) : Int) := by omega
        have i3 : ((k : Int) == 0) = false := by rw [beq_eq_false_iff_ne]; omega
        have HRZ := Go.Proofs.YtpaakikgfojplaaGreat.hid hRZ
        have HBL := Go.Proofs.YtpaakikgfojplaaGreat.hid hbel
        clear hnr hRB hRZ hbel hblk
        by_cases hh : b.height < n.height
        · have HN2 : Hid (n = bestZ ns (k + 1)) := (HST.out.trans (if_pos hh)).symm
          clear HST
          go_wp2
          go_quiet (fail)
          go_wp2_with (first | refine wpList_load_mid rfl 95 _ rfl gk (k * 37) rfl (ndC n) _ (HNR.out _) Tryz.underlying95 rfl (info_node _) ?_ | refine wpList_store_row rfl 95 _ _ rfl B (ndA n) rfl rfl 95 (ndA b) (HRB.out _) (info_nodeA _) rfl (nd_one _) ?_)
          go_roundw
          case rel =>
            exact ⟨k + 1, by omega, by go_num, n, HN2, setRow_heap _ _ _ _ _ _ (HRB.out _), (setRow_other _ _ _ _ (by omega)).trans HRZ.out, Below.setRow (drawB HBL.out _) (Nat.le_refl _) _⟩
          case measure => simp [intOf]; omega
        · have HN2 : Hid (b = bestZ ns (k + 1)) := (HST.out.trans (if_neg hh)).symm
          clear HST
          go_wp2
          go_quiet (fail)
          go_wp2
          go_roundw
          case rel => exact ⟨k + 1, by omega, by go_num, b, HN2, HRB.out _, HRZ.out, drawB HBL.out _⟩
          case measure => simp [intOf]; omega
    · have hkk : k = ns.length := by omega
      have hfv : FV = b := by rw [← HFV.out, HBN.out, hkk, bestZ_end]
      have HRB := Go.Proofs.YtpaakikgfojplaaGreat.hid hRB
      have HRZ := Go.Proofs.YtpaakikgfojplaaGreat.hid hRZ
      have HBL := Go.Proofs.YtpaakikgfojplaaGreat.hid (HBW.out.trans (hbel.mono (by omega)))
      clear HBN HFV hRB hRZ hbel hblk
      subst hfv
      go_wp2_with (first | refine wpList_load_row rfl 95 _ rfl B rfl 95 (ndA FV) (0, 0) _ HRB.out Tryz.underlying95 rfl (info_nodeA _) ?_ | refine wpList_store_row rfl 95 _ _ rfl w.heap.size (ndA FV) rfl rfl 95 (ndA zeroN) HRZ.out (info_nodeA _) rfl (nd_one _) ?_)
      refine bodyPost_ret (results_cell_row rfl _ _ w.heap.size 95 (ndA FV) (0, 0) _ rfl (setRow_heap _ _ _ _ _ _ HRZ.out) Tryz.underlying95 rfl (info_nodeA _)) rfl ⟨rfl, Below.setRow HBL.out (Nat.le_refl _) _⟩

end Go.Proofs.YtpaakikgfojplaaGreat

