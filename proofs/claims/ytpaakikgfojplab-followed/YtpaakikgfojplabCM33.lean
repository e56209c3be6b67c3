import Derived.Test.YtpaakikgfojplabCTr1
/-
  THE WALKS of the program's tree: isAmong, has, tip.
-/
namespace Go.Proofs.Ytpaakikgfojplab
open Go.RowKit Num Bk
set_option linter.unusedVariables false

theorem any_step {α : Type} (P : α → Bool) (l : List α) (z : α) (k : Nat) (h : k < l.length) (hn : (l.take k).any P = false) : (l.take (k + 1)).any P = P (l.getD k z) := by
  have e : l.take (k + 1) = l.take k ++ [l.getD k z] := by
    rw [List.take_succ_eq_append_getElem h]
    simp [List.getD, h]
  rw [e, List.any_append, hn]
  simp
theorem any_done {α : Type} (P : α → Bool) (l : List α) (z : α) (k : Nat) (h : k < l.length) (hp : P (l.getD k z) = true) : l.any P = true := by
  rw [List.any_eq_true]
  exact ⟨l.getD k z, by rw [show l.getD k z = l[k] from by simp [List.getD, h]]; exact List.getElem_mem h, hp⟩

set_option maxHeartbeats 3200000 in
set_option maxRecDepth 1000000 in
theorem among_is (base gk ck : Nat) (ns : List Nd) (id : Int) (w : World) (hr : w.ownsRow base 89 37 (.slice (some ⟨gk, 0, none⟩) ns.length ck) ns.length (nsC ns)) (hl : ns.length ≤ 100) :
    Calls Try.prog 89 #[.slice (some ⟨gk, 0, none⟩) ns.length ck, .int .i64 id] w fun e w' => e = .returned (.bool (amongN ns id)) ∧ w = w' := by
  generalize hFV : amongN ns id = FV at *
  have HFV := Go.Proofs.Ytpaakikgfojplab.hid hFV
  clear hFV
  go_enter Try.func89, Try.ntmps89
  go_wp2
  go_loopw [5] (fun i wr => ∃ k : Nat, k ≤ ns.length ∧ i = .int .i64 k ∧ Hid (amongN (ns.take k) id = false) ∧ wr = w) (fun i _ => ns.length - (intOf i).toNat)
  case atStart => exact ⟨0, Nat.zero_le _, rfl, rfl, rfl⟩
  case round =>
    obtain ⟨k, hk, rfl, HN, rfl⟩ := hrel
    by_cases hlt : k < ns.length
    · have hnr := row_node hr hlt
      have HST := Go.Proofs.Ytpaakikgfojplab.hid (any_step (fun n : Nd => n.id == id) ns zeroN k hlt HN.out)
      have HDN := Go.Proofs.Ytpaakikgfojplab.hid (any_done (fun n : Nd => n.id == id) ns zeroN k hlt)
      clear HN
      generalize ns.getD k zeroN = n at *
      have ci : wr.cell? ⟨gk, k * 37, none⟩ = some (.int .i64 n.id) := hnr 0 _ rfl
      have i1 : (0 : Int) ≤ (k : Int) := by omega
      have i2 : (k : Int) < ((ns.length : Nat) : Int) := by omega
      clear hnr
      cases hq : (n.id == id)
      · have HN2 : Hid (amongN (ns.take (k + 1)) id = false) := HST.out.trans hq
        clear HST HDN
        go_wp2
        go_roundw
        case rel => exact ⟨k + 1, by omega, by go_num, HN2, trivial⟩
        case measure => simp [intOf]; omega
      · have hfv : FV = true := HFV.out.symm.trans (HDN.out hq)
        clear HST HDN HFV
        subst hfv
        go_wp2
        go_ret
        exact ⟨rfl, rfl⟩
    · have hkk : k = ns.length := by omega
      have hfv : FV = false := by have := HN.out; rw [hkk, List.take_length] at this; exact HFV.out.symm.trans this
      clear HN HFV
      subst hfv
      go_wp2
      go_ret
      exact ⟨rfl, rfl⟩

attribute [local go_sem ↓] run_eql_hdr

set_option maxHeartbeats 3200000 in
set_option maxRecDepth 1000000 in
theorem twin_is (x gk ck : Nat) (pv : Value) {ps : List Nat} (p : Par) (acc : Int) (ns : List Nd) (past : List Nat) (parent : Int) (h : Hdr) (w : World) (hr : ChAt w x gk ck pv ps p acc ns past) (hl : ns.length ≤ 100) :
    Calls Try.prog 78 #[.pointer (some ⟨x, 5, none⟩), .int .i64 parent, hdrV h] w fun e w' => e = .returned (.tuple #[.int .i64 (twinN ns parent h), .bool (hasN ns parent h)]) ∧ Below w.heap.size w w' := by
  obtain ⟨a0, a1, a2, a3, a4, a5, a6⟩ := h
  unfold hdrV
  have HFF := Go.Proofs.Ytpaakikgfojplab.hid (hasN_find ns parent ⟨a0, a1, a2, a3, a4, a5, a6⟩)
  generalize hFV : hasN ns parent ⟨a0, a1, a2, a3, a4, a5, a6⟩ = FV at *
  generalize hFT : twinN ns parent ⟨a0, a1, a2, a3, a4, a5, a6⟩ = FT at *
  have HFT := Go.Proofs.Ytpaakikgfojplab.hid hFT
  clear hFV hFT
  simp only
  go_enter Try.func78, Try.ntmps78
  go_wp2
  generalize hA : w.alloc (.cells #[.int .i64 a0, .int .i64 a1, .int .i64 a2, .int .i64 a3, .int .i64 a4, .int .i64 a5, .int .i64 a6] 42) = A at *
  obtain ⟨hsA, hbA, hAR⟩ := below_of hA
  clear hA
  have hrA := hr.keep hbA
  have HBA := Go.Proofs.Ytpaakikgfojplab.hid hbA
  have hxw : w.heap.size < A.heap.size := by omega
  clear hr hbA hsA
  go_loopw [8] (fun i wr => ∃ k : Nat, k ≤ ns.length ∧ i = .int .i64 k ∧ Hid ((ns.take k).find? (fun n : Nd => (n.par == parent) && eqH n.hdr ⟨a0, a1, a2, a3, a4, a5, a6⟩) = none) ∧ Below A.heap.size A wr) (fun i _ => ns.length - (intOf i).toNat)
  case atStart => exact ⟨0, Nat.zero_le _, rfl, rfl, Below.refl _ _⟩
  case round =>
    obtain ⟨k, hk, rfl, HN, hbel⟩ := hrel
    have hrr := hrA.keep hbel
    have hsz := hbel.size
    have c8 := cell_of_cells (j := 8) hrr.blk rfl
    by_cases hlt : k < ns.length
    · have hnr := hrr.node hlt
      have HST := Go.Proofs.Ytpaakikgfojplab.hid ((find_step (fun n : Nd => (n.par == parent) && eqH n.hdr ⟨a0, a1, a2, a3, a4, a5, a6⟩) ns zeroN k hlt).trans (by rw [HN.out]))
      have hAw : wr.heap[w.heap.size]? = _ := (hbel.block _ hxw).trans hAR
      have p0 := cell_of_cells (j := 0) hAw rfl
      have p1 := cell_of_cells (j := 1) hAw rfl
      have p2 := cell_of_cells (j := 2) hAw rfl
      have p3 := cell_of_cells (j := 3) hAw rfl
      have p4 := cell_of_cells (j := 4) hAw rfl
      have p5 := cell_of_cells (j := 5) hAw rfl
      have p6 := cell_of_cells (j := 6) hAw rfl
      clear HN
      generalize ns.getD k zeroN = n at *
      obtain ⟨nid, npar, nht, ⟨b0, b1, b2, b3, b4, b5, b6⟩, npg⟩ := n
      have cn : wr.cell? ⟨gk, k * 37, none⟩ = some (.int .i64 nid) := hnr 0 _ rfl
      have ci : wr.cell? ⟨gk, k * 37 + 1, none⟩ = some (.int .i64 npar) := hnr 1 _ rfl
      have h0 : wr.cell? ⟨gk, k * 37 + 3, none⟩ = some (.int .i64 b0) := hnr 3 _ rfl
      have h1 : wr.cell? ⟨gk, k * 37 + 4, none⟩ = some (.int .i64 b1) := hnr 4 _ rfl
      have h2 : wr.cell? ⟨gk, k * 37 + 5, none⟩ = some (.int .i64 b2) := hnr 5 _ rfl
      have h3 : wr.cell? ⟨gk, k * 37 + 6, none⟩ = some (.int .i64 b3) := hnr 6 _ rfl
      have h4 : wr.cell? ⟨gk, k * 37 + 7, none⟩ = some (.int .i64 b4) := hnr 7 _ rfl
      have h5 : wr.cell? ⟨gk, k * 37 + 8, none⟩ = some (.int .i64 b5) := hnr 8 _ rfl
      have h6 : wr.cell? ⟨gk, k * 37 + 9, none⟩ = some (.int .i64 b6) := hnr 9 _ rfl
      have i1 : (0 : Int) ≤ (k : Int) := by omega
      have i2 : (k : Int) < ((ns.length : Nat) : Int) := by omega
      simp only at HST
      clear hnr hrr hAw
      cases hq : (npar == parent)
      · have HN2 : Hid ((ns.take (k + 1)).find? (fun n : Nd => (n.par == parent) && eqH n.hdr ⟨a0, a1, a2, a3, a4, a5, a6⟩) = none) := HST.out.trans (by simp [hq])
        clear HST
        go_wp2
        go_quiet (fail)
        go_wp2
        go_roundw
        case rel => exact ⟨k + 1, by omega, by go_num, HN2, drawB hbel _⟩
        case measure => simp [intOf]; omega
      · cases hee : eqH ⟨b0, b1, b2, b3, b4, b5, b6⟩ ⟨a0, a1, a2, a3, a4, a5, a6⟩
        · have HN2 : Hid ((ns.take (k + 1)).find? (fun n : Nd => (n.par == parent) && eqH n.hdr ⟨a0, a1, a2, a3, a4, a5, a6⟩) = none) := HST.out.trans (by simp [hq, hee])
          clear HST
          go_wp2
          go_quiet (fail)
          go_wp2
          go_roundw
          case rel => exact ⟨k + 1, by omega, by go_num, HN2, drawB hbel _⟩
          case measure => simp [intOf]; omega
        · have hfd : ns.find? (fun n : Nd => (n.par == parent) && eqH n.hdr ⟨a0, a1, a2, a3, a4, a5, a6⟩) = some ⟨nid, npar, nht, ⟨b0, b1, b2, b3, b4, b5, b6⟩, npg⟩ := find_done _ ns (k + 1) _ (HST.out.trans (by simp [hq, hee]))
          have hfv : FV = true := HFF.out.trans (by rw [hfd]; rfl)
          have hft : FT = nid := HFT.out.symm.trans (by unfold twinN; rw [hfd]; rfl)
          clear HST HFF HFT hfd
          subst hfv
          subst hft
          have HB := Go.Proofs.Ytpaakikgfojplab.hid (HBA.out.trans (hbel.mono (by omega)))
          go_wp2
          go_quiet (fail)
          go_wp2
          go_ret2
          exact ⟨rfl, drawB HB.out _⟩
    · have hkk : k = ns.length := by omega
      have hfd := HN.out
      rw [hkk, List.take_length] at hfd
      have hfv : FV = false := HFF.out.trans (by rw [hfd]; rfl)
      have hft : FT = 0 := HFT.out.symm.trans (by unfold twinN; rw [hfd]; rfl)
      have HB := Go.Proofs.Ytpaakikgfojplab.hid (HBA.out.trans (hbel.mono (by omega)))
      clear HN HFF HFT hfd hrr hbel
      subst hfv
      subst hft
      go_wp2
      go_ret2
      exact ⟨rfl, HB.out⟩

end Go.Proofs.Ytpaakikgfojplab

/-
  THE WALKS of the program's tree: tip.
-/
namespace Go.Proofs.Ytpaakikgfojplab
open Go.RowKit Num Bk
set_option linter.unusedVariables false

theorem range_below {W wr : World} {B g o : Nat} {cs : List Value} (hb : Below B W wr) (hg : g < B) (h : W.rangeAt g o cs) : wr.rangeAt g o cs := fun j v hv => (hb.cell (p := ⟨g, o + j, none⟩) hg).trans (h j v hv)

def bestN (l : List Nd) (k : Nat) : Nd := ((l.take k).tail).foldl (fun best n => if best.height < n.height then n else best) (l.headD zeroN)

theorem bestN_one (l : List Nd) : bestN l 1 = l.headD zeroN := by
  cases l <;> rfl
theorem bestN_step (l : List Nd) (k : Nat) (h1 : 1 ≤ k) (h : k < l.length) : bestN l (k + 1) = if (bestN l k).height < (l.getD k zeroN).height then l.getD k zeroN else bestN l k := by
  have e : l.take (k + 1) = l.take k ++ [l.getD k zeroN] := by
    rw [List.take_succ_eq_append_getElem h]
    simp [List.getD, h]
  unfold bestN
  rw [e, List.tail_append_of_ne_nil (List.ne_nil_of_length_pos (by rw [List.length_take]; omega)), List.foldl_append]
  rfl
theorem bestN_end (l : List Nd) : bestN l l.length = tipN l := by unfold bestN tipN; rw [List.take_length]

def bestZ (l : List Nd) (k : Nat) : Nd := if k = 0 then zeroN else bestN l k
theorem bestZ_one (l : List Nd) (h : 0 < l.length) : l.getD 0 zeroN = bestZ l (0 + 1) := by
  unfold bestZ
  rw [if_neg (by omega), bestN_one]
  cases l <;> rfl
theorem bestZ_step (l : List Nd) (k : Nat) (h1 : ¬ k = 0) (h : k < l.length) : bestZ l (k + 1) = if (bestZ l k).height < (l.getD k zeroN).height then l.getD k zeroN else bestZ l k := by
  unfold bestZ
  rw [if_neg (by omega), if_neg h1]
  exact bestN_step l k (by omega) h
theorem bestZ_end (l : List Nd) : bestZ l l.length = tipN l := by
  unfold bestZ
  cases l with
  | nil => rfl
  | cons a l => rw [if_neg (by simp)]; exact bestN_end _

set_option maxHeartbeats 3200000 in
set_option maxRecDepth 1000000 in
theorem ttip_is (x gk ck : Nat) (pv : Value) {ps : List Nat} (p : Par) (acc : Int) (ns : List Nd) (past : List Nat) (w : World) (hr : ChAt w x gk ck pv ps p acc ns past) (hl : ns.length ≤ 100) (hl1 : 1 ≤ ns.length) :
    Calls Try.prog 60 #[.pointer (some ⟨x, 5, none⟩)] w fun e w' => e = .returned (ndV (tipN ns)) ∧ Below w.heap.size w w' := by
  unfold ndV
  generalize hFV : tipN ns = FV at *
  have HFV := Go.Proofs.Ytpaakikgfojplab.hid hFV
  clear hFV
  go_enter Try.func60, Try.ntmps60
  go_upto_region 1 with fail
  generalize hA : w.alloc (.cells #[.int .i64 0, .int .i64 0, .int .i64 0, .int .i64 0, .int .i64 0, .int .i64 0, .int .i64 0, .int .i64 0, .int .i64 0, .int .i64 0, .int .i64 0, .int .i64 0, .int .i64 0, .int .i64 0, .int .i64 0, .int .i64 0, .int .i64 0, .int .i64 0, .int .i64 0, .int .i64 0, .int .i64 0, .int .i64 0, .int .i64 0, .int .i64 0, .int .i64 0, .int .i64 0, .int .i64 0, .int .i64 0, .int .i64 0, .int .i64 0, .int .i64 0, .int .i64 0, .int .i64 0, .int .i64 0, .int .i64 0, .int .i64 0, .int .i64 0] 89) = A at *
  obtain ⟨hsA, hbA, hAR⟩ := below_of hA
  clear hA
  have hrA := hr.keep hbA
  have HAR : Hid (A.heap[w.heap.size]? = some (.cells (ndA zeroN) 89 (0, 0))) := hAR
  have HBA := Go.Proofs.Ytpaakikgfojplab.hid hbA
  have hxw : w.heap.size < A.heap.size := by omega
  clear hr hAR hbA hsA
  go_upto_region 2 with (refine wpList_store_row rfl 89 _ _ rfl A.heap.size (ndA zeroN) rfl rfl 89 (ndA zeroN) (heap_alloc_new A _) (info_nodeA _) rfl (nd_one _) ?_)
  generalize hW : (A.alloc (.cells #[.int .i64 0, .int .i64 0, .int .i64 0, .int .i64 0, .int .i64 0, .int .i64 0, .int .i64 0, .int .i64 0, .int .i64 0, .int .i64 0, .int .i64 0, .int .i64 0, .int .i64 0, .int .i64 0, .int .i64 0, .int .i64 0, .int .i64 0, .int .i64 0, .int .i64 0, .int .i64 0, .int .i64 0, .int .i64 0, .int .i64 0, .int .i64 0, .int .i64 0, .int .i64 0, .int .i64 0, .int .i64 0, .int .i64 0, .int .i64 0, .int .i64 0, .int .i64 0, .int .i64 0, .int .i64 0, .int .i64 0, .int .i64 0, .int .i64 0] 89)).setRow A.heap.size (ndA zeroN) = W at *
  obtain ⟨hsW, hbW, hWR⟩ := row_new hW
  clear hW
  generalize hB : A.heap.size = B at *
  have hrW := hrA.keep (by rw [hB]; exact hbW)
  have hWA : W.heap[w.heap.size]? = some (.cells (ndA zeroN) 89 (0, 0)) := (hbW.block _ hxw).trans HAR.out
  have HBW := Go.Proofs.Ytpaakikgfojplab.hid (HBA.out.trans (hbW.mono (by omega)))
  have hxB : x < B := by rw [← hB]; exact lt_of_block hrA.blk
  have hgB : gk < B := by rw [← hB]; exact own_lt hrA.kep
  clear hrA HAR HBA hbW hB
  go_wp2
  go_loopw [4] (fun i wr => ∃ k : Nat, k ≤ ns.length ∧ i = .int .i64 k ∧ ∃ b, Hid (b = bestZ ns k) ∧ wr.heap[B]? = some (.cells (ndA b) 89 (0, 0)) ∧ wr.heap[w.heap.size]? = some (.cells (ndA zeroN) 89 (0, 0)) ∧ Below B W wr) (fun i _ => ns.length - (intOf i).toNat)
  case atStart => exact ⟨0, Nat.zero_le _, rfl, zeroN, rfl, hWR, hWA, Below.refl _ _⟩
  case round =>
    obtain ⟨k, hk, rfl, b, HBN, hRB, hRZ, hbel⟩ := hrel
    have hBW : B < W.heap.size := lt_of_block hWR
    have hblk : wr.heap[x]? = _ := (hbel.block x hxB).trans hrW.blk
    have c8 := cell_of_cells (j := 8) hblk rfl
    by_cases hlt : k < ns.length
    · have hnr := range_below hbel hgB (hrW.node hlt)
      by_cases hk0 : k = 0
      · have HN2 := Go.Proofs.Ytpaakikgfojplab.hid (bestZ_one ns (by omega))
        clear HBN
        subst hk0
        generalize ns.getD 0 zeroN = n at *
        have HNR : Hid (∀ nq, (wr.drewN nq).rangeAt gk (0 * 37) (ndC n)) := fun _ => hnr
        have HRB : Hid (∀ nq, (wr.drewN nq).heap[B]? = some (.cells (ndA b) 89 (0, 0))) := fun _ => hRB
        have i2 : (0 : Int) < ((ns.length : Nat) : Int) := by omega
        have HRZ := Go.Proofs.Ytpaakikgfojplab.hid hRZ
        have HBL := Go.Proofs.Ytpaakikgfojplab.hid hbel
        clear hnr hRB hRZ hbel hblk
        rw [show ((0 : Nat) : Int) = 0 from rfl]
        go_wp2
        go_quiet (fail)
        go_wp2_with (first | refine wpList_load_mid rfl 89 _ rfl gk (0 * 37) rfl (ndC n) _ (HNR.out _) Try.underlying89 rfl (info_node _) ?_ | refine wpList_store_row rfl 89 _ _ rfl B (ndA n) rfl rfl 89 (ndA b) (HRB.out _) (info_nodeA _) rfl (nd_one _) ?_)
        go_roundw
        case rel =>
          exact ⟨0 + 1, by omega, by go_num, n, HN2, setRow_heap _ _ _ _ _ _ (HRB.out _), (setRow_other _ _ _ _ (by omega)).trans HRZ.out, Below.setRow (drawB HBL.out _) (Nat.le_refl _) _⟩
        case measure => simp [intOf]; omega
      · have HST := Go.Proofs.Ytpaakikgfojplab.hid (bestZ_step ns k hk0 hlt)
        rw [← HBN.out] at HST
        clear HBN
        generalize ns.getD k zeroN = n at *
        have cn : wr.cell? ⟨gk, k * 37 + 2, none⟩ = some (.int .i64 n.height) := hnr 2 _ rfl
        have cb : wr.cell? ⟨B, 2, none⟩ = some (.int .i64 b.height) := cell_of_cells (j := 2) hRB rfl
        have HNR : Hid (∀ nq, (wr.drewN nq).rangeAt gk (k * 37) (ndC n)) := fun _ => hnr
        have HRB : Hid (∀ nq, (wr.drewN nq).heap[B]? = some (.cells (ndA b) 89 (0, 0))) := fun _ => hRB
        have i1 : (0 : Int) ≤ (k : Int) := by omega
        have i2 : (k : Int) < ((ns.length : Nat) : Int) := by omega
        have i3 : ((k : Int) == 0) = false := by rw [beq_eq_false_iff_ne]; omega
        have HRZ := Go.Proofs.Ytpaakikgfojplab.hid hRZ
        have HBL := Go.Proofs.Ytpaakikgfojplab.hid hbel
        clear hnr hRB hRZ hbel hblk
        by_cases hh : b.height < n.height
        · have HN2 : Hid (n = bestZ ns (k + 1)) := (HST.out.trans (if_pos hh)).symm
          clear HST
          go_wp2
          go_quiet (fail)
          go_wp2_with (first | refine wpList_load_mid rfl 89 _ rfl gk (k * 37) rfl (ndC n) _ (HNR.out _) Try.underlying89 rfl (info_node _) ?_ | refine wpList_store_row rfl 89 _ _ rfl B (ndA n) rfl rfl 89 (ndA b) (HRB.out _) (info_nodeA _) rfl (nd_one _) ?_)
          go_roundw
          case rel =>
            exact ⟨k + 1, by omega, by go_num, n, HN2, setRow_heap _ _ _ _ _ _ (HRB.out _), (setRow_other _ _ _ _ (by omega)).trans HRZ.out, Below.setRow (drawB HBL.out _) (Nat.le_refl _) _⟩
          case measure => simp [intOf]; omega
        · have HN2 : Hid (b = bestZ ns (k + 1)) := (HST.out.trans (if_neg hh)).symm
          clear HST
          go_wp2
          go_quiet (fail)
          go_wp2
          go_roundw
          case rel => exact ⟨k + 1, by omega, by go_num, b, HN2, HRB.out _, HRZ.out, drawB HBL.out _⟩
          case measure => simp [intOf]; omega
    · have hkk : k = ns.length := by omega
      have hfv : FV = b := by rw [← HFV.out, HBN.out, hkk, bestZ_end]
      have HRB := Go.Proofs.Ytpaakikgfojplab.hid hRB
      have HRZ := Go.Proofs.Ytpaakikgfojplab.hid hRZ
      have HBL := Go.Proofs.Ytpaakikgfojplab.hid (HBW.out.trans (hbel.mono (by omega)))
      clear HBN HFV hRB hRZ hbel hblk
      subst hfv
      go_wp2_with (first | refine wpList_load_row rfl 89 _ rfl B rfl 89 (ndA FV) (0, 0) _ HRB.out Try.underlying89 rfl (info_nodeA _) ?_ | refine wpList_store_row rfl 89 _ _ rfl w.heap.size (ndA FV) rfl rfl 89 (ndA zeroN) HRZ.out (info_nodeA _) rfl (nd_one _) ?_)
      refine bodyPost_ret (results_cell_row rfl _ _ w.heap.size 89 (ndA FV) (0, 0) _ rfl (setRow_heap _ _ _ _ _ _ HRZ.out) Try.underlying89 rfl (info_nodeA _)) rfl ⟨rfl, Below.setRow HBL.out (Nat.le_refl _) _⟩

end Go.Proofs.Ytpaakikgfojplab

