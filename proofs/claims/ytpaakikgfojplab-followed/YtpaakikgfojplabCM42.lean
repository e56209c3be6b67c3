import Derived.Test.YtpaakikgfojplabCM35
import Derived.Test.YtpaakikgfojplabCM12
import Derived.Test.YtpaakikgfojplabCBc1
import Derived.Test.YtpaakikgfojplabCTr8
/-
  THE WALKS of the program's tree: Look.
-/
namespace Go.Proofs.Ytpaakikgfojplab
open Go.RowKit Num Bk
set_option linter.unusedVariables false

/-- What Look tells, by the node. -/
def bkA (h : Hdr) (q n : Int) : Array Value := #[.int .i64 h.slot, .int .i64 h.pool, .int .i64 h.proof, .int .i64 h.count, .int .i64 h.frm, .int .i64 h.dst, .int .i64 h.amount, .int .i64 q, .int .i64 n]
def lkA (o : Option Nd) : Array Value := match o with
  | none => bkA zeroH 0 0
  | some n => bkA n.hdr (if n.par = -1 then 0 else n.par) n.height
theorem info_blkA (h : Hdr) (q n : Int) : (Try.prog.info? 95).map (·.size) = some (bkA h q n).size := by
  show _ = some 9
  kernel_rfl
theorem bk_one (h : Hdr) (q n : Int) : (bkA h q n).all (·.oneCell') = true := all_oneCell_toArray (cs := (bkA h q n).toList) (by
  intro u hu
  simp only [bkA, List.mem_cons, List.not_mem_nil, or_false] at hu
  rcases hu with rfl | rfl | rfl | rfl | rfl | rfl | rfl | rfl | rfl <;> rfl)

set_option maxHeartbeats 3200000 in
set_option maxRecDepth 1000000 in
theorem tlook_is (x gk ck : Nat) (pv : Value) {ps : List Nat} (p : Par) (acc : Int) (ns : List Nd) (past : List Nat) (id : Int) (w : World) (hr : ChAt w x gk ck pv ps p acc ns past) (hl : ns.length ≤ 100) (hl2 : past.length ≤ 1000000) :
    Calls Try.prog 70 #[.pointer (some ⟨x, 5, none⟩), .int .i64 id] w fun e w' => e = .returned (.tuple #[.agg (lkA (findN ns id)), .int .i64 (findErr ns past id)]) ∧ Below w.heap.size w w' := by
  go_enter Try.func70, Try.ntmps70
  go_wp2_with fail
  generalize hA : w.alloc (.cells #[.int .i64 0, .int .i64 0, .int .i64 0, .int .i64 0, .int .i64 0, .int .i64 0, .int .i64 0, .int .i64 0, .int .i64 0] 95) = A at *
  obtain ⟨hsA, hbA, hAR⟩ := below_of hA
  clear hA
  refine (find_is x gk ck pv p acc ns past id A (hr.keep hbA) hl hl2).mono ?_
  rintro r w1 ⟨rfl, hb1⟩
  unfold ndV
  have hb1s := hb1.size
  have hR1 := (hb1.block w.heap.size (by omega)).trans hAR
  have hbw1 := hbA.trans (hb1.mono (by omega))
  clear hAR hb1 hbA hr
  generalize hFE : findErr ns past id = FE at *
  cases hf : findN ns id with
  | none =>
    have hne : FE ≠ 0 := by
      rw [← hFE, findN_none hf]; split <;> decide
    have hmb : (FE != 0) = true := by simp [hne]
    rw [show (none : Option Nd).getD zeroN = zeroN from rfl]
    go_upto_region 2 with (refine wpList_store_row rfl 89 _ _ rfl w1.heap.size (ndA zeroN) rfl rfl 89 (ndA zeroN) (heap_alloc_new w1 _) (info_nodeA _) rfl (nd_one _) ?_)
    generalize hW : (w1.alloc (.cells #[.int .i64 0, .int .i64 0, .int .i64 0, .int .i64 0, .int .i64 0, .int .i64 0, .int .i64 0, .int .i64 0, .int .i64 0, .int .i64 0, .int .i64 0, .int .i64 0, .int .i64 0, .int .i64 0, .int .i64 0, .int .i64 0, .int .i64 0, .int .i64 0, .int .i64 0, .int .i64 0, .int .i64 0, .int .i64 0, .int .i64 0, .int .i64 0, .int .i64 0, .int .i64 0, .int .i64 0, .int .i64 0, .int .i64 0, .int .i64 0, .int .i64 0, .int .i64 0, .int .i64 0, .int .i64 0, .int .i64 0, .int .i64 0, .int .i64 0] 89)).setRow w1.heap.size (ndA zeroN) = W at *
    obtain ⟨hsW, hbW, hWR⟩ := row_new hW
    clear hW
    have hRW : W.heap[w.heap.size]? = some (.cells (bkA zeroH 0 0) 95 (0, 0)) := (hbW.block _ (by omega)).trans hR1
    have HRW := Go.Proofs.Ytpaakikgfojplab.hid hRW
    have HBW := Go.Proofs.Ytpaakikgfojplab.hid (hbw1.trans (hbW.mono (by omega)))
    clear hWR hbW hR1 hbw1 hRW
    go_wp2_with (refine wpList_store_row rfl 95 _ _ rfl w.heap.size (bkA zeroH 0 0) rfl rfl 95 (bkA zeroH 0 0) HRW.out (info_blkA _ _ _) rfl (bk_one _ _ _) ?_)
    refine bodyPost_ret (results_ct rfl _ _ _ w.heap.size 95 (bkA zeroH 0 0) (0, 0) _ rfl (setRow_heap _ _ _ _ _ _ HRW.out) rfl Try.underlying95 (info_blkA _ _ _)) rfl ⟨by rw [hf, hFE]; rfl, Below.setRow HBW.out (Nat.le_refl _) _⟩
  | some n =>
    have hfe : FE = 0 := by rw [← hFE, findN_some hf]
    rw [hfe] at hFE
    subst hfe
    rw [show (some n : Option Nd).getD zeroN = n from rfl]
    go_upto_region 2 with (refine wpList_store_row rfl 89 _ _ rfl w1.heap.size (ndA n) rfl rfl 89 (ndA zeroN) (heap_alloc_new w1 _) (info_nodeA _) rfl (nd_one _) ?_)
    generalize hW : (w1.alloc (.cells #[.int .i64 0, .int .i64 0, .int .i64 0, .int .i64 0, .int .i64 0, .int .i64 0, .int .i64 0, .int .i64 0, .int .i64 0, .int .i64 0, .int .i64 0, .int .i64 0, .int .i64 0, .int .i64 0, .int .i64 0, .int .i64 0, .int .i64 0, .int .i64 0, .int .i64 0, .int .i64 0, .int .i64 0, .int .i64 0, .int .i64 0, .int .i64 0, .int .i64 0, .int .i64 0, .int .i64 0, .int .i64 0, .int .i64 0, .int .i64 0, .int .i64 0, .int .i64 0, .int .i64 0, .int .i64 0, .int .i64 0, .int .i64 0, .int .i64 0] 89)).setRow w1.heap.size (ndA n) = W at *
    obtain ⟨hsW, hbW, hWR⟩ := row_new hW
    clear hW
    have hRW : W.heap[w.heap.size]? = some (.cells (bkA zeroH 0 0) 95 (0, 0)) := (hbW.block _ (by omega)).trans hR1
    have HRW := Go.Proofs.Ytpaakikgfojplab.hid hRW
    have HBW := Go.Proofs.Ytpaakikgfojplab.hid (hbw1.trans (hbW.mono (by omega)))
    have hwW : w.heap.size < W.heap.size := lt_of_block hRW
    generalize w1.heap.size = B at *
    have n1 : W.cell? ⟨B, 1, none⟩ = some (.int .i64 n.par) := cell_of_cells (j := 1) hWR rfl
    have n2 : W.cell? ⟨B, 2, none⟩ = some (.int .i64 n.height) := cell_of_cells (j := 2) hWR rfl
    have n3 : W.cell? ⟨B, 3, none⟩ = some (.int .i64 n.hdr.slot) := cell_of_cells (j := 3) hWR rfl
    have n4 : W.cell? ⟨B, 4, none⟩ = some (.int .i64 n.hdr.pool) := cell_of_cells (j := 4) hWR rfl
    have n5 : W.cell? ⟨B, 5, none⟩ = some (.int .i64 n.hdr.proof) := cell_of_cells (j := 5) hWR rfl
    have n6 : W.cell? ⟨B, 6, none⟩ = some (.int .i64 n.hdr.count) := cell_of_cells (j := 6) hWR rfl
    have n7 : W.cell? ⟨B, 7, none⟩ = some (.int .i64 n.hdr.frm) := cell_of_cells (j := 7) hWR rfl
    have n8 : W.cell? ⟨B, 8, none⟩ = some (.int .i64 n.hdr.dst) := cell_of_cells (j := 8) hWR rfl
    have n9 : W.cell? ⟨B, 9, none⟩ = some (.int .i64 n.hdr.amount) := cell_of_cells (j := 9) hWR rfl
    have hBW := lt_of_block hWR
    have HF := Go.Proofs.Ytpaakikgfojplab.hid (show lkA (findN ns id) = bkA n.hdr (if n.par = -1 then 0 else n.par) n.height by rw [hf]; rfl)
    clear hWR hbW hR1 hbw1 hRW hf
    obtain ⟨ni, np', nh, ⟨h0, h1, h2, h3, h4, h5, h6⟩, ng⟩ := n
    by_cases hp : np' = -1
    · have hpb : (np' == -1) = true := by simp [hp]
      go_upto_region 7 with fail
      generalize hV : W.alloc (.cells #[.int .i64 h0, .int .i64 h1, .int .i64 h2, .int .i64 h3, .int .i64 h4, .int .i64 h5, .int .i64 h6, .int .i64 0, .int .i64 nh] 95) = V at *
      obtain ⟨hsV, hbV, hVR⟩ := below_of hV
      clear hV
      have HVR : Hid (V.heap[W.heap.size]? = some (.cells (bkA ⟨h0, h1, h2, h3, h4, h5, h6⟩ 0 nh) 95 (0, 0))) := hVR
      have HRV : Hid (V.heap[w.heap.size]? = some (.cells (bkA zeroH 0 0) 95 (0, 0))) := (hbV.block _ hwW).trans HRW.out
      have HBV := Go.Proofs.Ytpaakikgfojplab.hid (HBW.out.trans (hbV.mono (by omega)))
      have HF2 : Hid (lkA (findN ns id) = bkA ⟨h0, h1, h2, h3, h4, h5, h6⟩ 0 nh) := by
        have := HF.out
        simp only [hp, if_pos] at this
        exact this
      clear hVR hbV n1 n2 n3 n4 n5 n6 n7 n8 n9 HF HRW HBW
      go_wp2_with (first | refine wpList_load_row rfl 95 _ rfl W.heap.size rfl 95 (bkA ⟨h0, h1, h2, h3, h4, h5, h6⟩ 0 nh) (0, 0) _ HVR.out Try.underlying95 rfl (info_blkA _ _ _) ?_ | refine wpList_store_row rfl 95 _ _ rfl w.heap.size (bkA ⟨h0, h1, h2, h3, h4, h5, h6⟩ 0 nh) rfl rfl 95 (bkA zeroH 0 0) HRV.out (info_blkA _ _ _) rfl (bk_one _ _ _) ?_)
      refine bodyPost_ret (results_ct rfl _ _ _ w.heap.size 95 (bkA ⟨h0, h1, h2, h3, h4, h5, h6⟩ 0 nh) (0, 0) _ rfl (setRow_heap _ _ _ _ _ _ HRV.out) rfl Try.underlying95 (info_blkA _ _ _)) rfl ⟨by rw [HF2.out, hFE]; rfl, Below.setRow HBV.out (Nat.le_refl _) _⟩
    · have hpb : (np' == -1) = false := by simp [hp]
      go_upto_region 7 with fail
      generalize hV : W.alloc (.cells #[.int .i64 h0, .int .i64 h1, .int .i64 h2, .int .i64 h3, .int .i64 h4, .int .i64 h5, .int .i64 h6, .int .i64 np', .int .i64 nh] 95) = V at *
      obtain ⟨hsV, hbV, hVR⟩ := below_of hV
      clear hV
      have HVR : Hid (V.heap[W.heap.size]? = some (.cells (bkA ⟨h0, h1, h2, h3, h4, h5, h6⟩ np' nh) 95 (0, 0))) := hVR
      have HRV : Hid (V.heap[w.heap.size]? = some (.cells (bkA zeroH 0 0) 95 (0, 0))) := (hbV.block _ hwW).trans HRW.out
      have HBV := Go.Proofs.Ytpaakikgfojplab.hid (HBW.out.trans (hbV.mono (by omega)))
      have HF2 : Hid (lkA (findN ns id) = bkA ⟨h0, h1, h2, h3, h4, h5, h6⟩ np' nh) := by
        have := HF.out
        simp only [if_neg hp] at this
        exact this
      clear hVR hbV n1 n2 n3 n4 n5 n6 n7 n8 n9 HF HRW HBW
      go_wp2_with (first | refine wpList_load_row rfl 95 _ rfl W.heap.size rfl 95 (bkA ⟨h0, h1, h2, h3, h4, h5, h6⟩ np' nh) (0, 0) _ HVR.out Try.underlying95 rfl (info_blkA _ _ _) ?_ | refine wpList_store_row rfl 95 _ _ rfl w.heap.size (bkA ⟨h0, h1, h2, h3, h4, h5, h6⟩ np' nh) rfl rfl 95 (bkA zeroH 0 0) HRV.out (info_blkA _ _ _) rfl (bk_one _ _ _) ?_)
      refine bodyPost_ret (results_ct rfl _ _ _ w.heap.size 95 (bkA ⟨h0, h1, h2, h3, h4, h5, h6⟩ np' nh) (0, 0) _ rfl (setRow_heap _ _ _ _ _ _ HRV.out) rfl Try.underlying95 (info_blkA _ _ _)) rfl ⟨by rw [HF2.out, hFE]; rfl, Below.setRow HBV.out (Nat.le_refl _) _⟩

end Go.Proofs.Ytpaakikgfojplab

/-
  THE PROGRAM's CHAIN: Tip, Final, Kept, Path, Look.
-/
namespace Go.Proofs.Ytpaakikgfojplab
open Go.RowKit Num Bk
set_option linter.unusedVariables false

theorem tip_nd {s : St} (hi : Inv s) : tipN (s.keep.map (ndOf s.par s.all)) = ndOf s.par s.all (tip s) :=
  tipN_map _ _ _ (by intro e; have := hi.wk.kne; rw [e] at this; simp at this) hi.rise

theorem ids_keep (s : St) : IdsAre (s.keep.map (ndOf s.par s.all)) s.keep := by
  refine ⟨(List.length_map ..).symm, fun k hk => ?_⟩
  rw [List.length_map] at hk
  have : (s.keep.map (ndOf s.par s.all)).getD k zeroN = ndOf s.par s.all (s.keep.getD k 0) := by simp [List.getD, hk]
  rw [this]
  rfl

set_option maxHeartbeats 800000 in
theorem ptip_is (w : World) (x : Nat) (F : Nat → Prop) (s : St) (hR : RepP w x F s) (hi : Inv s) :
    Calls Try.prog 13 #[.pointer (some ⟨x, 0, none⟩)] w fun e w' => e = .returned (.int .i64 ((Bk.tip s : Nat) : Int)) ∧ Below w.heap.size w w' := by
  obtain ⟨gk, ck, pv, ⟨hr⟩, hF⟩ := hR
  have hks := keep_small hi
  have HT := Go.Proofs.Ytpaakikgfojplab.hid (tip_nd hi)
  go_enter Try.func13, Try.ntmps13
  go_wp2_with fail
  refine (ttipid_is x gk ck pv s.par _ _ _ w hr (by omega) (by omega)).mono ?_
  rintro e w1 ⟨rfl, hb1⟩
  rw [HT.out]
  clear hr
  go_wp2
  go_ret
  exact ⟨rfl, hb1⟩

set_option maxHeartbeats 800000 in
theorem pfinal_is (w : World) (x : Nat) (F : Nat → Prop) (s : St) (hR : RepP w x F s) (hi : Inv s) :
    Calls Try.prog 11 #[.pointer (some ⟨x, 0, none⟩)] w fun e w' => e = .returned (.int .i64 ((Bk.fin s : Nat) : Int)) ∧ Below w.heap.size w w' := by
  obtain ⟨gk, ck, pv, ⟨hr⟩, hF⟩ := hR
  have hks := keep_small hi
  have h0 : ((s.keep.map (ndOf s.par s.all)).getD 0 zeroN).id = ((fin s : Nat) : Int) := by
    obtain ⟨l, hl⟩ := head_fin hi
    rw [hl]; rfl
  have HT := Go.Proofs.Ytpaakikgfojplab.hid h0
  go_enter Try.func11, Try.ntmps11
  go_wp2_with fail
  refine (tfinal_is x gk ck pv s.par _ _ _ w hr (by omega) (by omega)).mono ?_
  rintro e w1 ⟨rfl, rfl⟩
  rw [HT.out]
  clear hr h0
  go_wp2
  go_ret
  exact ⟨rfl, Below.refl _ _⟩

set_option maxHeartbeats 800000 in
theorem pkept_is (w : World) (x : Nat) (F : Nat → Prop) (s : St) (hR : RepP w x F s) (hi : Inv s) :
    Calls Try.prog 49 #[.pointer (some ⟨x, 0, none⟩)] w fun e w' => ListOut w w' e s.keep := by
  obtain ⟨gk, ck, pv, ⟨hr⟩, hF⟩ := hR
  have hks := keep_small hi
  go_enter Try.func49, Try.ntmps49
  go_wp2_with fail
  refine (tkept_is x gk ck pv s.par _ _ _ s.keep w hr (by omega) (by omega) (ids_keep s)).mono ?_
  rintro e w1 ⟨g, cap, rfl, hown, hb1⟩
  clear hr
  go_wp2
  go_ret
  exact ⟨g, cap, rfl, hown, hb1⟩

set_option maxHeartbeats 800000 in
theorem ppath_is (w : World) (x : Nat) (F : Nat → Prop) (s : St) (hR : RepP w x F s) (hi : Inv s) :
    Calls Try.prog 10 #[.pointer (some ⟨x, 0, none⟩)] w fun e w' => ListOut w w' e (line s.all (Bk.tip s)) := by
  obtain ⟨gk, ck, pv, ⟨hr⟩, hF⟩ := hR
  have hks := keep_small hi
  have hls := line_small hi
  rw [List.length_map] at hks
  have ht : (tipN (s.keep.map (ndOf s.par s.all))).id = ((tip s : Nat) : Int) := by rw [tip_nd hi]; rfl
  have hpl := path_line hi
  have hll := line_length hi.tree (tip s)
  have hlf := line_length hi.tree (fin s)
  have hhs := height_small hi (inv_lt hi hi.tipin)
  have hhm := height_mem hi.tree (fin_tip hi)
  have hlen := congrArg List.length hpl
  rw [List.length_append, List.length_reverse, List.length_dropLast] at hlen
  have HP := Go.Proofs.Ytpaakikgfojplab.hid hpl
  go_enter Try.func10, Try.ntmps10
  go_wp2_with fail
  refine (tpath_is x gk ck pv s.par s.par _ s.all s.keep _ (tip s) w hr (by omega) (by omega) hls ht (by omega) (by omega)).mono ?_
  rintro e w1 ⟨g, cap, rfl, hown, hb1⟩
  clear hr ht hpl hlen hll
  rw [HP.out] at hown
  rw [HP.out]
  go_wp2
  go_ret
  exact ⟨g, cap, rfl, hown, hb1⟩

/-- What Look tells, by what is there. -/
theorem look_v {s : St} (hi : Inv s) (id : Int) : Value.agg (lkA (findN (s.keep.map (ndOf s.par s.all)) id)) = blkV s id := by
  rcases found hi id with ⟨hm, k, rfl, hk, hf⟩ | ⟨hm, hf⟩
  · rw [hf]
    unfold blkV
    rw [hm]
    simp only [if_true, Int.toNat_natCast]
    have h1 : (ndOf s.par s.all k).hdr = hd s.all k := rfl
    have h2 : (ndOf s.par s.all k).height = ((height s.all k : Nat) : Int) := rfl
    have h3 : (ndOf s.par s.all k).par = if k = 0 then -1 else ((pa s.all k : Nat) : Int) := rfl
    have h4 : (if (ndOf s.par s.all k).par = -1 then (0 : Int) else (ndOf s.par s.all k).par) = ((pa s.all k : Nat) : Int) := by
      rw [h3]
      by_cases e : k = 0
      · subst e
        have : pa s.all 0 = 0 := by unfold pa; rw [hi.zero]; rfl
        simp [this]
      · rw [if_neg e, if_neg (by omega)]
    show Value.agg (bkA (ndOf s.par s.all k).hdr (if (ndOf s.par s.all k).par = -1 then 0 else (ndOf s.par s.all k).par) (ndOf s.par s.all k).height) = _
    rw [h1, h2, h4]
    rfl
  · rw [hf]
    unfold blkV
    simp only [if_neg hm]
    rfl

set_option maxHeartbeats 1600000 in
set_option maxRecDepth 1000000 in
theorem plook_is (w : World) (x : Nat) (F : Nat → Prop) (s : St) (id : Int) (hR : RepP w x F s) (hi : Inv s) :
    Calls Try.prog 51 #[.pointer (some ⟨x, 0, none⟩), .int .i64 id] w fun e w' => e = .returned (.tuple #[blkV s id, .int .i64 (missing s id)]) ∧ Below w.heap.size w w' := by
  obtain ⟨gk, ck, pv, ⟨hr⟩, hF⟩ := hR
  have hks := keep_small hi
  have hls := line_small hi
  have HV := Go.Proofs.Ytpaakikgfojplab.hid (look_v hi id)
  have HE := Go.Proofs.Ytpaakikgfojplab.hid (findErr_map hi id)
  go_enter Try.func51, Try.ntmps51
  go_wp2_with fail
  generalize hA : w.alloc (.cells #[.int .i64 0, .int .i64 0, .int .i64 0, .int .i64 0, .int .i64 0, .int .i64 0, .int .i64 0, .int .i64 0, .int .i64 0] 95) = A at *
  obtain ⟨hsA, hbA, hAR⟩ := below_of hA
  clear hA
  refine (tlook_is x gk ck pv s.par _ _ _ id A (hr.keep hbA) (by omega) (by omega)).mono ?_
  rintro r w1 ⟨rfl, hb1⟩
  rw [HV.out, HE.out]
  have hR1 : w1.heap[w.heap.size]? = some (.cells (bkA zeroH 0 0) 95 (0, 0)) := (hb1.block w.heap.size (by omega)).trans hAR
  have HR1 := Go.Proofs.Ytpaakikgfojplab.hid hR1
  have HB1 := Go.Proofs.Ytpaakikgfojplab.hid (hbA.trans (hb1.mono (by omega)))
  clear hr hAR hb1 hbA hR1 HV HE
  obtain ⟨h, q, n, hb⟩ : ∃ h q n, blkV s id = .agg (bkA h q n) := ⟨_, _, _, rfl⟩
  rw [hb]
  go_wp2_with (refine wpList_store_row rfl 95 _ _ rfl w.heap.size (bkA h q n) rfl rfl 95 (bkA zeroH 0 0) HR1.out (info_blkA _ _ _) rfl (bk_one _ _ _) ?_)
  refine bodyPost_ret (results_ct rfl _ _ _ w.heap.size 95 (bkA h q n) (0, 0) _ rfl (setRow_heap _ _ _ _ _ _ HR1.out) rfl Try.underlying95 (info_blkA _ _ _)) rfl ⟨by rw [hb]; rfl, Below.setRow HB1.out (Nat.le_refl _) _⟩

end Go.Proofs.Ytpaakikgfojplab

