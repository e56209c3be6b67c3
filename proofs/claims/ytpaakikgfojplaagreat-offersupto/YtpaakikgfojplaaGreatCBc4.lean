import Derived.Test.YtpaakikgfojplaaGreatCBc1
import Derived.Test.YtpaakikgfojplaaGreatCTr8
import Derived.Test.YtpaakikgfojplaaGreatCM31
/-
  THE PROGRAM's CHAIN: Tip, Final, Kept, Path, Look.
-/
namespace Go.Proofs.YtpaakikgfojplaaGreat
open Go.RowKit Num Bk
set_option linter.unusedVariables false

theorem tip_nd {s : St} (hi : Inv s) : tipN (s.keep.map (ndOf s.par s.all)) = ndOf s.par s.all (tip s) :=
  tipN_map _ _ _ (by intro e; have := hi.wk.kne; rw [e] at this; simp at this) hi.rise

theorem ids_keep (s : St) : IdsAre (s.keep.map (ndOf s.par s.all)) s.keep := by
  refine ⟨(List.length_map ..).symm, fun k hk => ?_⟩
  rw [List.length_map] at hk
  have : (s.keep.map (ndOf s.par s.all)).getD k zeroN = ndOf s.par s.all (s.keep.getD k 0) := by simp [List.getD, hk]
  rw [this]
  rfl

set_option maxHeartbeats 800000 in
theorem ptip_is (w : World) (x : Nat) (F : Nat → Prop) (s : St) (hR : RepP w x F s) (hi : Inv s) :
    Calls Tryz.prog 30 #[.pointer (some ⟨x, 0, none⟩)] w fun e w' => e = .returned (.int .i64 ((Bk.tip s : Nat) : Int)) ∧ Below w.heap.size w w' := by
  obtain ⟨gk, ck, pv, ⟨hr⟩, hF⟩ := hR
  have hks := keep_small hi
  have HT := Go.Proofs.YtpaakikgfojplaaGreat.hid (tip_nd hi)
  go_enter Tryz.func30, Tryz.ntmps30
  go_wp2_with fail
  refine (ttipid_is x gk ck pv s.par _ _ _ w hr (by omega) (by omega)).mono ?_
  rintro e w1 ⟨rfl, hb1⟩
  rw [HT.out]
  clear hr
  go_wp2
  go_ret
  exact ⟨rfl, hb1⟩

set_option maxHeartbeats 800000 in
theorem pfinal_is (w : World) (x : Nat) (F : Nat → Prop) (s : St) (hR : RepP w x F s) (hi : Inv s) :
    Calls Tryz.prog 32 #[.pointer (some ⟨x, 0, none⟩)] w fun e w' => e = .returned (.int .i64 ((Bk.fin s : Nat) : Int)) ∧ Below w.heap.size w w' := by
  obtain ⟨gk, ck, pv, ⟨hr⟩, hF⟩ := hR
  have hks := keep_small hi
  have h0 : ((s.keep.map (ndOf s.par s.all)).getD 0 zeroN).id = ((fin s : Nat) : Int) := by
    obtain ⟨l, hl⟩ := head_fin hi
    rw [hl]; rfl
  have HT := Go.Proofs.YtpaakikgfojplaaGreat.hid h0
  go_enter Tryz.func32, Tryz.ntmps32
  go_wp2_with fail
  refine (tfinal_is x gk ck pv s.par _ _ _ w hr (by omega) (by omega)).mono ?_
  rintro e w1 ⟨rfl, rfl⟩
  rw [HT.out]
  clear hr h0
  go_wp2
  go_ret
  exact ⟨rfl, Below.refl _ _⟩

set_option maxHeartbeats 800000 in
theorem pkept_is (w : World) (x : Nat) (F : Nat → Prop) (s : St) (hR : RepP w x F s) (hi : Inv s) :
    Calls Tryz.prog 34 #[.pointer (some ⟨x, 0, none⟩)] w fun e w' => ListOut w w' e s.keep := by
  obtain ⟨gk, ck, pv, ⟨hr⟩, hF⟩ := hR
  have hks := keep_small hi
  go_enter Tryz.func34, Tryz.ntmps34
  go_wp2_with fail
  refine (tkept_is x gk ck pv s.par _ _ _ s.keep w hr (by omega) (by omega) (ids_keep s)).mono ?_
  rintro e w1 ⟨g, cap, rfl, hown, hb1⟩
  clear hr
  go_wp2
  go_ret
  exact ⟨g, cap, rfl, hown, hb1⟩

set_option maxHeartbeats 800000 in
theorem ppath_is (w : World) (x : Nat) (F : Nat → Prop) (s : St) (hR : RepP w x F s) (hi : Inv s) :
    Calls Tryz.prog 38 #[.pointer (some ⟨x, 0, none⟩)] w fun e w' => ListOut w w' e (line s.all (Bk.tip s)) := by
  obtain ⟨gk, ck, pv, ⟨hr⟩, hF⟩ := hR
  have hks := keep_small hi
  have hls := line_small hi
  rw [List.length_map] at hks
  have ht : (tipN (s.keep.map (ndOf s.par s.all))).id = ((tip s : Nat) : Int) := by rw [tip_nd hi]; rfl
  have hpl := path_line hi
  have hll := line_length hi.tree (tip s)
  have hlf := line_length hi.tree (fin s)
  have hhs := height_small hi (inv_lt hi hi.tipin)
  have hhm := height_mem hi.tree (fin_tip hi)
  have hlen := congrArg List.length hpl
  rw [List.length_append, List.length_reverse, List.length_dropLast] at hlen
  have HP := Go.Proofs.YtpaakikgfojplaaGreat.hid hpl
  go_enter Tryz.func38, Tryz.ntmps38
  go_wp2_with fail
  refine (tpath_is x gk ck pv s.par s.par _ s.all s.keep _ (tip s) w hr (by omega) (by omega) hls ht (by omega) (by omega)).mono ?_
  rintro e w1 ⟨g, cap, rfl, hown, hb1⟩
  clear hr ht hpl hlen hll
  rw [HP.out] at hown
  rw [HP.out]
  go_wp2
  go_ret
  exact ⟨g, cap, rfl, hown, hb1⟩

/-- What Look tells, by what is there. -/
theorem look_v {s : St} (hi : Inv s) (id : Int) : Value.agg (lkA (findN (s.keep.map (ndOf s.par s.all)) id)) = blkV s id := by
  rcases found hi id with ⟨hm, k, rfl, hk, hf⟩ | ⟨hm, hf⟩
  · rw [hf]
    unfold blkV
    rw [hm]
    simp only [if_true, Int.toNat_natCast]
    have h1 : (ndOf s.par s.all k).hdr = hd s.all k := rfl
    have h2 : (ndOf s.par s.all k).height = ((height s.all k : Nat) : Int) := rfl
    have h3 : (ndOf s.par s.all k).par = if k = 0 then -1 else ((pa s.all k : Nat) : Int) := rfl
    have h4 : (if (ndOf s.par s.all k).par = -1 then (0 : Int) else (ndOf s.par s.all k).par) = ((pa s.all k : Nat) : Int) := by
      rw [h3]
      by_cases e : k = 0
      · subst e
        have : pa s.all 0 = 0 := by unfold pa; rw [hi.zero]; rfl
        simp [this]
      · rw [if_neg e, if_neg (by omega)]
    show Value.agg (bkA (ndOf s.par s.all k).hdr (if (ndOf s.par s.all k).par = -1 then 0 else (ndOf s.par s.all k).par) (ndOf s.par s.all k).height) = _
    rw [h1, h2, h4]
    rfl
  · rw [hf]
    unfold blkV
    simp only [if_neg hm]
    rfl

set_option maxHeartbeats 1600000 in
set_option maxRecDepth 1000000 in
theorem plook_is (w : World) (x : Nat) (F : Nat → Prop) (s : St) (id : Int) (hR : RepP w x F s) (hi : Inv s) :
    Calls Tryz.prog 28 #[.pointer (some ⟨x, 0, none⟩), .int .i64 id] w fun e w' => e = .returned (.tuple #[blkV s id, .int .i64 (missing s id)]) ∧ Below w.heap.size w w' := by
  obtain ⟨gk, ck, pv, ⟨hr⟩, hF⟩ := hR
  have hks := keep_small hi
  have hls := line_small hi
  have HV := Go.Proofs.YtpaakikgfojplaaGreat.hid (look_v hi id)
  have HE := Go.Proofs.YtpaakikgfojplaaGreat.hid (findErr_map hi id)
  go_enter Tryz.func28, Tryz.ntmps28
  go_wp2_with fail
  generalize hA : w.alloc (.cells #[.int .i64 0, .int .i64 0, .int .i64 0, .int .i64 0, .int .i64 0, .int .i64 0, .int .i64 0, .int .i64 0, .int .i64 0] 82) = A at *
  obtain ⟨hsA, hbA, hAR⟩ := below_of hA
  clear hA
  refine (tlook_is x gk ck pv s.par _ _ _ id A (hr.keep hbA) (by omega) (by omega)).mono ?_
  rintro r w1 ⟨rfl, hb1⟩
  rw [HV.out, HE.out]
  have hR1 : w1.heap[w.heap.size]? = some (.cells (bkA zeroH 0 0) 82 (0, 0)) := (hb1.block w.heap.size (by omega)).trans hAR
  have HR1 := Go.Proofs.YtpaakikgfojplaaGreat.hid hR1
  have HB1 := Go.Proofs.YtpaakikgfojplaaGreat.hid (hbA.trans (hb1.mono (by omega)))
  clear hr hAR hb1 hbA hR1 HV HE
  obtain ⟨h, q, n, hb⟩ : ∃ h q n, blkV s id = .agg (bkA h q n) := ⟨_, _, _, rfl⟩
  rw [hb]
  go_wp2_with (refine wpList_store_row rfl 82 _ _ rfl w.heap.size (bkA h q n) rfl rfl 82 (bkA zeroH 0 0) HR1.out (info_blkA _ _ _) rfl (bk_one _ _ _) ?_)
  refine bodyPost_ret (results_ct rfl _ _ _ w.heap.size 82 (bkA h q n) (0, 0) _ rfl (setRow_heap _ _ _ _ _ _ HR1.out) rfl Tryz.underlying82 (info_blkA _ _ _)) rfl ⟨by rw [hb]; rfl, Below.setRow HB1.out (Nat.le_refl _) _⟩

end Go.Proofs.YtpaakikgfojplaaGreat

