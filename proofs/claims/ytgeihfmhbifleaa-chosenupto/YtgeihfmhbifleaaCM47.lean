import Derived.Test.YtgeihfmhbifleaaCLooks
import Derived.Test.YtgeihfmhbifleaaCM27
import Derived.Test.YtgeihfmhbifleaaCM15
import Derived.Test.YtgeihfmhbifleaaCKeepW
/-
  THE WALK of beaconref: Look.
-/
namespace Go.Proofs.Ytgeihfmhbifleaa
open Go.RowKit Num Bk
set_option linter.unusedVariables false

theorem cell_set9d {w : World} {q b : Nat} (h : b ≠ q) (v0 v1 v2 v3 v4 v5 v6 v7 v8 : Value) (j : Nat) : (((((((((w.setCell ⟨q, 0, none⟩ v0).setCell ⟨q, 1, none⟩ v1).setCell ⟨q, 2, none⟩ v2).setCell ⟨q, 3, none⟩ v3).setCell ⟨q, 4, none⟩ v4).setCell ⟨q, 5, none⟩ v5).setCell ⟨q, 6, none⟩ v6).setCell ⟨q, 7, none⟩ v7).setCell ⟨q, 8, none⟩ v8).drew.cell? ⟨b, j, none⟩ = w.cell? ⟨b, j, none⟩ := by
  have e : ∀ (W : World) (a : Addr), W.drew.cell? a = W.cell? a := fun _ _ => rfl
  rw [e]
  exact cell_set9 h v0 v1 v2 v3 v4 v5 v6 v7 v8 j

theorem heap_set9 {w : World} {q : Nat} {u0 u1 u2 u3 u4 u5 u6 u7 u8 : Value} {t : TypeId} (h : w.heap[q]? = some (.cells #[u0, u1, u2, u3, u4, u5, u6, u7, u8] t (0, 0))) (v0 v1 v2 v3 v4 v5 v6 v7 v8 : Value) : (((((((((w.setCell ⟨q, 0, none⟩ v0).setCell ⟨q, 1, none⟩ v1).setCell ⟨q, 2, none⟩ v2).setCell ⟨q, 3, none⟩ v3).setCell ⟨q, 4, none⟩ v4).setCell ⟨q, 5, none⟩ v5).setCell ⟨q, 6, none⟩ v6).setCell ⟨q, 7, none⟩ v7).setCell ⟨q, 8, none⟩ v8).heap[q]? = some (.cells #[v0, v1, v2, v3, v4, v5, v6, v7, v8] t (0, 0)) := by
  have h0 : (w.setCell ⟨q, 0, none⟩ v0).heap[q]? = some (.cells #[v0, u1, u2, u3, u4, u5, u6, u7, u8] t (0, 0)) := by
    rw [heap_setCell_same _ q 0 _ t v0 h]; rfl
  have h1 : ((w.setCell ⟨q, 0, none⟩ v0).setCell ⟨q, 1, none⟩ v1).heap[q]? = some (.cells #[v0, v1, u2, u3, u4, u5, u6, u7, u8] t (0, 0)) := by
    rw [heap_setCell_same _ q 1 _ t v1 h0]; rfl
  have h2 : (((w.setCell ⟨q, 0, none⟩ v0).setCell ⟨q, 1, none⟩ v1).setCell ⟨q, 2, none⟩ v2).heap[q]? = some (.cells #[v0, v1, v2, u3, u4, u5, u6, u7, u8] t (0, 0)) := by
    rw [heap_setCell_same _ q 2 _ t v2 h1]; rfl
  have h3 : ((((w.setCell ⟨q, 0, none⟩ v0).setCell ⟨q, 1, none⟩ v1).setCell ⟨q, 2, none⟩ v2).setCell ⟨q, 3, none⟩ v3).heap[q]? = some (.cells #[v0, v1, v2, v3, u4, u5, u6, u7, u8] t (0, 0)) := by
    rw [heap_setCell_same _ q 3 _ t v3 h2]; rfl
  have h4 : (((((w.setCell ⟨q, 0, none⟩ v0).setCell ⟨q, 1, none⟩ v1).setCell ⟨q, 2, none⟩ v2).setCell ⟨q, 3, none⟩ v3).setCell ⟨q, 4, none⟩ v4).heap[q]? = some (.cells #[v0, v1, v2, v3, v4, u5, u6, u7, u8] t (0, 0)) := by
    rw [heap_setCell_same _ q 4 _ t v4 h3]; rfl
  have h5 : ((((((w.setCell ⟨q, 0, none⟩ v0).setCell ⟨q, 1, none⟩ v1).setCell ⟨q, 2, none⟩ v2).setCell ⟨q, 3, none⟩ v3).setCell ⟨q, 4, none⟩ v4).setCell ⟨q, 5, none⟩ v5).heap[q]? = some (.cells #[v0, v1, v2, v3, v4, v5, u6, u7, u8] t (0, 0)) := by
    rw [heap_setCell_same _ q 5 _ t v5 h4]; rfl
  have h6 : (((((((w.setCell ⟨q, 0, none⟩ v0).setCell ⟨q, 1, none⟩ v1).setCell ⟨q, 2, none⟩ v2).setCell ⟨q, 3, none⟩ v3).setCell ⟨q, 4, none⟩ v4).setCell ⟨q, 5, none⟩ v5).setCell ⟨q, 6, none⟩ v6).heap[q]? = some (.cells #[v0, v1, v2, v3, v4, v5, v6, u7, u8] t (0, 0)) := by
    rw [heap_setCell_same _ q 6 _ t v6 h5]; rfl
  have h7 : ((((((((w.setCell ⟨q, 0, none⟩ v0).setCell ⟨q, 1, none⟩ v1).setCell ⟨q, 2, none⟩ v2).setCell ⟨q, 3, none⟩ v3).setCell ⟨q, 4, none⟩ v4).setCell ⟨q, 5, none⟩ v5).setCell ⟨q, 6, none⟩ v6).setCell ⟨q, 7, none⟩ v7).heap[q]? = some (.cells #[v0, v1, v2, v3, v4, v5, v6, v7, u8] t (0, 0)) := by
    rw [heap_setCell_same _ q 7 _ t v7 h6]; rfl
  rw [heap_setCell_same _ q 8 _ t v8 h7]; rfl
theorem heap_set9d {w : World} {q : Nat} {u0 u1 u2 u3 u4 u5 u6 u7 u8 : Value} {t : TypeId} (h : w.heap[q]? = some (.cells #[u0, u1, u2, u3, u4, u5, u6, u7, u8] t (0, 0))) (v0 v1 v2 v3 v4 v5 v6 v7 v8 : Value) : (((((((((w.setCell ⟨q, 0, none⟩ v0).setCell ⟨q, 1, none⟩ v1).setCell ⟨q, 2, none⟩ v2).setCell ⟨q, 3, none⟩ v3).setCell ⟨q, 4, none⟩ v4).setCell ⟨q, 5, none⟩ v5).setCell ⟨q, 6, none⟩ v6).setCell ⟨q, 7, none⟩ v7).setCell ⟨q, 8, none⟩ v8).drew.heap[q]? = some (.cells #[v0, v1, v2, v3, v4, v5, v6, v7, v8] t (0, 0)) := by
  have e : ∀ W : World, W.drew.heap = W.heap := fun _ => rfl
  rw [e]
  exact heap_set9 h v0 v1 v2 v3 v4 v5 v6 v7 v8
theorem below_nine {B q : Nat} {a w : World} (hb : Below B a w) (hq : B ≤ q) (v0 v1 v2 v3 v4 v5 v6 v7 v8 : Value) : Below B a (((((((((w.setCell ⟨q, 0, none⟩ v0).setCell ⟨q, 1, none⟩ v1).setCell ⟨q, 2, none⟩ v2).setCell ⟨q, 3, none⟩ v3).setCell ⟨q, 4, none⟩ v4).setCell ⟨q, 5, none⟩ v5).setCell ⟨q, 6, none⟩ v6).setCell ⟨q, 7, none⟩ v7).setCell ⟨q, 8, none⟩ v8) :=
  (((((((((hb.setCell (p := ⟨q, 0, none⟩) hq v0).setCell (p := ⟨q, 1, none⟩) hq v1).setCell (p := ⟨q, 2, none⟩) hq v2).setCell (p := ⟨q, 3, none⟩) hq v3).setCell (p := ⟨q, 4, none⟩) hq v4).setCell (p := ⟨q, 5, none⟩) hq v5).setCell (p := ⟨q, 6, none⟩) hq v6).setCell (p := ⟨q, 7, none⟩) hq v7).setCell (p := ⟨q, 8, none⟩) hq v8)

set_option maxHeartbeats 3200000 in
set_option maxRecDepth 1000000 in
theorem rlook_any (x gs cs ga ca gk ck : Nat) (s : St) (id : Int) (w : World) (hr : RefAt w x gs cs ga ca gk ck s) (hv : Inv s) :
    Calls Try.prog 94 #[.pointer (some ⟨x, 0, none⟩), .int .i64 id] w fun e w' => e = .returned (.tuple #[blkV s id, .int .i64 (missing s id)]) ∧ Below w.heap.size w w' := by
  have hi := hv.wk
  have hsm := hi.small
  go_enter Try.func94, Try.ntmps94
  go_wp2_with fail
  generalize hA : w.alloc (.cells #[.int .i64 0, .int .i64 0, .int .i64 0, .int .i64 0, .int .i64 0, .int .i64 0, .int .i64 0, .int .i64 0, .int .i64 0] 105) = A at *
  obtain ⟨hsA, hbA, hAR⟩ := below_zero hA
  clear hA
  refine (missing_any x gs cs ga ca gk ck s id A (hr.keep hbA) hi).mono ?_
  rintro e w1 ⟨rfl, hb1⟩
  have hs1 := hb1.size
  have hR1 : w1.heap[w.heap.size]? = some (.cells (bkA zeroH 0 0) 105 (0, 0)) := (hb1.block w.heap.size (by omega)).trans hAR
  have hbw1 := hbA.trans (hb1.mono (by omega))
  clear hAR
  by_cases hm : missing s id = 0
  · obtain ⟨k, hk, rfl⟩ := missing_zero hm
    have hkl := inv_lt hv hk
    have HBV : Hid (blkV s (k : Int) = .agg (bkA (hd s.all k) ((pa s.all k : Nat) : Int) ((height s.all k : Nat) : Int))) := by
      show _ = _
      unfold blkV
      simp only [hm, if_true, Int.toNat_natCast]
      rfl
    have HM := Go.Proofs.Ytgeihfmhbifleaa.hid hm
    rw [hm]
    have hrA := (hr.keep hbA).keep hb1
    clear hm hr hb1 hbA
    go_wp2_with fail
    refine (height_any x gs cs ga ca gk ck s k w1 hrA hi hkl).mono ?_
    rintro e w2 ⟨rfl, hb2⟩
    have hs2 := hb2.size
    have hr2 := hrA.keep hb2
    have hR2 := (hb2.block w.heap.size (by omega)).trans hR1
    have HB2 := Go.Proofs.Ytgeihfmhbifleaa.hid (hbw1.trans (hb2.mono (by omega)))
    have c7 : w2.cell? ⟨x, 7, none⟩ = some (.slice (some ⟨ga, 0, none⟩) s.all.length ca) := cell_of_cells (j := 7) hr2.blk rfl
    have hc := hr2.hdr_at hkl
    have hp := hr2.par_at hkl
    have hh0 := hc.c0
    have hh1 := hc.c1
    have hh2 := hc.c2
    have hh3 := hc.c3
    have hh4 := hc.c4
    have hh5 := hc.c5
    have hh6 := hc.c6
    have hN2 : Nine w2 w.heap.size := nine_of hR2
    obtain ⟨z0, z1, z2, z3, z4, z5, z6, z7, z8, zf, zf0⟩ := hN2
    have y1 := (zf 1).trans zf0
    have y2 := (zf 2).trans zf0
    have y3 := (zf 3).trans zf0
    have y4 := (zf 4).trans zf0
    have y5 := (zf 5).trans zf0
    have y6 := (zf 6).trans zf0
    have y7 := (zf 7).trans zf0
    have y8 := (zf 8).trans zf0
    have hlt := hr2.lts
    have i1 : (0 : Int) ≤ (k : Int) := by omega
    have i2 : (k : Int) < ((s.all.length : Nat) : Int) := by omega
    have hxn : x ≠ w.heap.size := block_ne hr2.blk hR2 (by decide)
    have hgn : ga ≠ w.heap.size := by
      obtain ⟨c2, h2, _⟩ := row_block hr2.all
      exact block_ne h2 hR2 (by decide)
    have HR2 := Go.Proofs.Ytgeihfmhbifleaa.hid hR2
    clear hrA hr2 hR2 hR1 hb2 hbw1 hc zf
    generalize hd s.all k = hh at *
    generalize pa s.all k = pk at *
    generalize height s.all k = hk' at *
    obtain ⟨a0, a1, a2, a3, a4, a5, a6⟩ := hh
    simp only at hh0 hh1 hh2 hh3 hh4 hh5 hh6
    generalize hwz : w.heap.size = q at *
    have D0 := Go.Proofs.Ytgeihfmhbifleaa.hid c7
    have D1 := Go.Proofs.Ytgeihfmhbifleaa.hid hh0
    have D2 := Go.Proofs.Ytgeihfmhbifleaa.hid hh1
    have D3 := Go.Proofs.Ytgeihfmhbifleaa.hid hh2
    have D4 := Go.Proofs.Ytgeihfmhbifleaa.hid hh3
    have D5 := Go.Proofs.Ytgeihfmhbifleaa.hid hh4
    have D6 := Go.Proofs.Ytgeihfmhbifleaa.hid hh5
    have D7 := Go.Proofs.Ytgeihfmhbifleaa.hid hh6
    have D8 := Go.Proofs.Ytgeihfmhbifleaa.hid hp
    go_upto_region 5 with fail
    go_region_held3 (fun w' => w'.cell? ⟨x, 7, none⟩ = some (.slice (some ⟨ga, 0, none⟩) s.all.length ca) ∧ w'.cell? ⟨ga, k * 8, none⟩ = some (.int .i64 a0) ∧ w'.cell? ⟨ga, k * 8 + 1, none⟩ = some (.int .i64 a1) ∧ w'.cell? ⟨ga, k * 8 + 2, none⟩ = some (.int .i64 a2) ∧ w'.cell? ⟨ga, k * 8 + 3, none⟩ = some (.int .i64 a3) ∧ w'.cell? ⟨ga, k * 8 + 4, none⟩ = some (.int .i64 a4) ∧ w'.cell? ⟨ga, k * 8 + 5, none⟩ = some (.int .i64 a5) ∧ w'.cell? ⟨ga, k * 8 + 6, none⟩ = some (.int .i64 a6) ∧ w'.cell? ⟨ga, k * 8 + 7, none⟩ = some (.int .i64 (pk : Int))) (first | with_reducible exact ⟨(cell_set9d hxn _ _ _ _ _ _ _ _ _ _).trans D0.out, (cell_set9d hgn _ _ _ _ _ _ _ _ _ _).trans D1.out, (cell_set9d hgn _ _ _ _ _ _ _ _ _ _).trans D2.out, (cell_set9d hgn _ _ _ _ _ _ _ _ _ _).trans D3.out, (cell_set9d hgn _ _ _ _ _ _ _ _ _ _).trans D4.out, (cell_set9d hgn _ _ _ _ _ _ _ _ _ _).trans D5.out, (cell_set9d hgn _ _ _ _ _ _ _ _ _ _).trans D6.out, (cell_set9d hgn _ _ _ _ _ _ _ _ _ _).trans D7.out, (cell_set9d hgn _ _ _ _ _ _ _ _ _ _).trans D8.out⟩ | go_keep) (fail)
    all_goals
      go_wp2
      refine bodyPost_ret (results_ct rfl _ _ _ q 105 (bkA ⟨a0, a1, a2, a3, a4, a5, a6⟩ (pk : Int) (hk' : Int)) (0, 0) _ rfl (heap_set9d HR2.out _ _ _ _ _ _ _ _ _) rfl Try.underlying105 (info_blkA _ _ _)) rfl ⟨by rw [HBV.out, HM.out]; rfl, ?_⟩
      rw [hwz]
      exact (below_nine HB2.out (Nat.le_refl _) _ _ _ _ _ _ _ _ _).drew
  · have HBV : Hid (blkV s id = .agg (bkA zeroH 0 0)) := by
      show _ = _
      unfold blkV
      simp only [if_neg hm]
      rfl
    have hmb : (missing s id != 0) = true := by simp [hm]
    have HR1 := Go.Proofs.Ytgeihfmhbifleaa.hid hR1
    have HB1 := Go.Proofs.Ytgeihfmhbifleaa.hid hbw1
    generalize hMM : missing s id = MM at *
    clear hr hR1 hbw1 hb1 hbA
    go_wp2_with (refine wpList_store_row rfl 105 _ _ rfl w.heap.size (bkA zeroH 0 0) rfl rfl 105 (bkA zeroH 0 0) HR1.out (info_blkA _ _ _) rfl (bk_one _ _ _) ?_)
    refine bodyPost_ret (results_ct rfl _ _ _ w.heap.size 105 (bkA zeroH 0 0) (0, 0) _ rfl (setRow_heap _ _ _ _ _ _ HR1.out) rfl Try.underlying105 (info_blkA _ _ _)) rfl ⟨by rw [HBV.out, hMM]; rfl, Below.setRow HB1.out (Nat.le_refl _) _⟩

theorem rlook (w : World) (c : Nat) (G : Nat → Prop) (s : St) (id : Int) (h : RefR w c G s) (hv : Inv s) :
    Calls Try.prog 94 #[.pointer (some ⟨c, 0, none⟩), .int .i64 id] w fun e w' => e = .returned (.tuple #[blkV s id, .int .i64 (missing s id)]) ∧ Below w.heap.size w w' := by
  obtain ⟨gs, cs, ga, ca, gk, ck, hr, hE⟩ := h
  exact rlook_any c gs cs ga ca gk ck s id w hr hv
theorem rtip (w : World) (c : Nat) (G : Nat → Prop) (s : St) (h : RefR w c G s) (hv : Inv s) :
    Calls Try.prog 95 #[.pointer (some ⟨c, 0, none⟩)] w fun e w' => e = .returned (.int .i64 ((tip s : Nat) : Int)) ∧ Below w.heap.size w w' := by
  obtain ⟨gs, cs, ga, ca, gk, ck, hr, hE⟩ := h
  exact tip_any c gs cs ga ca gk ck s w hr hv.wk
theorem rfinal (w : World) (c : Nat) (G : Nat → Prop) (s : St) (h : RefR w c G s) (hv : Inv s) :
    Calls Try.prog 96 #[.pointer (some ⟨c, 0, none⟩)] w fun e w' => e = .returned (.int .i64 ((fin s : Nat) : Int)) ∧ Below w.heap.size w w' := by
  obtain ⟨gs, cs, ga, ca, gk, ck, hr, hE⟩ := h
  exact final_any c gs cs ga ca gk ck s w hr hv.wk
theorem rkept (w : World) (c : Nat) (G : Nat → Prop) (s : St) (h : RefR w c G s) (hv : Inv s) :
    Calls Try.prog 97 #[.pointer (some ⟨c, 0, none⟩)] w fun e w' => ListOut w w' e s.keep := by
  obtain ⟨gs, cs, ga, ca, gk, ck, hr, hE⟩ := h
  exact (kept_any c gs cs ga ca gk ck s w hr hv.wk).mono (fun _ _ ⟨g, h1, h2, h3⟩ => ⟨g, _, h1, h2, h3⟩)
theorem rpath (w : World) (c : Nat) (G : Nat → Prop) (s : St) (h : RefR w c G s) (hv : Inv s) :
    Calls Try.prog 100 #[.pointer (some ⟨c, 0, none⟩)] w fun e w' => ListOut w w' e (line s.all (tip s)) := by
  obtain ⟨gs, cs, ga, ca, gk, ck, hr, hE⟩ := h
  exact path_any c gs cs ga ca gk ck s w hr hv.wk

end Go.Proofs.Ytgeihfmhbifleaa

/-
  THE WALK of the statements' told; a step up to the ninth kind.
-/
namespace Go.Proofs.Ytgeihfmhbifleaa
open Go.RowKit Num Bk
set_option linter.unusedVariables false

set_option maxHeartbeats 1600000 in
set_option maxRecDepth 1000000 in
theorem lsame_is (b1 g1 c1 b2 g2 c2 : Nat) (ds : List Nat) (w : World) (h1 : w.ownsRow b1 3 1 (.slice (some ⟨g1, 0, none⟩) ds.length c1) ds.length (dcells ds)) (h2 : w.ownsRow b2 3 1 (.slice (some ⟨g2, 0, none⟩) ds.length c2) ds.length (dcells ds)) (hl : ds.length ≤ 1000000) :
    Calls Try.prog 98 #[.slice (some ⟨g1, 0, none⟩) ds.length c1, .slice (some ⟨g2, 0, none⟩) ds.length c2] w fun e w' => e = .returned (.bool true) ∧ Below w.heap.size w w' := by
  go_enter Try.func98, Try.ntmps98
  go_wp2
  go_loopw [5] (fun i wr => ∃ k : Nat, k ≤ ds.length ∧ i = .int .i64 k ∧ Below w.heap.size w wr) (fun i _ => ds.length - (intOf i).toNat)
  case atStart => exact ⟨0, Nat.zero_le _, rfl, Below.refl _ _⟩
  case round =>
    obtain ⟨k, hk, rfl, hbel⟩ := hrel
    by_cases hlt : k < ds.length
    · have c1 := ((row_keep h1 hbel (Nat.le_refl _)).cellAt k (by omega)).trans (dcells_at ds k hlt)
      have c2 := ((row_keep h2 hbel (Nat.le_refl _)).cellAt k (by omega)).trans (dcells_at ds k hlt)
      have i1 : (0 : Int) ≤ (k : Int) := by omega
      have i2 : (k : Int) < ((ds.length : Nat) : Int) := by omega
      generalize ds.getD k 0 = d at *
      clear h1 h2
      go_wp2
      go_quiet (fail)
      go_wp2
      go_roundw
      case rel => exact ⟨k + 1, by omega, by go_num, drawB hbel _⟩
      case measure => simp [intOf]; omega
    · go_wp2
      go_ret
      exact ⟨rfl, hbel⟩


theorem run_eql_blk (w : World) (a0 a1 a2 a3 a4 a5 a6 a7 a8 : Int) :
    (binOp .eql 105 (.agg #[.int .i64 a0, .int .i64 a1, .int .i64 a2, .int .i64 a3, .int .i64 a4, .int .i64 a5, .int .i64 a6, .int .i64 a7, .int .i64 a8]) (.agg #[.int .i64 a0, .int .i64 a1, .int .i64 a2, .int .i64 a3, .int .i64 a4, .int .i64 a5, .int .i64 a6, .int .i64 a7, .int .i64 a8])).run Try.prog w = .ok (.bool true) w := by
  go_simp
attribute [local go_sem] run_eql_blk

theorem WAt.stays {Rep : World → Nat → (Nat → Prop) → St → Prop} (P : PSpec Rep) {w w' : World} {wd : Nat} {x c : Bool → Nat} {F G : Bool → Nat → Prop} {s : Bool → St} {lv mv : Value} {L M : List Ent} (h : WAt Rep w wd x c F G s lv mv L M) (hb : Below w.heap.size w w') : Stays Rep w w' wd x c F G lv mv L.length :=
  (h.keep P hb).same.from hb

theorem kept_stays {Rep : World → Nat → (Nat → Prop) → St → Prop} (P : PSpec Rep) {w W w' : World} {wd g : Nat} {x c : Bool → Nat} {F G : Bool → Nat → Prop} {s : Bool → St} {lv mv : Value} {L : List Ent} {e0 : Ent} (hb : Below w.heap.size w W) (hg : w.heap.size ≤ g) (h : Kept1 Rep W w' wd g x c F G s lv mv L e0) : Stays Rep w w' wd x c F G lv mv L.length := by
  obtain ⟨lv', mv', M', h1, h2, h3, h4⟩ := h
  have hs := hb.size
  refine ⟨F, G, s, lv', mv', L ++ [e0], M', h1, (Fr.of_below hb _ (fun k h1 h2 => by omega)).trans' h2 (fun i hi h => ?_), ?_, by simp⟩
  · rcases h with h | h | h | h
    · omega
    · exact Or.inr (Or.inl h)
    · exact Or.inr (Or.inr (Or.inl h))
    · exact Or.inr (Or.inr (Or.inr h))
  · rintro k (h | h | h | h)
    · exact Or.inl (Or.inl h)
    · exact Or.inl (Or.inr (Or.inl h))
    · rcases h3 k h with h' | h'
      · exact Or.inl (Or.inr (Or.inr (Or.inl h')))
      · exact Or.inr (by omega)
    · rcases h4 k h with h' | h'
      · exact Or.inl (Or.inr (Or.inr (Or.inr h')))
      · exact Or.inr (by omega)

set_option maxHeartbeats 12800000 in
set_option maxRecDepth 1000000 in
theorem told_any {Rep : World → Nat → (Nat → Prop) → St → Prop} (P : PSpec Rep) {w : World} {wd : Nat} {x c : Bool → Nat} {F G : Bool → Nat → Prop} {s : Bool → St} {lv mv : Value} {L M : List Ent} (h : WAt Rep w wd x c F G s lv mv L M) (b : Bool) (o : OpS) (ho : OpI o) (hL : L.length ≤ 999999) :
    Calls Try.prog 66 #[.pointer (some ⟨wd, 0, none⟩), sideV (x b) (c b), opV o] w fun r w' => r = .returned (.bool true) ∧ Stays Rep w w' wd x c F G lv mv L.length := by
  unfold sideV opV
  rw [show opA o = #[.int .i64 o.kind, .bool o.other, .int .i64 o.A, .int .i64 o.B, .int .i64 o.C, .int .i64 o.h.slot, .int .i64 o.h.pool, .int .i64 o.h.proof, .int .i64 o.h.count, .int .i64 o.h.frm, .int .i64 o.h.dst, .int .i64 o.h.amount, .string o.S] from rfl]
  go_enter Try.func66, Try.ntmps66
  go_upto_region 1 with fail
  generalize hA : (w.alloc (.cells #[.pointer (some ⟨x b, 0, none⟩), .pointer (some ⟨c b, 0, none⟩)] 61)).alloc (.cells #[.int .i64 o.kind, .bool o.other, .int .i64 o.A, .int .i64 o.B, .int .i64 o.C, .int .i64 o.h.slot, .int .i64 o.h.pool, .int .i64 o.h.proof, .int .i64 o.h.count, .int .i64 o.h.frm, .int .i64 o.h.dst, .int .i64 o.h.amount, .string o.S] 72) = A at *
  obtain ⟨hsA, hbA, hA1, hA2⟩ := below_two hA
  have hX : Boxes w A (x b) (c b) o := ⟨hA1, hA2⟩
  have HWA := Go.Proofs.Ytgeihfmhbifleaa.hid (h.keep P hbA)
  have HBA := Go.Proofs.Ytgeihfmhbifleaa.hid hbA
  have hv := (h.side b).inv
  have hkl := hv.wk.kl
  have hLT : (line (s b).all (tip (s b))).length ≤ 20001 := by
    have h1 := line_length hv.tree (tip (s b))
    have h2 := height_small hv (inv_lt hv hv.tipin)
    omega
  have HOA := Go.Proofs.Ytgeihfmhbifleaa.hid ho.a
  clear hA hA1 hA2 hsA h hbA ho
  have p0 : A.cell? ⟨w.heap.size, 0, none⟩ = some (.pointer (some ⟨x b, 0, none⟩)) := cell_of_cells (j := 0) hX.side rfl
  have k0 : A.cell? ⟨w.heap.size + 1, 0, none⟩ = some (.int .i64 o.kind) := cell_of_cells (j := 0) hX.op rfl
  have k2 : A.cell? ⟨w.heap.size + 1, 2, none⟩ = some (.int .i64 o.A) := cell_of_cells (j := 2) hX.op rfl
  by_cases e5 : o.kind = 5
  · have b5 : (o.kind == 5) = true := by rw [e5]; rfl
    clear e5
    go_wp2_with fail
    refine (P.look A (x b) (F b) (s b) o.A (HWA.out.side b).p hv HOA.out).mono ?_
    rintro e w1 ⟨rfl, hb1⟩
    obtain ⟨a0, a1, a2, a3, a4, a5, a6, a7, a8, hbv⟩ := blk_agg (s b) o.A
    rw [hbv]
    have hX1 := hX.keep hb1
    clear p0 k0 k2 hX
    go_upto_region 4 with fail
    generalize hT : w1.alloc (.cells #[.int .i64 a0, .int .i64 a1, .int .i64 a2, .int .i64 a3, .int .i64 a4, .int .i64 a5, .int .i64 a6, .int .i64 a7, .int .i64 a8] 105) = T at *
    obtain ⟨hsT, hbT, hTo⟩ := below_zero hT
    clear hT
    have hX := hX1.keep hbT
    have hAT := hb1.trans (hbT.mono hb1.size)
    have hWT := HWA.out.keep P hAT
    have p1 : T.cell? ⟨w.heap.size, 1, none⟩ = some (.pointer (some ⟨c b, 0, none⟩)) := cell_of_cells (j := 1) hX.side rfl
    have k2 : T.cell? ⟨w.heap.size + 1, 2, none⟩ = some (.int .i64 o.A) := cell_of_cells (j := 2) hX.op rfl
    go_wp2_with fail
    refine (rlook T (c b) (G b) (s b) o.A (hWT.side b).r hv).mono ?_
    rintro e w2 ⟨rfl, hb2⟩
    rw [hbv]
    have hT2 := (hb2.block w1.heap.size (by omega)).trans hTo
    have hl12 : w1.heap.size < w2.heap.size := lt_of_block hT2
    have v0 := cell_of_cells (j := 0) hT2 rfl
    have v1 := cell_of_cells (j := 1) hT2 rfl
    have v2 := cell_of_cells (j := 2) hT2 rfl
    have v3 := cell_of_cells (j := 3) hT2 rfl
    have v4 := cell_of_cells (j := 4) hT2 rfl
    have v5 := cell_of_cells (j := 5) hT2 rfl
    have v6 := cell_of_cells (j := 6) hT2 rfl
    have v7 := cell_of_cells (j := 7) hT2 rfl
    have v8 := cell_of_cells (j := 8) hT2 rfl
    have hA2 := hAT.trans (hb2.mono hAT.size)
    have HFIN := Go.Proofs.Ytgeihfmhbifleaa.hid (fun ob => (HWA.out.stays P (hA2.alloc hA2.size ob)).from HBA.out)
    generalize missing (s b) o.A = oe at *
    clear hX hX1 p1 k2 hWT hAT hA2 hbT hb2 hT2 hTo hbv HWA hsT hb1
    go_wp2
    go_ret
    exact ⟨by simp, HFIN.out _⟩
  · have b5 : (o.kind == 5) = false := by simp [e5]
    clear e5
    by_cases e7 : o.kind = 7
    · have b7 : (o.kind == 7) = true := by rw [e7]; rfl
      clear e7
      go_wp2_with fail
      refine (P.tip A (x b) (F b) (s b) (HWA.out.side b).p hv).mono ?_
      rintro e w1 ⟨rfl, hb1⟩
      have hX1 := hX.keep hb1
      have hW1 := HWA.out.keep P hb1
      clear p0 k0 k2 hX
      have p1 : w1.cell? ⟨w.heap.size, 1, none⟩ = some (.pointer (some ⟨c b, 0, none⟩)) := cell_of_cells (j := 1) hX1.side rfl
      go_wp2_with fail
      refine (rtip w1 (c b) (G b) (s b) (hW1.side b).r hv).mono ?_
      rintro e w2 ⟨rfl, hb2⟩
      have HFIN := Go.Proofs.Ytgeihfmhbifleaa.hid ((HWA.out.stays P (hb1.trans (hb2.mono hb1.size))).from HBA.out)
      generalize tip (s b) = vv at *
      clear hX1 p1 hW1 hb1 hb2 HWA
      go_wp2
      go_ret
      exact ⟨by simp, HFIN.out⟩
    · have b7 : (o.kind == 7) = false := by simp [e7]
      clear e7
      by_cases e8 : o.kind = 8
      · have b8 : (o.kind == 8) = true := by rw [e8]; rfl
        clear e8
        go_wp2_with fail
        refine (P.final A (x b) (F b) (s b) (HWA.out.side b).p hv).mono ?_
        rintro e w1 ⟨rfl, hb1⟩
        have hX1 := hX.keep hb1
        have hW1 := HWA.out.keep P hb1
        clear p0 k0 k2 hX
        have p1 : w1.cell? ⟨w.heap.size, 1, none⟩ = some (.pointer (some ⟨c b, 0, none⟩)) := cell_of_cells (j := 1) hX1.side rfl
        go_wp2_with fail
        refine (rfinal w1 (c b) (G b) (s b) (hW1.side b).r hv).mono ?_
        rintro e w2 ⟨rfl, hb2⟩
        have HFIN := Go.Proofs.Ytgeihfmhbifleaa.hid ((HWA.out.stays P (hb1.trans (hb2.mono hb1.size))).from HBA.out)
        generalize fin (s b) = vv at *
        clear hX1 p1 hW1 hb1 hb2 HWA
        go_wp2
        go_ret
        exact ⟨by simp, HFIN.out⟩
      · have b8 : (o.kind == 8) = false := by simp [e8]
        clear e8
        by_cases e6 : o.kind = 6
        · have b6 : (o.kind == 6) = true := by rw [e6]; rfl
          clear e6
          go_wp2_with fail
          refine (P.kept A (x b) (F b) (s b) (HWA.out.side b).p hv).mono ?_
          rintro e w1 ⟨g1, c1, rfl, ho1, hb1⟩
          have hX1 := hX.keep hb1
          have hW1 := HWA.out.keep P hb1
          clear p0 k0 k2 hX
          have p1 : w1.cell? ⟨w.heap.size, 1, none⟩ = some (.pointer (some ⟨c b, 0, none⟩)) := cell_of_cells (j := 1) hX1.side rfl
          go_wp2_with fail
          refine (rkept w1 (c b) (G b) (s b) (hW1.side b).r hv).mono ?_
          rintro e w2 ⟨g2, c2, rfl, ho2, hb2⟩
          have ho12 := row_keep ho1 hb2 (Nat.le_refl _)
          have hg1 := (ho1.lt g1 (by simp [Value.ownBlock])).1
          have hbA2 := hb1.trans (hb2.mono hb1.size)
          clear p1 hX1 hW1 hb1 hb2 ho1
          generalize hLL : (s b).keep = l at *
          go_wp2_with fail
          refine (lsame_is _ g1 c1 _ g2 c2 l w2 ho12 ho2 (by omega)).mono ?_
          rintro e w3 ⟨rfl, hb3⟩
          have ho13 := row_keep ho12 hb3 (Nat.le_refl _)
          have hbA3 := hbA2.trans (hb3.mono hbA2.size)
          have hW3 := HWA.out.keep P hbA3
          have hAs := HBA.out.size
          clear ho12 ho2 hb3 hbA2
          go_wp2_with fail
          refine (keep_any P hW3 g1 l.length c1 l rfl (row_weak ho13 (Nat.zero_le _)) (by omega) (fun b' k hk e => by
            have h1 : k < A.heap.size := hk.elim (P.lt (HWA.out.side b').p k) ((HWA.out.side b').r.lt k)
            omega) (fun e he h => by
            have h1 := (HWA.out.toWMid.lt e he).1
            omega) hL).mono ?_
          rintro e w4 ⟨rfl, hK⟩
          have HFIN := Go.Proofs.Ytgeihfmhbifleaa.hid (kept_stays P (HBA.out.trans (hbA3.mono hAs)) (by omega) hK)
          clear hK hW3 ho13 hbA3 HWA
          go_wp2
          go_ret
          exact ⟨rfl, HFIN.out⟩
        · have b6 : (o.kind == 6) = false := by simp [e6]
          clear e6
          go_wp2_with fail
          refine (P.path A (x b) (F b) (s b) (HWA.out.side b).p hv).mono ?_
          rintro e w1 ⟨g1, c1, rfl, ho1, hb1⟩
          have hX1 := hX.keep hb1
          have hW1 := HWA.out.keep P hb1
          clear p0 k0 k2 hX
          have p1 : w1.cell? ⟨w.heap.size, 1, none⟩ = some (.pointer (some ⟨c b, 0, none⟩)) := cell_of_cells (j := 1) hX1.side rfl
          go_wp2_with fail
          refine (rpath w1 (c b) (G b) (s b) (hW1.side b).r hv).mono ?_
          rintro e w2 ⟨g2, c2, rfl, ho2, hb2⟩
          have ho12 := row_keep ho1 hb2 (Nat.le_refl _)
          have hg1 := (ho1.lt g1 (by simp [Value.ownBlock])).1
          have hbA2 := hb1.trans (hb2.mono hb1.size)
          clear p1 hX1 hW1 hb1 hb2 ho1
          generalize hLL : line (s b).all (tip (s b)) = l at *
          go_wp2_with fail
          refine (lsame_is _ g1 c1 _ g2 c2 l w2 ho12 ho2 (by omega)).mono ?_
          rintro e w3 ⟨rfl, hb3⟩
          have ho13 := row_keep ho12 hb3 (Nat.le_refl _)
          have hbA3 := hbA2.trans (hb3.mono hbA2.size)
          have hW3 := HWA.out.keep P hbA3
          have hAs := HBA.out.size
          clear ho12 ho2 hb3 hbA2
          go_wp2_with fail
          refine (keep_any P hW3 g1 l.length c1 l rfl (row_weak ho13 (Nat.zero_le _)) (by omega) (fun b' k hk e => by
            have h1 : k < A.heap.size := hk.elim (P.lt (HWA.out.side b').p k) ((HWA.out.side b').r.lt k)
            omega) (fun e he h => by
            have h1 := (HWA.out.toWMid.lt e he).1
            omega) hL).mono ?_
          rintro e w4 ⟨rfl, hK⟩
          have HFIN := Go.Proofs.Ytgeihfmhbifleaa.hid (kept_stays P (HBA.out.trans (hbA3.mono hAs)) (by omega) hK)
          clear hK hW3 ho13 hbA3 HWA
          go_wp2
          go_ret
          exact ⟨rfl, HFIN.out⟩

end Go.Proofs.Ytgeihfmhbifleaa

