import Derived.Test.YtfpbkiknfkjpbaaGAdd
import Derived.Test.YtfpbkiknfkjpbaaSpec
import Derived.Test.YtfpbkiknfkjpbaaGTr
import Derived.Deep.WholeRow
namespace Go.Proofs.Ytfpbkiknfkjpbaa
open Go.RowKit Num Bk
set_option linter.unusedVariables false

/-- The program's chain. -/
structure RepAt (w : World) (x gk ck : Nat) (pv : Value) (s : St) : Prop where
  ch : ChAt w x gk ck pv s.par ((s.all.length : Int) - 1) (s.keep.map (ndOf s.par s.all)) (line s.all (fin s)).dropLast
def RepP (w : World) (x : Nat) (F : Nat → Prop) (s : St) : Prop := ∃ gk ck pv, RepAt w x gk ck pv s ∧ ∀ k, F k ↔ (k = x ∨ k = gk ∨ pv.ownBlock = some k)

theorem RepP.keep {w w' : World} {x : Nat} {F : Nat → Prop} {s : St} (h : RepP w x F s) (hb : Below w.heap.size w w') : RepP w' x F s := by
  obtain ⟨gk, ck, pv, hr, hF⟩ := h
  exact ⟨gk, ck, pv, ⟨hr.ch.keep hb⟩, hF⟩

theorem left_same {w w' : World} {x : Nat} {F : Nat → Prop} {s : St} (h : RepP w x F s) (hb : Below w.heap.size w w') : Left RepP w w' x F s :=
  ⟨F, h.keep hb, Fr.of_below hb _ (fun k h1 h2 => by omega), fun k h => Or.inl h⟩

theorem rep_fr {w w' : World} {x : Nat} {F G : Nat → Prop} {s : St} (h : RepP w x F s) (hb : Fr G w w') (hG : ∀ k, F k → ¬ G k) : RepP w' x F s := by
  obtain ⟨gk, ck, pv, hr, hF⟩ := h
  refine ⟨gk, ck, pv, ⟨⟨?_, ?_, ?_⟩⟩, hF⟩
  · rw [hb.block x hr.ch.lts.1 (hG x ((hF x).2 (Or.inl rfl)))]; exact hr.ch.blk
  · exact row_fr hr.ch.kep hb (by intro g e; simp [Value.ownBlock] at e; subst e; exact hG _ ((hF _).2 (Or.inr (Or.inl rfl))))
  · exact row_fr hr.ch.pst hb (fun g e => hG g ((hF g).2 (Or.inr (Or.inr e))))
theorem rep_lt {w : World} {x : Nat} {F : Nat → Prop} {s : St} (h : RepP w x F s) (k : Nat) (hk : F k) : k < w.heap.size := by
  obtain ⟨gk, ck, pv, hr, hF⟩ := h
  rcases (hF k).1 hk with e | e | e
  · rw [e]; exact hr.ch.lts.1
  · rw [e]; exact hr.ch.lts.2.1
  · exact hr.ch.lts.2.2 k e

theorem line_small {s : St} (hi : Inv s) : (line s.all (fin s)).dropLast.length ≤ 20000 := by
  have h1 := line_length hi.tree (fin s)
  have h2 := height_small hi (fin_lt hi)
  rw [List.length_dropLast]
  omega
theorem keep_small {s : St} (hi : Inv s) : (s.keep.map (ndOf s.par s.all)).length ≤ 40 ∧ 1 ≤ (s.keep.map (ndOf s.par s.all)).length := by
  have h1 := hi.full
  have h2 := hi.par.r2
  have h3 := hi.wk.kne
  rw [List.length_map]
  omega

/-- A page of a header that came may be reckoned with. -/
theorem page_ok {s : St} (hi : Inv s) {i : Nat} (hl : i < s.all.length) : PgOk s.par (pageOf s.par s.all i) := by
  have ht := total_small hi.par
  refine ⟨?_, run_bounds hi i hl, ?_, fun j => stake_bounds hi hl j, ?_, ?_, ?_⟩
  · unfold slotOkP pageOf
    simp only
    split
    · exact Or.inl rfl
    · exact Or.inr (slot_bounds hi hl)
  · unfold pageOf
    simp only
    split
    · omega
    · exact run_bounds hi _ (last_lt hi _ hl)
  · intro j
    unfold pageOf
    simp only
    split
    · omega
    · exact stake_bounds hi (last_lt hi _ hl) j
  · intro j
    unfold pageOf
    simp only
    split
    · omega
    · exact stake_bounds hi (last_lt hi _ hl) j
  · intro j
    have h1 := count_bounds hi (j : Int) i hl
    have h2 := height_small hi hl
    show 0 ≤ countAt s.all (j : Int) i ∧ countAt s.all (j : Int) i ≤ 20000
    omega

theorem found {s : St} (hi : Inv s) (id : Int) : (missing s id = 0 ∧ ∃ k : Nat, id = (k : Int) ∧ k ∈ s.keep ∧ findN (s.keep.map (ndOf s.par s.all)) id = some (ndOf s.par s.all k)) ∨ (missing s id ≠ 0 ∧ findN (s.keep.map (ndOf s.par s.all)) id = none) := by
  rw [findN_map]
  unfold missing
  cases hh : has s.keep id
  · right
    simp
    split <;> omega
  · left
    rw [has_iff] at hh
    obtain ⟨k, hk, rfl⟩ := hh
    simp
    exact ⟨k, rfl, hk, rfl⟩

def lsV (p : Par) (g : Pg) (pool : Int) : Int := if poolB p pool then g.stakes pool.toNat else 0
def lcV (p : Par) (g : Pg) (pool : Int) : Int := if poolB p pool then g.counts pool.toNat else 0
def leV (p : Par) (pool : Int) : Int := if poolB p pool then 0 else 5
theorem lstake_v (p : Par) (g : Pg) (pool : Int) (w : World) (hp : ParOk p) :
    Calls Try.prog 40 #[rulV p, pageV g, .int .i64 pool] w fun r w' => r = .returned (.tuple #[.int .i64 (lsV p g pool), .int .i64 (leV p pool)]) ∧ Below w.heap.size w w' := lstake_is p g pool w hp
theorem lcount_v (p : Par) (g : Pg) (pool : Int) (w : World) (hp : ParOk p) :
    Calls Try.prog 41 #[rulV p, pageV g, .int .i64 pool] w fun r w' => r = .returned (.tuple #[.int .i64 (lcV p g pool), .int .i64 (leV p pool)]) ∧ Below w.heap.size w w' := lcount_is p g pool w hp

theorem poolB_ok (s : St) (n : Int) : poolB s.par n = poolOk s n := rfl


attribute [local go_sem ↓] loadPg_eq
attribute [local go_sem] run_loadPg

set_option maxHeartbeats 3200000 in
set_option maxRecDepth 1000000 in
theorem pstake_is (w : World) (x : Nat) (F : Nat → Prop) (s : St) (id pool : Int) (hR : RepP w x F s) (hi : Inv s) :
    Calls Try.prog 20 #[.pointer (some ⟨x, 0, none⟩), .int .i64 id, .int .i64 pool] w fun e w' => e = .returned (.tuple #[.int .i64 (stakeV s id pool), .int .i64 (askErr s id pool)]) ∧ Left RepP w w' x F s := by
  have HR := Go.Proofs.Ytfpbkiknfkjpbaa.hid hR
  obtain ⟨gk, ck, pv, ⟨hr⟩, hF⟩ := hR
  have hks := keep_small hi
  have hls := line_small hi
  have HA := Go.Proofs.Ytfpbkiknfkjpbaa.hid (show askErr s id pool = (if missing s id ≠ 0 then missing s id else if poolOk s pool = false then 5 else 0) from rfl)
  have HV := Go.Proofs.Ytfpbkiknfkjpbaa.hid (show stakeV s id pool = (if askErr s id pool = 0 then (stakesAt s.par s.all id.toNat).getD pool.toNat 0 else 0) from rfl)
  generalize askErr s id pool = AE at *
  generalize stakeV s id pool = V at *
  go_enter Try.func20, Try.ntmps20
  go_wp2_with fail
  refine (find_is x gk ck pv s.par _ _ _ id w hr (by omega) (by omega)).mono ?_
  rintro r w1 ⟨rfl, hb1⟩
  rw [findErr_map hi]
  have hr1 := hr.keep hb1
  unfold ndV
  rcases found hi id with ⟨hm, k, rfl, hk, hf⟩ | ⟨hm, hf⟩
  · rw [hf, hm]
    simp only [Option.getD_some]
    have hkl := inv_lt hi hk
    have HA2 := Go.Proofs.Ytfpbkiknfkjpbaa.hid (HA.out.trans (if_neg (by simp [hm])))
    rw [Int.toNat_natCast] at HV
    have HND := Go.Proofs.Ytfpbkiknfkjpbaa.hid (show (ndOf s.par s.all k).pg = pageOf s.par s.all k from rfl)
    clear hr hm hf HA
    generalize ndOf s.par s.all k = n at *
    go_upto_region 2 with (refine wpList_store_row rfl 81 _ _ rfl w1.heap.size (ndA n) rfl rfl 81 (ndA zeroN) (heap_alloc_new w1 _) (info_nodeA _) rfl (nd_one _) ?_)
    generalize hW : (w1.alloc (.cells #[.int .i64 0, .int .i64 0, .int .i64 0, .int .i64 0, .int .i64 0, .int .i64 0, .int .i64 0, .int .i64 0, .int .i64 0, .int .i64 0, .int .i64 0, .int .i64 0, .int .i64 0, .int .i64 0, .int .i64 0, .int .i64 0, .int .i64 0, .int .i64 0, .int .i64 0, .int .i64 0, .int .i64 0, .int .i64 0, .int .i64 0, .int .i64 0, .int .i64 0, .int .i64 0, .int .i64 0, .int .i64 0, .int .i64 0, .int .i64 0, .int .i64 0, .int .i64 0, .int .i64 0, .int .i64 0, .int .i64 0, .int .i64 0, .int .i64 0] 81)).setRow w1.heap.size (ndA n) = W at *
    obtain ⟨hsW, hbW, hWR⟩ := row_new hW
    clear hW
    have hrW := hr1.keep hbW
    have HBW := Go.Proofs.Ytfpbkiknfkjpbaa.hid (hb1.trans (hbW.mono hb1.size))
    have hxW := hrW.lts.1
    have hBW := lt_of_block hWR
    generalize w1.heap.size = B at *
    have c0 : W.cell? ⟨x, 0, none⟩ = some (.int .i64 s.par.epoch) := cell_of_cells (j := 0) hrW.blk rfl
    have c1 : W.cell? ⟨x, 1, none⟩ = some (.int .i64 s.par.a) := cell_of_cells (j := 1) hrW.blk rfl
    have c2 : W.cell? ⟨x, 2, none⟩ = some (.int .i64 s.par.b) := cell_of_cells (j := 2) hrW.blk rfl
    have c3 : W.cell? ⟨x, 3, none⟩ = some (.int .i64 (s.par.stakes.length : Int)) := cell_of_cells (j := 3) hrW.blk rfl
    have c4 : W.cell? ⟨x, 4, none⟩ = some (.int .i64 (total s.par)) := cell_of_cells (j := 4) hrW.blk rfl
    have po := page_in hWR
    have HG : Hid (n.pg = pageOf s.par s.all k) := HND.out
    generalize n.pg = G at *
    have pok := po.1
    have prd := po.2
    have pok2 : okP W.drew B 10 27 = true := pok
    have prd2 : rdP W.drew B 10 27 = pgA G := prd
    clear hr1 hb1 hbW hWR hrW HND po
    have hpar := hi.par
    go_wp2
    go_region_held3 (fun w' => w'.cell? ⟨x, 0, none⟩ = some (.int .i64 s.par.epoch) ∧ w'.cell? ⟨x, 1, none⟩ = some (.int .i64 s.par.a) ∧ w'.cell? ⟨x, 2, none⟩ = some (.int .i64 s.par.b) ∧ w'.cell? ⟨x, 3, none⟩ = some (.int .i64 (s.par.stakes.length : Int)) ∧ w'.cell? ⟨x, 4, none⟩ = some (.int .i64 (total s.par)) ∧ okP w' B 10 27 = true ∧ rdP w' B 10 27 = pgA G) (go_keep) ((go_at_call 40; refine (lstake_v s.par G pool _ hpar).mono ?_; rintro e w7 ⟨rfl, hb7⟩; have m0 := (hb7.cell (p := ⟨x, 0, none⟩) (by exact hxW)).trans (by exact c0); have m1 := (hb7.cell (p := ⟨x, 1, none⟩) (by exact hxW)).trans (by exact c1); have m2 := (hb7.cell (p := ⟨x, 2, none⟩) (by exact hxW)).trans (by exact c2); have m3 := (hb7.cell (p := ⟨x, 3, none⟩) (by exact hxW)).trans (by exact c3); have m4 := (hb7.cell (p := ⟨x, 4, none⟩) (by exact hxW)).trans (by exact c4); have mo : okP w7 B 10 27 = true := (part_keep hb7 (by exact hBW)).1.trans pok; have mr : rdP w7 B 10 27 = pgA G := (part_keep hb7 (by exact hBW)).2.trans prd))
    have HB7 := Go.Proofs.Ytfpbkiknfkjpbaa.hid (HBW.out.drew.trans (hb7.mono (by exact HBW.out.size)))
    clear c0 c1 c2 c3 c4 hb7 pok prd pok2 prd2
    have HFIN : Hid (V = lsV s.par G pool ∧ AE = leV s.par pool) := by
      show _ ∧ _
      unfold lsV leV
      rw [poolB_ok]
      have e1 := HA2.out
      have e2 := HV.out
      cases hp : poolOk s pool
      · rw [hp] at e1
        simp at e1
        rw [e1] at e2
        simp at e2
        exact ⟨by simp [e2], by simp [e1]⟩
      · rw [hp] at e1
        simp at e1
        rw [e1] at e2
        simp at e2
        refine ⟨?_, by simp [e1]⟩
        rw [e2, HG.out]
        rfl
    clear HV HA2
    generalize lsV s.par G pool = VV at *
    generalize leV s.par pool = EE at *
    go_wp2
    go_ret2
    exact ⟨by rw [HFIN.out.1, HFIN.out.2]; rfl, left_same HR.out HB7.out⟩
  · rw [hf]
    simp only [Option.getD_none]
    have hae := HA.out.trans (if_pos hm)
    have hv := HV.out.trans (if_neg (by rw [hae]; exact hm))
    clear HA HV hr hf
    have hmb : (missing s id != 0) = true := by simp [hm]
    subst hae; subst hv
    generalize hMM : missing s id = MM at *
    go_upto_region 2 with (refine wpList_store_row rfl 81 _ _ rfl w1.heap.size (ndA zeroN) rfl rfl 81 (ndA zeroN) (heap_alloc_new w1 _) (info_nodeA _) rfl (nd_one _) ?_)
    generalize hW : (w1.alloc (.cells #[.int .i64 0, .int .i64 0, .int .i64 0, .int .i64 0, .int .i64 0, .int .i64 0, .int .i64 0, .int .i64 0, .int .i64 0, .int .i64 0, .int .i64 0, .int .i64 0, .int .i64 0, .int .i64 0, .int .i64 0, .int .i64 0, .int .i64 0, .int .i64 0, .int .i64 0, .int .i64 0, .int .i64 0, .int .i64 0, .int .i64 0, .int .i64 0, .int .i64 0, .int .i64 0, .int .i64 0, .int .i64 0, .int .i64 0, .int .i64 0, .int .i64 0, .int .i64 0, .int .i64 0, .int .i64 0, .int .i64 0, .int .i64 0, .int .i64 0] 81)).setRow w1.heap.size (ndA zeroN) = W at *
    obtain ⟨hsW, hbW, hWR⟩ := row_new hW
    have HBW := Go.Proofs.Ytfpbkiknfkjpbaa.hid (hb1.trans (hbW.mono hb1.size))
    clear hW hr1 hb1 hbW hWR
    go_wp2
    go_ret2
    exact ⟨by rw [hMM]; rfl, left_same HR.out HBW.out⟩

set_option maxHeartbeats 3200000 in
set_option maxRecDepth 1000000 in
theorem pcount_is (w : World) (x : Nat) (F : Nat → Prop) (s : St) (id pool : Int) (hR : RepP w x F s) (hi : Inv s) :
    Calls Try.prog 21 #[.pointer (some ⟨x, 0, none⟩), .int .i64 id, .int .i64 pool] w fun e w' => e = .returned (.tuple #[.int .i64 (countV s id pool), .int .i64 (askErr s id pool)]) ∧ Left RepP w w' x F s := by
  have HR := Go.Proofs.Ytfpbkiknfkjpbaa.hid hR
  obtain ⟨gk, ck, pv, ⟨hr⟩, hF⟩ := hR
  have hks := keep_small hi
  have hls := line_small hi
  have HA := Go.Proofs.Ytfpbkiknfkjpbaa.hid (show askErr s id pool = (if missing s id ≠ 0 then missing s id else if poolOk s pool = false then 5 else 0) from rfl)
  have HV := Go.Proofs.Ytfpbkiknfkjpbaa.hid (show countV s id pool = (if askErr s id pool = 0 then countAt s.all pool id.toNat else 0) from rfl)
  generalize askErr s id pool = AE at *
  generalize countV s id pool = V at *
  go_enter Try.func21, Try.ntmps21
  go_wp2_with fail
  refine (find_is x gk ck pv s.par _ _ _ id w hr (by omega) (by omega)).mono ?_
  rintro r w1 ⟨rfl, hb1⟩
  rw [findErr_map hi]
  have hr1 := hr.keep hb1
  unfold ndV
  rcases found hi id with ⟨hm, k, rfl, hk, hf⟩ | ⟨hm, hf⟩
  · rw [hf, hm]
    simp only [Option.getD_some]
    have hkl := inv_lt hi hk
    have HA2 := Go.Proofs.Ytfpbkiknfkjpbaa.hid (HA.out.trans (if_neg (by simp [hm])))
    rw [Int.toNat_natCast] at HV
    have HND := Go.Proofs.Ytfpbkiknfkjpbaa.hid (show (ndOf s.par s.all k).pg = pageOf s.par s.all k from rfl)
    clear hr hm hf HA
    generalize ndOf s.par s.all k = n at *
    go_upto_region 2 with (refine wpList_store_row rfl 81 _ _ rfl w1.heap.size (ndA n) rfl rfl 81 (ndA zeroN) (heap_alloc_new w1 _) (info_nodeA _) rfl (nd_one _) ?_)
    generalize hW : (w1.alloc (.cells #[.int .i64 0, .int .i64 0, .int .i64 0, .int .i64 0, .int .i64 0, .int .i64 0, .int .i64 0, .int .i64 0, .int .i64 0, .int .i64 0, .int .i64 0, .int .i64 0, .int .i64 0, .int .i64 0, .int .i64 0, .int .i64 0, .int .i64 0, .int .i64 0, .int .i64 0, .int .i64 0, .int .i64 0, .int .i64 0, .int .i64 0, .int .i64 0, .int .i64 0, .int .i64 0, .int .i64 0, .int .i64 0, .int .i64 0, .int .i64 0, .int .i64 0, .int .i64 0, .int .i64 0, .int .i64 0, .int .i64 0, .int .i64 0, .int .i64 0] 81)).setRow w1.heap.size (ndA n) = W at *
    obtain ⟨hsW, hbW, hWR⟩ := row_new hW
    clear hW
    have hrW := hr1.keep hbW
    have HBW := Go.Proofs.Ytfpbkiknfkjpbaa.hid (hb1.trans (hbW.mono hb1.size))
    have hxW := hrW.lts.1
    have hBW := lt_of_block hWR
    generalize w1.heap.size = B at *
    have c0 : W.cell? ⟨x, 0, none⟩ = some (.int .i64 s.par.epoch) := cell_of_cells (j := 0) hrW.blk rfl
    have c1 : W.cell? ⟨x, 1, none⟩ = some (.int .i64 s.par.a) := cell_of_cells (j := 1) hrW.blk rfl
    have c2 : W.cell? ⟨x, 2, none⟩ = some (.int .i64 s.par.b) := cell_of_cells (j := 2) hrW.blk rfl
    have c3 : W.cell? ⟨x, 3, none⟩ = some (.int .i64 (s.par.stakes.length : Int)) := cell_of_cells (j := 3) hrW.blk rfl
    have c4 : W.cell? ⟨x, 4, none⟩ = some (.int .i64 (total s.par)) := cell_of_cells (j := 4) hrW.blk rfl
    have po := page_in hWR
    have HG : Hid (n.pg = pageOf s.par s.all k) := HND.out
    generalize n.pg = G at *
    have pok := po.1
    have prd := po.2
    have pok2 : okP W.drew B 10 27 = true := pok
    have prd2 : rdP W.drew B 10 27 = pgA G := prd
    clear hr1 hb1 hbW hWR hrW HND po
    have hpar := hi.par
    go_wp2
    go_region_held3 (fun w' => w'.cell? ⟨x, 0, none⟩ = some (.int .i64 s.par.epoch) ∧ w'.cell? ⟨x, 1, none⟩ = some (.int .i64 s.par.a) ∧ w'.cell? ⟨x, 2, none⟩ = some (.int .i64 s.par.b) ∧ w'.cell? ⟨x, 3, none⟩ = some (.int .i64 (s.par.stakes.length : Int)) ∧ w'.cell? ⟨x, 4, none⟩ = some (.int .i64 (total s.par)) ∧ okP w' B 10 27 = true ∧ rdP w' B 10 27 = pgA G) (go_keep) ((go_at_call 41; refine (lcount_v s.par G pool _ hpar).mono ?_; rintro e w7 ⟨rfl, hb7⟩; have m0 := (hb7.cell (p := ⟨x, 0, none⟩) (by exact hxW)).trans (by exact c0); have m1 := (hb7.cell (p := ⟨x, 1, none⟩) (by exact hxW)).trans (by exact c1); have m2 := (hb7.cell (p := ⟨x, 2, none⟩) (by exact hxW)).trans (by exact c2); have m3 := (hb7.cell (p := ⟨x, 3, none⟩) (by exact hxW)).trans (by exact c3); have m4 := (hb7.cell (p := ⟨x, 4, none⟩) (by exact hxW)).trans (by exact c4); have mo : okP w7 B 10 27 = true := (part_keep hb7 (by exact hBW)).1.trans pok; have mr : rdP w7 B 10 27 = pgA G := (part_keep hb7 (by exact hBW)).2.trans prd))
    have HB7 := Go.Proofs.Ytfpbkiknfkjpbaa.hid (HBW.out.drew.trans (hb7.mono (by exact HBW.out.size)))
    clear c0 c1 c2 c3 c4 hb7 pok prd pok2 prd2
    have HFIN : Hid (V = lcV s.par G pool ∧ AE = leV s.par pool) := by
      show _ ∧ _
      unfold lcV leV
      rw [poolB_ok]
      have e1 := HA2.out
      have e2 := HV.out
      cases hp : poolOk s pool
      · rw [hp] at e1
        simp at e1
        rw [e1] at e2
        simp at e2
        exact ⟨by simp [e2], by simp [e1]⟩
      · rw [hp] at e1
        simp at e1
        rw [e1] at e2
        simp at e2
        refine ⟨?_, by simp [e1]⟩
        rw [e2, HG.out]
        simp only [poolOk, Bool.and_eq_true, decide_eq_true_eq] at hp
        show countAt s.all pool k = countAt s.all ((pool.toNat : Nat) : Int) k
        rw [show ((pool.toNat : Nat) : Int) = pool by omega]
    clear HV HA2
    generalize lcV s.par G pool = VV at *
    generalize leV s.par pool = EE at *
    go_wp2
    go_ret2
    exact ⟨by rw [HFIN.out.1, HFIN.out.2]; rfl, left_same HR.out HB7.out⟩
  · rw [hf]
    simp only [Option.getD_none]
    have hae := HA.out.trans (if_pos hm)
    have hv := HV.out.trans (if_neg (by rw [hae]; exact hm))
    clear HA HV hr hf
    have hmb : (missing s id != 0) = true := by simp [hm]
    subst hae; subst hv
    generalize hMM : missing s id = MM at *
    go_upto_region 2 with (refine wpList_store_row rfl 81 _ _ rfl w1.heap.size (ndA zeroN) rfl rfl 81 (ndA zeroN) (heap_alloc_new w1 _) (info_nodeA _) rfl (nd_one _) ?_)
    generalize hW : (w1.alloc (.cells #[.int .i64 0, .int .i64 0, .int .i64 0, .int .i64 0, .int .i64 0, .int .i64 0, .int .i64 0, .int .i64 0, .int .i64 0, .int .i64 0, .int .i64 0, .int .i64 0, .int .i64 0, .int .i64 0, .int .i64 0, .int .i64 0, .int .i64 0, .int .i64 0, .int .i64 0, .int .i64 0, .int .i64 0, .int .i64 0, .int .i64 0, .int .i64 0, .int .i64 0, .int .i64 0, .int .i64 0, .int .i64 0, .int .i64 0, .int .i64 0, .int .i64 0, .int .i64 0, .int .i64 0, .int .i64 0, .int .i64 0, .int .i64 0, .int .i64 0] 81)).setRow w1.heap.size (ndA zeroN) = W at *
    obtain ⟨hsW, hbW, hWR⟩ := row_new hW
    have HBW := Go.Proofs.Ytfpbkiknfkjpbaa.hid (hb1.trans (hbW.mono hb1.size))
    clear hW hr1 hb1 hbW hWR
    go_wp2
    go_ret2
    exact ⟨by rw [hMM]; rfl, left_same HR.out HBW.out⟩

end Go.Proofs.Ytfpbkiknfkjpbaa

namespace Go.Proofs.Ytfpbkiknfkjpbaa
open Go.RowKit Num Bk
set_option linter.unusedVariables false

def ltE (p : Par) (g : Pg) (slot pool : Int) : Int := if slot ≤ g.slot ∨ 10000 < slot then 4 else if poolB p pool = false then 5 else 0
def ltN (p : Par) (g : Pg) (slot pool : Int) : Int := if ltE p g slot pool = 0 then nonceIn p g (slot / p.epoch) else 0
def ltP (p : Par) (g : Pg) (slot pool : Int) : Int := if ltE p g slot pool = 0 then proofP p g slot pool else 0
def ltS (p : Par) (g : Pg) (slot pool : Int) : Int := if ltE p g slot pool = 0 then stakeP p g slot pool else 0
def ltL (p : Par) (g : Pg) (slot pool : Int) : Bool := if ltE p g slot pool = 0 then leadsP p g slot pool else false

theorem lturn_v (p : Par) (g : Pg) (slot pool : Int) (w : World) (hp : ParOk p) (hg : PgOk p g) :
    Calls Try.prog 42 #[rulV p, pageV g, .int .i64 slot, .int .i64 pool] w fun r w' => r = .returned (.tuple #[.agg #[.int .i64 (ltN p g slot pool), .int .i64 (ltP p g slot pool), .int .i64 (ltS p g slot pool), .bool (ltL p g slot pool)], .int .i64 (ltE p g slot pool)]) ∧ Below w.heap.size w w' := by
  by_cases h1 : slot ≤ g.slot ∨ 10000 < slot
  · have e : ltE p g slot pool = 4 := if_pos h1
    unfold ltN ltP ltS ltL
    rw [e]
    exact lturn_slot p g slot pool w h1
  · cases h2 : poolB p pool
    · have e : ltE p g slot pool = 5 := by unfold ltE; rw [if_neg h1, if_pos h2]
      unfold ltN ltP ltS ltL
      rw [e]
      exact lturn_pool p g slot pool w (by omega) (by omega) h2
    · have e : ltE p g slot pool = 0 := by unfold ltE; rw [if_neg h1, if_neg (by simp [h2])]
      unfold ltN ltP ltS ltL
      rw [e]
      obtain ⟨k, rfl, hk1, hk2⟩ := poolB_yes hp h2
      exact lturn_yes p g slot k w hp hg (by omega) (by omega) hk1

theorem slot_match {s : St} (hi : Inv s) {k : Nat} (hkl : k < s.all.length) (slot : Int) : (slot ≤ (pageOf s.par s.all k).slot ∨ 10000 < slot) ↔ slotOk s k slot = false := by
  have hb := slot_bounds hi hkl
  rw [← Bool.not_eq_true]
  unfold slotOk pageOf
  simp only [Bool.and_eq_true, Bool.or_eq_true, decide_eq_true_eq]
  split <;> omega

theorem err_match {s : St} (hi : Inv s) {k : Nat} (hk : k ∈ s.keep) (slot pool : Int) : turnErr s (k : Int) slot pool = ltE s.par (pageOf s.par s.all k) slot pool := by
  have hm : missing s (k : Int) = 0 := by unfold missing; rw [(has_nat _ _).2 hk]; rfl
  have hs := slot_match hi (inv_lt hi hk) slot
  unfold turnErr ltE
  rw [if_neg (by simp [hm]), Int.toNat_natCast, poolB_ok]
  by_cases h : slotOk s k slot = false
  · rw [if_pos h, if_pos (hs.2 h)]
  · rw [if_neg h, if_neg (fun e => h (hs.1 e))]

theorem val_match {s : St} (hi : Inv s) {k : Nat} (hk : k ∈ s.keep) (slot : Int) (hs : slotOk s k slot = true) :
    nonceIn s.par (pageOf s.par s.all k) (slot / s.par.epoch) = nonceAt s k slot ∧ stakesIn s.par (pageOf s.par s.all k) (slot / s.par.epoch) = fun j => (oldStakes s k slot).getD j 0 := by
  have hkl := inv_lt hi hk
  unfold slotOk at hs
  simp only [Bool.and_eq_true, Bool.or_eq_true, decide_eq_true_eq] at hs
  have e1 := hi.par.e1
  have h0 : 0 ≤ slot / s.par.epoch := Int.ediv_nonneg (by omega) (by omega)
  have hle : k = 0 ∨ (hd s.all k).slot / s.par.epoch ≤ slot / s.par.epoch := by
    rcases hs.2 with h | h
    · exact Or.inl h
    · exact Or.inr (Int.ediv_le_ediv (by omega) (by omega))
  exact ⟨nonceIn_eq hi hkl _ h0 hle, stakesIn_eq hi hkl _ h0 hle⟩

theorem proof_match {s : St} (hi : Inv s) {k : Nat} (hk : k ∈ s.keep) (slot pool : Int) (hs : slotOk s k slot = true) :
    proofP s.par (pageOf s.par s.all k) slot pool = proofAt s k slot pool ∧ stakeP s.par (pageOf s.par s.all k) slot pool = stakeAt s k slot pool ∧ leadsP s.par (pageOf s.par s.all k) slot pool = leadsAt s k slot pool := by
  obtain ⟨h1, h2⟩ := val_match hi hk slot hs
  have a : proofP s.par (pageOf s.par s.all k) slot pool = proofAt s k slot pool := by unfold proofP proofAt; rw [h1]
  have b : stakeP s.par (pageOf s.par s.all k) slot pool = stakeAt s k slot pool := by unfold stakeP stakeAt; rw [h2]
  refine ⟨a, b, ?_⟩
  unfold leadsP leadsAt
  rw [a, b]

theorem turn_match {s : St} (hi : Inv s) {k : Nat} (hk : k ∈ s.keep) (slot pool : Int) :
    turnV s (k : Int) slot pool = .agg #[.int .i64 (ltN s.par (pageOf s.par s.all k) slot pool), .int .i64 (ltP s.par (pageOf s.par s.all k) slot pool), .int .i64 (ltS s.par (pageOf s.par s.all k) slot pool), .bool (ltL s.par (pageOf s.par s.all k) slot pool)] := by
  unfold turnV ltN ltP ltS ltL
  rw [err_match hi hk, Int.toNat_natCast]
  by_cases h : ltE s.par (pageOf s.par s.all k) slot pool = 0
  · rw [if_pos h, if_pos h, if_pos h, if_pos h, if_pos h]
    have hs : slotOk s k slot = true := by
      cases e : slotOk s k slot
      · have := (slot_match hi (inv_lt hi hk) slot).2 e
        unfold ltE at h
        rw [if_pos this] at h
        omega
      · rfl
    obtain ⟨a, b, c⟩ := proof_match hi hk slot pool hs
    rw [a, b, c, (val_match hi hk slot hs).1]
  · rw [if_neg h, if_neg h, if_neg h, if_neg h, if_neg h]

theorem okP_set4 {w : World} {b b' o n : Nat} (hb : b ≠ b') (a0 a1 a2 a3 : Value) : okP ((((w.setCell ⟨b', 0, none⟩ a0).setCell ⟨b', 1, none⟩ a1).setCell ⟨b', 2, none⟩ a2).setCell ⟨b', 3, none⟩ a3) b o n = okP w b o n ∧ rdP ((((w.setCell ⟨b', 0, none⟩ a0).setCell ⟨b', 1, none⟩ a1).setCell ⟨b', 2, none⟩ a2).setCell ⟨b', 3, none⟩ a3) b o n = rdP w b o n := by
  have hc : ∀ j, ((((w.setCell ⟨b', 0, none⟩ a0).setCell ⟨b', 1, none⟩ a1).setCell ⟨b', 2, none⟩ a2).setCell ⟨b', 3, none⟩ a3).cell? ⟨b, o + j, none⟩ = w.cell? ⟨b, o + j, none⟩ := by
    intro j
    rw [World.cell?_setCell_other _ _ _ _ (by intro e; exact hb (congrArg Addr.block e).symm), World.cell?_setCell_other _ _ _ _ (by intro e; exact hb (congrArg Addr.block e).symm), World.cell?_setCell_other _ _ _ _ (by intro e; exact hb (congrArg Addr.block e).symm), World.cell?_setCell_other _ _ _ _ (by intro e; exact hb (congrArg Addr.block e).symm)]
  unfold okP rdP
  simp only [hc]
  exact ⟨trivial, trivial⟩

theorem cell_set4 {w : World} {b b' j : Nat} (hb : b ≠ b') (a0 a1 a2 a3 : Value) : ((((w.setCell ⟨b', 0, none⟩ a0).setCell ⟨b', 1, none⟩ a1).setCell ⟨b', 2, none⟩ a2).setCell ⟨b', 3, none⟩ a3).cell? ⟨b, j, none⟩ = w.cell? ⟨b, j, none⟩ := by
  rw [World.cell?_setCell_other _ _ _ _ (by intro e; exact hb (congrArg Addr.block e).symm), World.cell?_setCell_other _ _ _ _ (by intro e; exact hb (congrArg Addr.block e).symm), World.cell?_setCell_other _ _ _ _ (by intro e; exact hb (congrArg Addr.block e).symm), World.cell?_setCell_other _ _ _ _ (by intro e; exact hb (congrArg Addr.block e).symm)]

attribute [local go_sem ↓] loadPg_eq
attribute [local go_sem] run_loadPg

set_option maxHeartbeats 3200000 in
set_option maxRecDepth 1000000 in
theorem pturn_is (w : World) (x : Nat) (F : Nat → Prop) (s : St) (id slot pool : Int) (hR : RepP w x F s) (hi : Inv s) :
    Calls Try.prog 25 #[.pointer (some ⟨x, 0, none⟩), .int .i64 id, .int .i64 slot, .int .i64 pool] w fun e w' => e = .returned (.tuple #[turnV s id slot pool, .int .i64 (turnErr s id slot pool)]) ∧ Left RepP w w' x F s := by
  have HR := Go.Proofs.Ytfpbkiknfkjpbaa.hid hR
  obtain ⟨gk, ck, pv, ⟨hr⟩, hF⟩ := hR
  have hks := keep_small hi
  have hls := line_small hi
  generalize hTV : turnV s id slot pool = TV at *
  generalize hTE : turnErr s id slot pool = TE at *
  have HTV := Go.Proofs.Ytfpbkiknfkjpbaa.hid hTV
  have HTE := Go.Proofs.Ytfpbkiknfkjpbaa.hid hTE
  clear hTV hTE
  go_enter Try.func25, Try.ntmps25
  go_upto_region 1 with fail
  generalize hA : w.alloc (.cells #[.int .i64 0, .int .i64 0, .int .i64 0, .bool false] 50) = A at *
  obtain ⟨hsA, hbA, hAR⟩ := below_of hA
  clear hA
  have hrA := hr.keep hbA
  have hxw : w.heap.size < A.heap.size := by omega
  have hxl := hr.lts.1
  go_wp2_with fail
  refine (find_is x gk ck pv s.par _ _ _ id A hrA (by omega) (by omega)).mono ?_
  rintro r w1 ⟨rfl, hb1⟩
  rw [findErr_map hi]
  have hr1 := hrA.keep hb1
  have hz1 : w1.heap[w.heap.size]? = _ := (hb1.block _ hxw).trans hAR
  have hs1 := hb1.size
  have hbw := hbA.trans (hb1.mono (by omega))
  clear hrA hAR hbA hb1 hsA
  unfold ndV
  rcases found hi id with ⟨hm, k, rfl, hk, hf⟩ | ⟨hm, hf⟩
  · rw [hf, hm]
    simp only [Option.getD_some]
    have hkl := inv_lt hi hk
    have hgo := page_ok hi hkl
    have hND : (ndOf s.par s.all k).pg = pageOf s.par s.all k := rfl
    have HV2 := Go.Proofs.Ytfpbkiknfkjpbaa.hid ((turn_match hi hk slot pool).symm.trans HTV.out)
    have HE2 := Go.Proofs.Ytfpbkiknfkjpbaa.hid ((err_match hi hk slot pool).symm.trans HTE.out)
    rw [← hND] at HV2 HE2 hgo
    clear hr hm hf HTV HTE hND
    generalize ndOf s.par s.all k = n at *
    go_upto_region 2 with (refine wpList_store_row rfl 81 _ _ rfl w1.heap.size (ndA n) rfl rfl 81 (ndA zeroN) (heap_alloc_new w1 _) (info_nodeA _) rfl (nd_one _) ?_)
    generalize hW : (w1.alloc (.cells #[.int .i64 0, .int .i64 0, .int .i64 0, .int .i64 0, .int .i64 0, .int .i64 0, .int .i64 0, .int .i64 0, .int .i64 0, .int .i64 0, .int .i64 0, .int .i64 0, .int .i64 0, .int .i64 0, .int .i64 0, .int .i64 0, .int .i64 0, .int .i64 0, .int .i64 0, .int .i64 0, .int .i64 0, .int .i64 0, .int .i64 0, .int .i64 0, .int .i64 0, .int .i64 0, .int .i64 0, .int .i64 0, .int .i64 0, .int .i64 0, .int .i64 0, .int .i64 0, .int .i64 0, .int .i64 0, .int .i64 0, .int .i64 0, .int .i64 0] 81)).setRow w1.heap.size (ndA n) = W at *
    obtain ⟨hsW, hbW, hWR⟩ := row_new hW
    clear hW
    have hrW := hr1.keep hbW
    have HZ : Hid (W.heap[w.heap.size]? = _) := (hbW.block _ (by omega)).trans hz1
    have HBW := Go.Proofs.Ytfpbkiknfkjpbaa.hid (hbw.trans (hbW.mono (by omega)))
    have hxW := hrW.lts.1
    have hBW := lt_of_block hWR
    have hB0 : w.heap.size < w1.heap.size := by omega
    generalize w1.heap.size = B at *
    have c0 : W.cell? ⟨x, 0, none⟩ = some (.int .i64 s.par.epoch) := cell_of_cells (j := 0) hrW.blk rfl
    have c1 : W.cell? ⟨x, 1, none⟩ = some (.int .i64 s.par.a) := cell_of_cells (j := 1) hrW.blk rfl
    have c2 : W.cell? ⟨x, 2, none⟩ = some (.int .i64 s.par.b) := cell_of_cells (j := 2) hrW.blk rfl
    have c3 : W.cell? ⟨x, 3, none⟩ = some (.int .i64 (s.par.stakes.length : Int)) := cell_of_cells (j := 3) hrW.blk rfl
    have c4 : W.cell? ⟨x, 4, none⟩ = some (.int .i64 (total s.par)) := cell_of_cells (j := 4) hrW.blk rfl
    have po := page_in hWR
    generalize n.pg = G at *
    have pok := po.1
    have prd := po.2
    have pok2 : okP W.drew B 10 27 = true := pok
    have prd2 : rdP W.drew B 10 27 = pgA G := prd
    have z0 := cell_of_cells (j := 0) HZ.out rfl
    have z1 := cell_of_cells (j := 1) HZ.out rfl
    have z2 := cell_of_cells (j := 2) HZ.out rfl
    have z3 := cell_of_cells (j := 3) HZ.out rfl
    have h0W : w.heap.size < W.heap.size := by omega
    have HXN : Hid (x ≠ w.heap.size) := Nat.ne_of_lt hxl
    generalize hb0 : w.heap.size = b0 at *
    have hx0 : x ≠ b0 := HXN.out
    have hB0n : B ≠ b0 := by omega
    clear hr1 hbW hWR hrW po hz1 hbw
    have hpar := hi.par
    go_wp2
    go_region_held3 (fun w' => w'.cell? ⟨x, 0, none⟩ = some (.int .i64 s.par.epoch) ∧ w'.cell? ⟨x, 1, none⟩ = some (.int .i64 s.par.a) ∧ w'.cell? ⟨x, 2, none⟩ = some (.int .i64 s.par.b) ∧ w'.cell? ⟨x, 3, none⟩ = some (.int .i64 (s.par.stakes.length : Int)) ∧ w'.cell? ⟨x, 4, none⟩ = some (.int .i64 (total s.par)) ∧ okP w' B 10 27 = true ∧ rdP w' B 10 27 = pgA G) (first | go_keep | exact ⟨(cell_set4 hx0 _ _ _ _).trans m0, (cell_set4 hx0 _ _ _ _).trans m1, (cell_set4 hx0 _ _ _ _).trans m2, (cell_set4 hx0 _ _ _ _).trans m3, (cell_set4 hx0 _ _ _ _).trans m4, (okP_set4 hB0n _ _ _ _).1.trans mo, (okP_set4 hB0n _ _ _ _).2.trans mr⟩) ((go_at_call 42; refine (lturn_v s.par G slot pool _ hpar hgo).mono ?_; rintro e w7 ⟨rfl, hb7⟩; have m0 := (hb7.cell (p := ⟨x, 0, none⟩) (by exact hxW)).trans (by exact c0); have m1 := (hb7.cell (p := ⟨x, 1, none⟩) (by exact hxW)).trans (by exact c1); have m2 := (hb7.cell (p := ⟨x, 2, none⟩) (by exact hxW)).trans (by exact c2); have m3 := (hb7.cell (p := ⟨x, 3, none⟩) (by exact hxW)).trans (by exact c3); have m4 := (hb7.cell (p := ⟨x, 4, none⟩) (by exact hxW)).trans (by exact c4); have mo : okP w7 B 10 27 = true := (part_keep hb7 (by exact hBW)).1.trans pok; have mr : rdP w7 B 10 27 = pgA G := (part_keep hb7 (by exact hBW)).2.trans prd; have hz7 := (hb7.block b0 (by exact h0W)).trans HZ.out; have r0 := cell_of_cells (j := 0) hz7 rfl; have r1 := cell_of_cells (j := 1) hz7 rfl; have r2 := cell_of_cells (j := 2) hz7 rfl; have r3 := cell_of_cells (j := 3) hz7 rfl; have q0 := free_of_cells (j := 0) hz7; have q1 := free_of_cells (j := 1) hz7; have q2 := free_of_cells (j := 2) hz7; have q3 := free_of_cells (j := 3) hz7; clear hz7))
    have HB7 := Go.Proofs.Ytfpbkiknfkjpbaa.hid (HBW.out.drew.trans (hb7.mono (by subst hb0; exact HBW.out.size)))
    clear c0 c1 c2 c3 c4 hb7 pok prd pok2 prd2
    generalize ltN s.par G slot pool = vN at *
    generalize ltP s.par G slot pool = vP at *
    generalize ltS s.par G slot pool = vS at *
    generalize ltL s.par G slot pool = vL at *
    generalize ltE s.par G slot pool = vE at *
    go_wp2
    refine bodyPost_ret (v := .tuple #[.agg #[.int .i64 vN, .int .i64 vP, .int .i64 vS, .bool vL], .int .i64 vE]) (by simp [results, Try.results25, go_sem, r0, r1, r2, r3]) rfl ⟨by rw [HV2.out, HE2.out], left_same HR.out ?_⟩
    subst hb0
    exact below_set4 HB7.out (Nat.le_refl _) _ _ _ _
  · rw [hf]
    simp only [Option.getD_none]
    have hte : TE = missing s id := by rw [← HTE.out]; unfold turnErr; rw [if_pos hm]
    have htv : TV = .agg #[.int .i64 0, .int .i64 0, .int .i64 0, .bool false] := by rw [← HTV.out]; unfold turnV; rw [if_neg (by rw [HTE.out, hte]; exact hm)]
    clear HTE HTV hr hf
    have hmb : (missing s id != 0) = true := by simp [hm]
    subst hte; subst htv
    generalize hMM : missing s id = MM at *
    go_upto_region 2 with (refine wpList_store_row rfl 81 _ _ rfl w1.heap.size (ndA zeroN) rfl rfl 81 (ndA zeroN) (heap_alloc_new w1 _) (info_nodeA _) rfl (nd_one _) ?_)
    generalize hW : (w1.alloc (.cells #[.int .i64 0, .int .i64 0, .int .i64 0, .int .i64 0, .int .i64 0, .int .i64 0, .int .i64 0, .int .i64 0, .int .i64 0, .int .i64 0, .int .i64 0, .int .i64 0, .int .i64 0, .int .i64 0, .int .i64 0, .int .i64 0, .int .i64 0, .int .i64 0, .int .i64 0, .int .i64 0, .int .i64 0, .int .i64 0, .int .i64 0, .int .i64 0, .int .i64 0, .int .i64 0, .int .i64 0, .int .i64 0, .int .i64 0, .int .i64 0, .int .i64 0, .int .i64 0, .int .i64 0, .int .i64 0, .int .i64 0, .int .i64 0, .int .i64 0] 81)).setRow w1.heap.size (ndA zeroN) = W at *
    obtain ⟨hsW, hbW, hWR⟩ := row_new hW
    have hZ : W.heap[w.heap.size]? = _ := (hbW.block _ (by omega)).trans hz1
    have HBW := Go.Proofs.Ytfpbkiknfkjpbaa.hid (hbw.trans (hbW.mono (by omega)))
    have r0 := cell_of_cells (j := 0) hZ rfl
    have r1 := cell_of_cells (j := 1) hZ rfl
    have r2 := cell_of_cells (j := 2) hZ rfl
    have r3 := cell_of_cells (j := 3) hZ rfl
    have q0 := free_of_cells (j := 0) hZ
    have q1 := free_of_cells (j := 1) hZ
    have q2 := free_of_cells (j := 2) hZ
    have q3 := free_of_cells (j := 3) hZ
    clear hW hr1 hbW hWR hZ hz1 hbw
    go_wp2
    refine bodyPost_ret (v := .tuple #[.agg #[.int .i64 0, .int .i64 0, .int .i64 0, .bool false], .int .i64 MM]) (by simp [results, Try.results25, go_sem, r0, r1, r2, r3]) rfl ⟨by rw [hMM], left_same HR.out (below_set4 HBW.out (Nat.le_refl _) _ _ _ _)⟩

end Go.Proofs.Ytfpbkiknfkjpbaa

namespace Go.Proofs.Ytfpbkiknfkjpbaa
open Go.RowKit Num Bk
set_option linter.unusedVariables false

theorem turnErr_kept {s : St} {k : Nat} (hk : k ∈ s.keep) (slot pool : Int) : turnErr s (k : Int) slot pool = if slotOk s k slot = false then 4 else if poolOk s pool = false then 5 else 0 := by
  have hm : missing s (k : Int) = 0 := by unfold missing; rw [(has_nat _ _).2 hk]; rfl
  unfold turnErr
  rw [if_neg (by simp [hm]), Int.toNat_natCast]

theorem refused_match {s : St} (hi : Inv s) {k : Nat} (hk : k ∈ s.keep) (h : Hdr) :
    refused s (k : Int) h = if nextErr s.par (pageOf s.par s.all k) h = 0 then (if 0 < there s (k : Int) h then 10 else 0) else nextErr s.par (pageOf s.par s.all k) h := by
  have hs := slot_match hi (inv_lt hi hk) h.slot
  unfold refused
  rw [turnErr_kept hk, nextErr_eq, Int.toNat_natCast]
  by_cases h1 : slotOk s k h.slot = false
  · rw [if_pos h1, if_pos (hs.2 h1)]
    simp
  · rw [if_neg h1, if_neg (fun e => h1 (hs.1 e))]
    have h1' : slotOk s k h.slot = true := by simpa using h1
    obtain ⟨hp1, hp2, hp3⟩ := proof_match hi hk h.slot h.pool h1'
    rw [poolB_ok]
    by_cases h2 : poolOk s h.pool = false
    · rw [if_pos h2, if_pos h2]
      simp
    · rw [if_neg h2, if_neg h2]
      have h2' : poolOk s h.pool = true := by simpa using h2
      have hpn : ((h.pool.toNat : Nat) : Int) = h.pool := by
        simp only [poolOk, Bool.and_eq_true, decide_eq_true_eq] at h2'
        omega
      have hcn : (pageOf s.par s.all k).counts h.pool.toNat = countAt s.all h.pool k := by
        show countAt s.all ((h.pool.toNat : Nat) : Int) k = _
        rw [hpn]
      rw [hcn, hp1, hp3]
      rw [if_neg (show ¬ ((0 : Int) ≠ 0) from fun e => e rfl)]
      by_cases h3 : h.count ≠ countAt s.all h.pool k ∧ h.count ≠ countAt s.all h.pool k + 1
      · rw [if_pos h3, if_pos h3]; simp
      · rw [if_neg h3, if_neg h3]
        have hst : (pageOf s.par s.all k).stakes h.frm.toNat = (stakesAt s.par s.all k).getD h.frm.toNat 0 := rfl
        by_cases h4 : poolOk s h.frm = false ∨ poolOk s h.dst = false
        · have hm : mayB s.par (pageOf s.par s.all k) h = false := by
            unfold mayB
            rw [poolB_ok, poolB_ok]
            rcases h4 with h4 | h4
            · rw [h4]; rfl
            · rw [h4]; simp
          rw [if_pos h4, if_pos hm]; simp
        · rw [if_neg h4]
          have hf : poolOk s h.frm = true := by cases e : poolOk s h.frm <;> simp_all
          have hd' : poolOk s h.dst = true := by cases e : poolOk s h.dst <;> simp_all
          have hmay : mayB s.par (pageOf s.par s.all k) h = (decide (0 ≤ h.amount) && decide (h.amount ≤ (stakesAt s.par s.all k).getD h.frm.toNat 0)) := by
            unfold mayB
            rw [poolB_ok, poolB_ok, hf, hd', hst]; rfl
          rw [hmay]
          by_cases h5 : h.amount < 0 ∨ (stakesAt s.par s.all k).getD h.frm.toNat 0 < h.amount
          · have hm : (decide (0 ≤ h.amount) && decide (h.amount ≤ (stakesAt s.par s.all k).getD h.frm.toNat 0)) = false := by
              rw [Bool.and_eq_false_iff]
              rcases h5 with h5 | h5
              · exact Or.inl (decide_eq_false (by omega))
              · exact Or.inr (decide_eq_false (by omega))
            rw [if_pos h5, if_pos hm]; simp
          · have hm : ¬ (decide (0 ≤ h.amount) && decide (h.amount ≤ (stakesAt s.par s.all k).getD h.frm.toNat 0)) = false := by
              rw [Bool.and_eq_false_iff]
              simp only [decide_eq_false_iff_not]
              omega
            rw [if_neg h5, if_neg hm]
            by_cases h6 : h.proof ≠ proofAt s k h.slot h.pool
            · rw [if_pos h6, if_pos h6]; simp
            · rw [if_neg h6, if_neg h6]
              by_cases h7 : leadsAt s k h.slot h.pool = false
              · rw [if_pos h7, if_pos h7]; simp
              · rw [if_neg h7, if_neg h7]; simp

theorem offerErr_miss {s : St} {parent : Int} (h : Hdr) (hm : missing s parent ≠ 0) : offerErr s parent h = missing s parent := by
  have ht : turnErr s parent h.slot h.pool = missing s parent := by unfold turnErr; rw [if_pos hm]
  have hr : refused s parent h = missing s parent := by unfold refused; rw [ht, if_pos hm]
  unfold offerErr
  rw [hr, if_pos hm]

theorem offerErr_next {s : St} (hi : Inv s) {k : Nat} (hk : k ∈ s.keep) (h : Hdr) (hn : nextErr s.par (pageOf s.par s.all k) h ≠ 0) : offerErr s (k : Int) h = nextErr s.par (pageOf s.par s.all k) h := by
  have hr := refused_match hi hk h
  rw [if_neg hn] at hr
  unfold offerErr
  rw [hr, if_pos hn]

theorem offerErr_add {s : St} (hi : Inv s) {k : Nat} (hk : k ∈ s.keep) (h : Hdr) (hn : nextErr s.par (pageOf s.par s.all k) h = 0) :
    offerErr s (k : Int) h = if hasN (s.keep.map (ndOf s.par s.all)) (k : Int) h = true then 10 else if s.par.room ≤ s.keep.length then 11 else 0 := by
  have hr := refused_match hi hk h
  rw [if_pos hn] at hr
  unfold offerErr
  rw [hr, hasN_map hi (k : Int) h (by omega)]
  by_cases ht : 0 < there s (k : Int) h
  · rw [if_pos ht]; simp [ht]
  · rw [if_neg ht]; simp [ht]

theorem offer_no {s : St} {parent : Int} {h : Hdr} (he : offerErr s parent h ≠ 0) : offer s parent h = s ∧ offerId s parent h = 0 := by
  unfold offer offerId
  rw [if_neg he, if_neg he]
  exact ⟨rfl, rfl⟩


theorem rep_offer {s : St} (hi : Inv s) {k : Nat} {h : Hdr} (ha : Accept s k h) :
    setN (s.keep.map (ndOf s.par s.all) ++ [newN s k h]) (line s.all (fin s)).dropLast s.par.depth.toNat (fin s) = (taken s k h).keep.map (ndOf s.par (taken s k h).all) ∧
    setP (s.keep.map (ndOf s.par s.all) ++ [newN s k h]) (line s.all (fin s)).dropLast s.par.depth.toNat (fin s) = (line (taken s k h).all (fin (taken s k h))).dropLast := by
  have hst := settled hi ha
  have hid : (deepN (s.keep.map (ndOf s.par s.all) ++ [newN s k h]) s.par.depth.toNat (tipN (s.keep.map (ndOf s.par s.all) ++ [newN s k h]))).id = (fin (mid s k h) : Int) := by rw [hst.deep]; rfl
  unfold setN setP
  rw [hid]
  by_cases e : fin (mid s k h) = fin s
  · rw [if_pos (by rw [e]), if_pos (by rw [e])]
    obtain ⟨h1, h2⟩ := hst.same e
    exact ⟨h1.symm, by rw [h2]⟩
  · rw [if_neg (by omega), if_neg (by omega)]
    obtain ⟨h1, h2⟩ := hst.more e
    exact ⟨by rw [hst.deep]; exact h1, h2.symm⟩

end Go.Proofs.Ytfpbkiknfkjpbaa

namespace Go.Proofs.Ytfpbkiknfkjpbaa
open Go.RowKit Num Bk
set_option linter.unusedVariables false

def storePg (p v : Value) : Sem Unit := Instr.storeAt 79 p v
theorem storePg_eq (p v : Value) : Instr.storeAt 79 p v = storePg p v := rfl
def isPg (w : World) (b : Nat) : Bool := match w.heap[b]? with
  | some (.cells cs _ fr) => decide (cs.size = 27) && decide (fr = (0, 0))
  | _ => false
theorem isPg_of {w : World} {b : Nat} {cs : Array Value} {t : TypeId} (h : w.heap[b]? = some (.cells cs t (0, 0))) (hs : cs.size = 27) : isPg w b = true := by
  unfold isPg; rw [h]; simp [hs]
theorem run_storePg (w : World) (b : Nat) (g : Pg) (h : isPg w b = true) : (storePg (.pointer (some ⟨b, 0, none⟩)) (.agg (pgA g))).run Try.prog w = .ok () (w.setRow b (pgA g)) := by
  unfold isPg at h
  split at h
  · rename_i cs t fr hc
    simp only [Bool.and_eq_true, decide_eq_true_eq] at h
    obtain ⟨h1, h2⟩ := h
    subst h2
    unfold storePg
    simp only [Instr.storeAt, Instr.sureAddr, Sem.run_bind, Sem.run_pure, Result.andThen_ok]
    exact run_storeVar_row w b t 79 cs (pgA g) hc (info_page g) h1 (pg_one g)
  · simp at h

theorem row_cell {w : World} {b b' j : Nat} {cs : Array Value} (h : b ≠ b') : (w.setRow b' cs).cell? ⟨b, j, none⟩ = w.cell? ⟨b, j, none⟩ := cell_setRow_other w b' cs ⟨b, j, none⟩ h
theorem row_part {w : World} {b b' o n : Nat} {cs : Array Value} (h : b ≠ b') : okP (w.setRow b' cs) b o n = okP w b o n ∧ rdP (w.setRow b' cs) b o n = rdP w b o n := by
  have hc : ∀ j, (w.setRow b' cs).cell? ⟨b, o + j, none⟩ = w.cell? ⟨b, o + j, none⟩ := fun j => row_cell h
  unfold okP rdP
  simp only [hc]
  exact ⟨trivial, trivial⟩

theorem part_alloc {w : World} {B o n : Nat} (hB : B < w.heap.size) (ob : Obj) : okP (w.alloc ob) B o n = okP w B o n ∧ rdP (w.alloc ob) B o n = rdP w B o n :=
  part_keep (C := w.heap.size) ((Below.refl _ _).alloc (Nat.le_refl _) _) hB

theorem next_v (p : Par) (g : Pg) (h : Hdr) (w : World) (hp : ParOk p) (hg : PgOk p g) :
    Calls Try.prog 96 #[rulV p, pageV g, hdrV h] w fun r w' => r = .returned (.tuple #[.agg (pgA (nextV p g h)), .int .i64 (nextErr p g h)]) ∧ Below w.heap.size w w' := next_is p g h w hp hg

theorem chd_block {w w' : World} {x gk b : Nat} {pv : Value} {p : Par} {acc : Int} {ns : List Nd} {past : List Nat} (h : Chd w w' x gk pv p acc ns past) (hb : b < w.heap.size) (h1 : b ≠ x) (h2 : b ≠ gk) (h3 : ∀ k, pv.ownBlock = some k → b ≠ k) : w'.heap[b]? = w.heap[b]? := by
  obtain ⟨_, _, _, _, hF, _, _⟩ := h
  exact hF.block b hb (by rintro (e | e | e); exact h1 e; exact h2 e; exact h3 b e rfl)

theorem left_offer {w w' W : World} {x gk ck : Nat} {pv : Value} {F : Nat → Prop} {s : St} {k : Nat} {h : Hdr} (hi : Inv s) (ha : Accept s k h) (hF : ∀ j, F j ↔ (j = x ∨ j = gk ∨ pv.ownBlock = some j)) (hb : Below w.heap.size w W)
    (hc : Chd W w' x gk pv s.par ((s.all.length : Int) - 1 + 1) (setN (s.keep.map (ndOf s.par s.all) ++ [newN s k h]) (line s.all (fin s)).dropLast s.par.depth.toNat (fin s)) (setP (s.keep.map (ndOf s.par s.all) ++ [newN s k h]) (line s.all (fin s)).dropLast s.par.depth.toNat (fin s))) : Left RepP w w' x F (taken s k h) := by
  obtain ⟨gk', ck', pv', hC, hFr, hg, hp⟩ := hc
  obtain ⟨e1, e2⟩ := rep_offer hi ha
  rw [e1, e2] at hC
  have hs := hb.size
  refine ⟨fun j => j = x ∨ j = gk' ∨ pv'.ownBlock = some j, ⟨gk', ck', pv', ⟨?_⟩, fun j => Iff.rfl⟩, ?_, ?_⟩
  · have : ((taken s k h).all.length : Int) - 1 = (s.all.length : Int) - 1 + 1 := by simp [taken]
    rw [this]
    exact hC
  · exact (Fr.of_below hb F (fun k h1 h2 => by omega)).trans' hFr (fun i _ h => (hF i).2 h)
  · rintro j (e | e | e)
    · exact Or.inl ((hF j).2 (Or.inl e))
    · rcases hg with h' | h'
      · exact Or.inl ((hF j).2 (Or.inr (Or.inl (e.trans h'))))
      · exact Or.inr (by omega)
    · rcases hp j e with h' | h'
      · exact Or.inl ((hF j).2 (Or.inr (Or.inr h')))
      · exact Or.inr (by omega)

theorem rel_a {W w7 : World} {z : Array Value} {g : Pg} {B b0 : Nat} (hb : Below W.heap.size W w7) (hB : B < W.heap.size) (h0 : b0 < W.heap.size) (hne : b0 ≠ B) :
    ((w7.alloc (.cells z 79)).setRow w7.heap.size (pgA g)).heap[w7.heap.size]? = some (.cells (pgA g) 79 (0, 0)) ∧ ((w7.alloc (.cells z 79)).setRow w7.heap.size (pgA g)).heap[B]? = W.heap[B]? ∧ ((w7.alloc (.cells z 79)).setRow w7.heap.size (pgA g)).heap[b0]? = W.heap[b0]? ∧ b0 < w7.heap.size ∧ w7.heap.size ≠ B ∧ Below W.heap.size W ((w7.alloc (.cells z 79)).setRow w7.heap.size (pgA g)) := by
  obtain ⟨h1, h2, h3⟩ := row_new (w := w7) (z := z) (x := pgA g) (t := 79) rfl
  have hs := hb.size
  have hB2 := hb.trans (h2.mono hs)
  exact ⟨h3, hB2.block B hB, hB2.block b0 h0, by omega, by omega, hB2⟩
theorem rel_b {W w7 : World} {z : Array Value} {g : Pg} {B b0 : Nat} (hb : Below (W.alloc (.cells z 79)).heap.size (W.alloc (.cells z 79)) w7) (hB : B < W.heap.size) (h0 : b0 < W.heap.size) (hne : b0 ≠ B) :
    (w7.setRow W.heap.size (pgA g)).heap[W.heap.size]? = some (.cells (pgA g) 79 (0, 0)) ∧ (w7.setRow W.heap.size (pgA g)).heap[B]? = W.heap[B]? ∧ (w7.setRow W.heap.size (pgA g)).heap[b0]? = W.heap[b0]? ∧ b0 < W.heap.size ∧ W.heap.size ≠ B ∧ Below W.heap.size W (w7.setRow W.heap.size (pgA g)) := by
  obtain ⟨h1, h2, h3⟩ := below_of (w := W) (cs := z) (t := 79) rfl
  have h7 : w7.heap[W.heap.size]? = _ := (hb.block _ (lt_of_block h3)).trans h3
  have hB2 : Below W.heap.size W (w7.setRow W.heap.size (pgA g)) := Below.setRow (h2.trans (hb.mono (by omega))) (Nat.le_refl _) _
  exact ⟨setRow_heap _ _ _ _ _ _ h7, hB2.block B hB, hB2.block b0 h0, h0, by omega, hB2⟩

attribute [local go_sem ↓] loadPg_eq loadNd_eq storePg_eq
attribute [local go_sem] run_loadPg run_loadNd run_storePg

set_option maxHeartbeats 6400000 in
set_option maxRecDepth 1000000 in
theorem poffer_is (w : World) (x : Nat) (F : Nat → Prop) (s : St) (parent : Int) (h : Hdr) (hR : RepP w x F s) (hi : Inv s) :
    Calls Try.prog 57 #[.pointer (some ⟨x, 0, none⟩), .int .i64 parent, hdrV h] w fun e w' => e = .returned (.tuple #[.int .i64 (offerId s parent h), .int .i64 (offerErr s parent h)]) ∧ Left RepP w w' x F (offer s parent h) := by
  have HR := Go.Proofs.Ytfpbkiknfkjpbaa.hid hR
  obtain ⟨gk, ck, pv, ⟨hr⟩, hF⟩ := hR
  have HF := Go.Proofs.Ytfpbkiknfkjpbaa.hid hF
  have hks := keep_small hi
  have hls := line_small hi
  clear hF
  obtain ⟨a0, a1, a2, a3, a4, a5, a6⟩ := h
  generalize hOI : offerId s parent ⟨a0, a1, a2, a3, a4, a5, a6⟩ = OI at *
  generalize hOE : offerErr s parent ⟨a0, a1, a2, a3, a4, a5, a6⟩ = OE at *
  generalize hOS : offer s parent ⟨a0, a1, a2, a3, a4, a5, a6⟩ = OS at *
  have HOI := Go.Proofs.Ytfpbkiknfkjpbaa.hid hOI
  have HOE := Go.Proofs.Ytfpbkiknfkjpbaa.hid hOE
  have HOS := Go.Proofs.Ytfpbkiknfkjpbaa.hid hOS
  clear hOI hOE hOS
  unfold hdrV
  simp only
  go_enter Try.func57, Try.ntmps57
  go_upto_region 1 with fail
  generalize hA : w.alloc (.cells #[.int .i64 a0, .int .i64 a1, .int .i64 a2, .int .i64 a3, .int .i64 a4, .int .i64 a5, .int .i64 a6] 65) = A at *
  obtain ⟨hsA, hbA, hAR⟩ := below_of hA
  clear hA
  have hrA := hr.keep hbA
  have hxw : w.heap.size < A.heap.size := by omega
  have hxl := hr.lts
  go_wp2_with fail
  refine (find_is x gk ck pv s.par _ _ _ parent A hrA (by omega) (by omega)).mono ?_
  rintro r w1 ⟨rfl, hb1⟩
  rw [findErr_map hi]
  have hr1 := hrA.keep hb1
  have hz1 : w1.heap[w.heap.size]? = _ := (hb1.block _ hxw).trans hAR
  have hs1 := hb1.size
  have hbw := hbA.trans (hb1.mono (by omega))
  clear hrA hAR hbA hb1 hsA
  unfold ndV
  rcases found hi parent with ⟨hm, k, rfl, hk, hf⟩ | ⟨hm, hf⟩
  · rw [hf, hm]
    simp only [Option.getD_some]
    have hkl := inv_lt hi hk
    have hgo := page_ok hi hkl
    have HND := Go.Proofs.Ytfpbkiknfkjpbaa.hid (show (ndOf s.par s.all k).pg = pageOf s.par s.all k ∧ (ndOf s.par s.all k).id = (k : Int) ∧ (ndOf s.par s.all k).height = (height s.all k : Int) from ⟨rfl, rfl, rfl⟩)
    rw [← HND.out.1] at hgo
    clear hr hm hf
    generalize hn : ndOf s.par s.all k = n at *
    go_upto_region 2 with (refine wpList_store_row rfl 81 _ _ rfl w1.heap.size (ndA n) rfl rfl 81 (ndA zeroN) (heap_alloc_new w1 _) (info_nodeA _) rfl (nd_one _) ?_)
    generalize hW : (w1.alloc (.cells #[.int .i64 0, .int .i64 0, .int .i64 0, .int .i64 0, .int .i64 0, .int .i64 0, .int .i64 0, .int .i64 0, .int .i64 0, .int .i64 0, .int .i64 0, .int .i64 0, .int .i64 0, .int .i64 0, .int .i64 0, .int .i64 0, .int .i64 0, .int .i64 0, .int .i64 0, .int .i64 0, .int .i64 0, .int .i64 0, .int .i64 0, .int .i64 0, .int .i64 0, .int .i64 0, .int .i64 0, .int .i64 0, .int .i64 0, .int .i64 0, .int .i64 0, .int .i64 0, .int .i64 0, .int .i64 0, .int .i64 0, .int .i64 0, .int .i64 0] 81)).setRow w1.heap.size (ndA n) = W at *
    obtain ⟨hsW, hbW, hWR⟩ := row_new hW
    clear hW
    have hrW := hr1.keep hbW
    have hZW : W.heap[w.heap.size]? = _ := (hbW.block _ (by omega)).trans hz1
    have HBW := Go.Proofs.Ytfpbkiknfkjpbaa.hid (hbw.trans (hbW.mono (by omega)))
    have hxW := hrW.lts.1
    have hBW := lt_of_block hWR
    have hB0 : w.heap.size < w1.heap.size := by omega
    generalize w1.heap.size = B at *
    have c0 : W.cell? ⟨x, 0, none⟩ = some (.int .i64 s.par.epoch) := cell_of_cells (j := 0) hrW.blk rfl
    have c1 : W.cell? ⟨x, 1, none⟩ = some (.int .i64 s.par.a) := cell_of_cells (j := 1) hrW.blk rfl
    have c2 : W.cell? ⟨x, 2, none⟩ = some (.int .i64 s.par.b) := cell_of_cells (j := 2) hrW.blk rfl
    have c3 : W.cell? ⟨x, 3, none⟩ = some (.int .i64 (s.par.stakes.length : Int)) := cell_of_cells (j := 3) hrW.blk rfl
    have c4 : W.cell? ⟨x, 4, none⟩ = some (.int .i64 (total s.par)) := cell_of_cells (j := 4) hrW.blk rfl
    have po := page_in hWR
    have pok := po.1
    have prd := po.2
    have h0W : w.heap.size < W.heap.size := by omega
    generalize hb0 : w.heap.size = b0 at *
    have f0 : W.cell? ⟨b0, 0, none⟩ = some (.int .i64 a0) := cell_of_cells (j := 0) hZW rfl
    have f1 : W.cell? ⟨b0, 1, none⟩ = some (.int .i64 a1) := cell_of_cells (j := 1) hZW rfl
    have f2 : W.cell? ⟨b0, 2, none⟩ = some (.int .i64 a2) := cell_of_cells (j := 2) hZW rfl
    have f3 : W.cell? ⟨b0, 3, none⟩ = some (.int .i64 a3) := cell_of_cells (j := 3) hZW rfl
    have f4 : W.cell? ⟨b0, 4, none⟩ = some (.int .i64 a4) := cell_of_cells (j := 4) hZW rfl
    have f5 : W.cell? ⟨b0, 5, none⟩ = some (.int .i64 a5) := cell_of_cells (j := 5) hZW rfl
    have f6 : W.cell? ⟨b0, 6, none⟩ = some (.int .i64 a6) := cell_of_cells (j := 6) hZW rfl
    have HWR := Go.Proofs.Ytfpbkiknfkjpbaa.hid hWR
    have HZW := Go.Proofs.Ytfpbkiknfkjpbaa.hid hZW
    have HRW := Go.Proofs.Ytfpbkiknfkjpbaa.hid hrW
    clear hr1 hbW hWR hrW po hz1 hbw hZW
    have hpar := hi.par
    generalize hG : n.pg = G at *
    have pok2 : okP W.drew B 10 27 = true := pok
    have prd2 : rdP W.drew B 10 27 = pgA G := prd
    have pok4 : ∀ ob, okP (W.alloc ob).drew B 10 27 = true := fun ob => (part_alloc hBW ob).1.trans pok
    have prd4 : ∀ ob, rdP (W.alloc ob).drew B 10 27 = pgA G := fun ob => (part_alloc hBW ob).2.trans prd
    have d0 : ∀ ob, (W.alloc ob).cell? ⟨x, 0, none⟩ = some (.int .i64 s.par.epoch) := fun ob => (World.cell?_alloc_past _ _ _ hxW).trans c0
    have d1 : ∀ ob, (W.alloc ob).cell? ⟨x, 1, none⟩ = some (.int .i64 s.par.a) := fun ob => (World.cell?_alloc_past _ _ _ hxW).trans c1
    have d2 : ∀ ob, (W.alloc ob).cell? ⟨x, 2, none⟩ = some (.int .i64 s.par.b) := fun ob => (World.cell?_alloc_past _ _ _ hxW).trans c2
    have d3 : ∀ ob, (W.alloc ob).cell? ⟨x, 3, none⟩ = some (.int .i64 (s.par.stakes.length : Int)) := fun ob => (World.cell?_alloc_past _ _ _ hxW).trans c3
    have d4 : ∀ ob, (W.alloc ob).cell? ⟨x, 4, none⟩ = some (.int .i64 (total s.par)) := fun ob => (World.cell?_alloc_past _ _ _ hxW).trans c4
    have g0 : ∀ ob, (W.alloc ob).cell? ⟨b0, 0, none⟩ = some (.int .i64 a0) := fun ob => (World.cell?_alloc_past _ _ _ h0W).trans f0
    have g1 : ∀ ob, (W.alloc ob).cell? ⟨b0, 1, none⟩ = some (.int .i64 a1) := fun ob => (World.cell?_alloc_past _ _ _ h0W).trans f1
    have g2 : ∀ ob, (W.alloc ob).cell? ⟨b0, 2, none⟩ = some (.int .i64 a2) := fun ob => (World.cell?_alloc_past _ _ _ h0W).trans f2
    have g3 : ∀ ob, (W.alloc ob).cell? ⟨b0, 3, none⟩ = some (.int .i64 a3) := fun ob => (World.cell?_alloc_past _ _ _ h0W).trans f3
    have g4 : ∀ ob, (W.alloc ob).cell? ⟨b0, 4, none⟩ = some (.int .i64 a4) := fun ob => (World.cell?_alloc_past _ _ _ h0W).trans f4
    have g5 : ∀ ob, (W.alloc ob).cell? ⟨b0, 5, none⟩ = some (.int .i64 a5) := fun ob => (World.cell?_alloc_past _ _ _ h0W).trans f5
    have g6 : ∀ ob, (W.alloc ob).cell? ⟨b0, 6, none⟩ = some (.int .i64 a6) := fun ob => (World.cell?_alloc_past _ _ _ h0W).trans f6
    generalize hNV : nextV s.par G ⟨a0, a1, a2, a3, a4, a5, a6⟩ = NV at *
    generalize hNE : nextErr s.par G ⟨a0, a1, a2, a3, a4, a5, a6⟩ = NE at *
    have HNX : Hid (∀ w, Calls Try.prog 96 #[rulV s.par, pageV G, hdrV ⟨a0, a1, a2, a3, a4, a5, a6⟩] w fun r w' => r = .returned (.tuple #[.agg (pgA NV), .int .i64 NE]) ∧ Below w.heap.size w w') := fun w => by
      have := next_v s.par G ⟨a0, a1, a2, a3, a4, a5, a6⟩ w hpar hgo
      rw [hNV, hNE] at this
      exact this
    have rxW : ∀ (w : World) cs j, (w.setRow W.heap.size cs).cell? ⟨x, j, none⟩ = w.cell? ⟨x, j, none⟩ := fun w cs j => row_cell (Nat.ne_of_lt hxW)
    have r0W : ∀ (w : World) cs j, (w.setRow W.heap.size cs).cell? ⟨b0, j, none⟩ = w.cell? ⟨b0, j, none⟩ := fun w cs j => row_cell (Nat.ne_of_lt h0W)
    have roW : ∀ (w : World) cs, okP (w.setRow W.heap.size cs) B 10 27 = okP w B 10 27 := fun w cs => (row_part (Nat.ne_of_lt hBW)).1
    have rrW : ∀ (w : World) cs, rdP (w.setRow W.heap.size cs) B 10 27 = rdP w B 10 27 := fun w cs => (row_part (Nat.ne_of_lt hBW)).2
    go_upto_region 4 with fail
    go_cut [9, 10] (fun v9 v10 wx => ∃ B2, v9 = .int .i64 NE ∧ v10 = .pointer (some ⟨B2, 0, none⟩) ∧ wx.heap[B2]? = some (.cells (pgA NV) 79 (0, 0)) ∧ wx.heap[B]? = some (.cells (ndA n) 81 (0, 0)) ∧ wx.heap[b0]? = W.heap[b0]? ∧ b0 < B2 ∧ B2 ≠ B ∧ Below W.heap.size W wx)
    case first =>
      go_region_held3 (fun w' => w'.cell? ⟨x, 0, none⟩ = some (.int .i64 s.par.epoch) ∧ w'.cell? ⟨x, 1, none⟩ = some (.int .i64 s.par.a) ∧ w'.cell? ⟨x, 2, none⟩ = some (.int .i64 s.par.b) ∧ w'.cell? ⟨x, 3, none⟩ = some (.int .i64 (s.par.stakes.length : Int)) ∧ w'.cell? ⟨x, 4, none⟩ = some (.int .i64 (total s.par)) ∧ w'.cell? ⟨b0, 0, none⟩ = some (.int .i64 a0) ∧ w'.cell? ⟨b0, 1, none⟩ = some (.int .i64 a1) ∧ w'.cell? ⟨b0, 2, none⟩ = some (.int .i64 a2) ∧ w'.cell? ⟨b0, 3, none⟩ = some (.int .i64 a3) ∧ w'.cell? ⟨b0, 4, none⟩ = some (.int .i64 a4) ∧ w'.cell? ⟨b0, 5, none⟩ = some (.int .i64 a5) ∧ w'.cell? ⟨b0, 6, none⟩ = some (.int .i64 a6) ∧ okP w' B 10 27 = true ∧ rdP w' B 10 27 = pgA G) (go_keep) ((go_at_call 96; refine (HNX.out _).mono ?_; rintro e w7 ⟨rfl, hb7⟩; have m0 := (hb7.cell (p := ⟨x, 0, none⟩) (by first | exact hxW | exact Nat.lt_succ_of_lt hxW | (simp; omega))).trans (by first | exact c0 | exact d0 _); have m1 := (hb7.cell (p := ⟨x, 1, none⟩) (by first | exact hxW | exact Nat.lt_succ_of_lt hxW | (simp; omega))).trans (by first | exact c1 | exact d1 _); have m2 := (hb7.cell (p := ⟨x, 2, none⟩) (by first | exact hxW | exact Nat.lt_succ_of_lt hxW | (simp; omega))).trans (by first | exact c2 | exact d2 _); have m3 := (hb7.cell (p := ⟨x, 3, none⟩) (by first | exact hxW | exact Nat.lt_succ_of_lt hxW | (simp; omega))).trans (by first | exact c3 | exact d3 _); have m4 := (hb7.cell (p := ⟨x, 4, none⟩) (by first | exact hxW | exact Nat.lt_succ_of_lt hxW | (simp; omega))).trans (by first | exact c4 | exact d4 _); have mf0 := (hb7.cell (p := ⟨b0, 0, none⟩) (by first | exact h0W | exact Nat.lt_succ_of_lt h0W | (simp; omega))).trans (by first | exact f0 | exact g0 _); have mf1 := (hb7.cell (p := ⟨b0, 1, none⟩) (by first | exact h0W | exact Nat.lt_succ_of_lt h0W | (simp; omega))).trans (by first | exact f1 | exact g1 _); have mf2 := (hb7.cell (p := ⟨b0, 2, none⟩) (by first | exact h0W | exact Nat.lt_succ_of_lt h0W | (simp; omega))).trans (by first | exact f2 | exact g2 _); have mf3 := (hb7.cell (p := ⟨b0, 3, none⟩) (by first | exact h0W | exact Nat.lt_succ_of_lt h0W | (simp; omega))).trans (by first | exact f3 | exact g3 _); have mf4 := (hb7.cell (p := ⟨b0, 4, none⟩) (by first | exact h0W | exact Nat.lt_succ_of_lt h0W | (simp; omega))).trans (by first | exact f4 | exact g4 _); have mf5 := (hb7.cell (p := ⟨b0, 5, none⟩) (by first | exact h0W | exact Nat.lt_succ_of_lt h0W | (simp; omega))).trans (by first | exact f5 | exact g5 _); have mf6 := (hb7.cell (p := ⟨b0, 6, none⟩) (by first | exact h0W | exact Nat.lt_succ_of_lt h0W | (simp; omega))).trans (by first | exact f6 | exact g6 _); have mo : okP w7 B 10 27 = true := (part_keep hb7 (by first | exact hBW | exact Nat.lt_succ_of_lt hBW | (simp; omega))).1.trans (by first | exact pok | exact pok4 _); have mr : rdP w7 B 10 27 = pgA G := (part_keep hb7 (by first | exact hBW | exact Nat.lt_succ_of_lt hBW | (simp; omega))).2.trans (by first | exact prd | exact prd4 _); have hs7 := hb7.size; have hB7 : B < w7.heap.size := Nat.lt_of_lt_of_le (by first | exact hBW | exact Nat.lt_succ_of_lt hBW | (simp; omega)) hs7; have mo7 : ∀ ob, okP (w7.alloc ob) B 10 27 = true := fun ob => (part_alloc hB7 ob).1.trans mo; have mr7 : ∀ ob, rdP (w7.alloc ob) B 10 27 = pgA G := fun ob => (part_alloc hB7 ob).2.trans mr; have hp7 : isPg (w7.alloc (.cells #[.int .i64 0, .int .i64 0, .int .i64 0, .int .i64 0, .int .i64 0, .int .i64 0, .int .i64 0, .int .i64 0, .int .i64 0, .int .i64 0, .int .i64 0, .int .i64 0, .int .i64 0, .int .i64 0, .int .i64 0, .int .i64 0, .int .i64 0, .int .i64 0, .int .i64 0, .int .i64 0, .int .i64 0, .int .i64 0, .int .i64 0, .int .i64 0, .int .i64 0, .int .i64 0, .int .i64 0] 79)) w7.heap.size = true := isPg_of (heap_alloc_new w7 _) rfl; have hx7 : x ≠ w7.heap.size := Nat.ne_of_lt (Nat.lt_of_lt_of_le (by first | exact hxW | exact Nat.lt_succ_of_lt hxW | (simp; omega)) hs7); have h07 : b0 ≠ w7.heap.size := Nat.ne_of_lt (Nat.lt_of_lt_of_le (by first | exact h0W | exact Nat.lt_succ_of_lt h0W | (simp; omega)) hs7); have rx7 : ∀ (w : World) cs j, (w.setRow w7.heap.size cs).cell? ⟨x, j, none⟩ = w.cell? ⟨x, j, none⟩ := fun w cs j => row_cell hx7; have r07 : ∀ (w : World) cs j, (w.setRow w7.heap.size cs).cell? ⟨b0, j, none⟩ = w.cell? ⟨b0, j, none⟩ := fun w cs j => row_cell h07; have ro7 : ∀ (w : World) cs, okP (w.setRow w7.heap.size cs) B 10 27 = okP w B 10 27 := fun w cs => (row_part (Nat.ne_of_lt hB7)).1; have rr7 : ∀ (w : World) cs, rdP (w.setRow w7.heap.size cs) B 10 27 = rdP w B 10 27 := fun w cs => (row_part (Nat.ne_of_lt hB7)).2; (try (have hq7 : isPg w7 W.heap.size = true := isPg_of ((hb7.block W.heap.size (by show W.heap.size < (W.alloc _).heap.size; simp)).trans (heap_alloc_new W _)) rfl))))
      all_goals
        go_wp2
        go_meet
        case rel =>
          first
            | (obtain ⟨r1, r2, r3, r4, r5, r6⟩ := rel_a (z := #[.int .i64 0, .int .i64 0, .int .i64 0, .int .i64 0, .int .i64 0, .int .i64 0, .int .i64 0, .int .i64 0, .int .i64 0, .int .i64 0, .int .i64 0, .int .i64 0, .int .i64 0, .int .i64 0, .int .i64 0, .int .i64 0, .int .i64 0, .int .i64 0, .int .i64 0, .int .i64 0, .int .i64 0, .int .i64 0, .int .i64 0, .int .i64 0, .int .i64 0, .int .i64 0, .int .i64 0]) (g := NV) (show Below W.heap.size W w7 from ⟨hb7.os, hb7.tape, hb7.output, hb7.size, hb7.block⟩) hBW h0W (Nat.ne_of_lt hB0); exact ⟨w7.heap.size, rfl, rfl, r1, r2.trans HWR.out, r3, r4, r5, r6⟩)
            | (obtain ⟨r1, r2, r3, r4, r5, r6⟩ := rel_b (z := #[.int .i64 0, .int .i64 0, .int .i64 0, .int .i64 0, .int .i64 0, .int .i64 0, .int .i64 0, .int .i64 0, .int .i64 0, .int .i64 0, .int .i64 0, .int .i64 0, .int .i64 0, .int .i64 0, .int .i64 0, .int .i64 0, .int .i64 0, .int .i64 0, .int .i64 0, .int .i64 0, .int .i64 0, .int .i64 0, .int .i64 0, .int .i64 0, .int .i64 0, .int .i64 0, .int .i64 0]) (g := NV) (show Below (W.alloc _).heap.size (W.alloc _) w7 from ⟨hb7.os, hb7.tape, hb7.output, hb7.size, hb7.block⟩) hBW h0W (Nat.ne_of_lt hB0); exact ⟨W.heap.size, rfl, rfl, r1, r2.trans HWR.out, r3, r4, r5, r6⟩)
    case rest =>
      obtain ⟨B2, rfl, rfl, hP2, hN2, hZ2, hB20, hB2B, hb2⟩ := hcut
      have hZ3 := hZ2.trans HZW.out
      have hr2 := HRW.out.keep hb2
      have HB2 := Go.Proofs.Ytfpbkiknfkjpbaa.hid (show Below w.heap.size w wc by rw [hb0]; exact HBW.out.trans (hb2.mono (by omega)))
      clear c0 c1 c2 c3 c4 d0 d1 d2 d3 d4 f0 f1 f2 f3 f4 f5 f6 g0 g1 g2 g3 g4 g5 g6 pok prd pok2 prd2 pok4 prd4 rxW r0W roW rrW hZ2
      by_cases hz : NE = 0
      · have hnx : nextErr s.par (pageOf s.par s.all k) ⟨a0, a1, a2, a3, a4, a5, a6⟩ = 0 := by rw [← HND.out.1, hNE, hz]
        have hnv : NV = afterPg s.par (pageOf s.par s.all k) ⟨a0, a1, a2, a3, a4, a5, a6⟩ := by
          rw [← hNV]
          unfold nextV
          rw [hNE, if_pos hz, HND.out.1]
        have hea := offerErr_add hi hk ⟨a0, a1, a2, a3, a4, a5, a6⟩ hnx
        have hnid := HND.out.2.1
        have hnht := HND.out.2.2
        have hzb : (NE != 0) = false := by simp [hz]
        have hr2d : ChAt wc.drew x gk ck pv s.par ((s.all.length : Int) - 1) (s.keep.map (ndOf s.par s.all)) (line s.all (fin s)).dropLast := ⟨hr2.blk, hr2.kep, hr2.pst⟩
        have hlm : (s.keep.map (ndOf s.par s.all)).length = s.keep.length := List.length_map ..
        have f0 := cell_of_cells (j := 0) hZ3 rfl
        have f1 := cell_of_cells (j := 1) hZ3 rfl
        have f2 := cell_of_cells (j := 2) hZ3 rfl
        have f3 := cell_of_cells (j := 3) hZ3 rfl
        have f4 := cell_of_cells (j := 4) hZ3 rfl
        have f5 := cell_of_cells (j := 5) hZ3 rfl
        have f6 := cell_of_cells (j := 6) hZ3 rfl
        have no1 := (node_at hN2).1
        have no2 := (node_at hN2).2
        have po1 := (page_at hP2).1
        have po2 := (page_at hP2).2
        have no1d : okP wc.drew B 0 37 = true := no1
        have no2d : rdP wc.drew B 0 37 = ndA n := no2
        have po1d : okP wc.drew B2 0 27 = true := po1
        have po2d : rdP wc.drew B2 0 27 = pgA NV := po2
        have HZ3 := Go.Proofs.Ytfpbkiknfkjpbaa.hid hZ3
        have HN2 := Go.Proofs.Ytfpbkiknfkjpbaa.hid hN2
        have HP2 := Go.Proofs.Ytfpbkiknfkjpbaa.hid hP2
        have hlZ := lt_of_block hZ3
        have hlN := lt_of_block hN2
        have hlP := lt_of_block hP2
        by_cases hno : hasN (s.keep.map (ndOf s.par s.all)) (k : Int) ⟨a0, a1, a2, a3, a4, a5, a6⟩ = true ∨ s.par.room ≤ s.keep.length
        · have hoe : OE = (if hasN (s.keep.map (ndOf s.par s.all)) n.id ⟨a0, a1, a2, a3, a4, a5, a6⟩ = true then 10 else 11) := by
            rw [← HOE.out, hea, hnid]
            rcases hno with h | h
            · rw [if_pos h, if_pos h]
            · rw [if_pos h]
          have hne : OE ≠ 0 := by rw [hoe]; split <;> decide
          obtain ⟨ho1, ho2⟩ := offer_no (show offerErr s (k : Int) ⟨a0, a1, a2, a3, a4, a5, a6⟩ ≠ 0 by rw [HOE.out]; exact hne)
          have hos : OS = s := HOS.out.symm.trans ho1
          have hoi : OI = 0 := HOI.out.symm.trans ho2
          have HAD : Hid (Calls Try.prog 97 #[.pointer (some ⟨x, 5, none⟩), ndV n, hdrV ⟨a0, a1, a2, a3, a4, a5, a6⟩, pageV NV] wc.drew fun e w' => e = .returned (.tuple #[.int .i64 0, .int .i64 OE]) ∧ Below wc.heap.size wc.drew w') := by
            have := add_no x gk ck pv s.par _ _ _ n ⟨a0, a1, a2, a3, a4, a5, a6⟩ NV wc.drew hr2d (by omega) (by rw [hnid, hlm]; exact hno)
            rw [← hoe] at this
            exact this
          subst hos; subst hoi
          clear hea hno hoe hne ho1 ho2 hr2d hr2 hnx hnv HOE HOS HOI hZ3 hN2 hP2 hz
          go_wp2
          go_region_held3 (fun w' => w'.cell? ⟨b0, 0, none⟩ = some (.int .i64 a0) ∧ w'.cell? ⟨b0, 1, none⟩ = some (.int .i64 a1) ∧ w'.cell? ⟨b0, 2, none⟩ = some (.int .i64 a2) ∧ w'.cell? ⟨b0, 3, none⟩ = some (.int .i64 a3) ∧ w'.cell? ⟨b0, 4, none⟩ = some (.int .i64 a4) ∧ w'.cell? ⟨b0, 5, none⟩ = some (.int .i64 a5) ∧ w'.cell? ⟨b0, 6, none⟩ = some (.int .i64 a6) ∧ okP w' B 0 37 = true ∧ rdP w' B 0 37 = ndA n ∧ okP w' B2 0 27 = true ∧ rdP w' B2 0 27 = pgA NV) (go_keep) ((go_at_call 97; refine HAD.out.mono ?_; rintro e w8 ⟨rfl, hb8⟩; have kZ8 := (hb8.block b0 hlZ).trans HZ3.out; have kN8 := (hb8.block B hlN).trans HN2.out; have kP8 := (hb8.block B2 hlP).trans HP2.out; have mf0 := cell_of_cells (j := 0) kZ8 rfl; have mf1 := cell_of_cells (j := 1) kZ8 rfl; have mf2 := cell_of_cells (j := 2) kZ8 rfl; have mf3 := cell_of_cells (j := 3) kZ8 rfl; have mf4 := cell_of_cells (j := 4) kZ8 rfl; have mf5 := cell_of_cells (j := 5) kZ8 rfl; have mf6 := cell_of_cells (j := 6) kZ8 rfl; have mo1 := (node_at kN8).1; have mr1 := (node_at kN8).2; have mo2 := (page_at kP8).1; have mr2 := (page_at kP8).2))
          have HFIN := Go.Proofs.Ytfpbkiknfkjpbaa.hid (HB2.out.drew.trans (hb8.mono HB2.out.size))
          go_wp2
          go_ret2
          exact ⟨rfl, left_same HR.out HFIN.out⟩
        · have hh : hasN (s.keep.map (ndOf s.par s.all)) n.id ⟨a0, a1, a2, a3, a4, a5, a6⟩ = false := by
            rw [hnid]
            cases e : hasN (s.keep.map (ndOf s.par s.all)) (k : Int) ⟨a0, a1, a2, a3, a4, a5, a6⟩
            · rfl
            · exact absurd (Or.inl e) hno
          have hroom : (s.keep.length : Int) < s.par.room := by
            have : ¬ s.par.room ≤ s.keep.length := fun e => hno (Or.inr e)
            omega
          have hoe0 : offerErr s (k : Int) ⟨a0, a1, a2, a3, a4, a5, a6⟩ = 0 := by
            rw [hea, if_neg (fun e => hno (Or.inl e)), if_neg (fun e => hno (Or.inr e))]
          obtain ⟨hacc, _, _⟩ := accept_of hoe0
          rw [Int.toNat_natCast] at hacc
          have hoe : OE = 0 := HOE.out.symm.trans hoe0
          have hoi : OI = (s.all.length : Int) - 1 + 1 := by
            rw [← HOI.out]; unfold offerId; rw [if_pos hoe0]; omega
          have hos : OS = taken s k ⟨a0, a1, a2, a3, a4, a5, a6⟩ := by
            rw [← HOS.out]; unfold offer; rw [if_pos hoe0, Int.toNat_natCast]
          have hnew : addN ((s.all.length : Int) - 1) n ⟨a0, a1, a2, a3, a4, a5, a6⟩ NV = newN s k ⟨a0, a1, a2, a3, a4, a5, a6⟩ := by
            unfold addN newN
            rw [hnid, hnht, hnv]
            congr 1
            omega
          have hsm := all_small hi
          have hlen := hi.len
          have hhs := height_small hi hkl
          have hhead : ((s.keep.map (ndOf s.par s.all)).getD 0 zeroN).id = (fin s : Int) := by
            obtain ⟨l, hl⟩ := head_fin hi
            rw [hl]; rfl
          have HAD : Hid (Calls Try.prog 97 #[.pointer (some ⟨x, 5, none⟩), ndV n, hdrV ⟨a0, a1, a2, a3, a4, a5, a6⟩, pageV NV] wc.drew fun e w' => e = .returned (.tuple #[.int .i64 ((s.all.length : Int) - 1 + 1), .int .i64 0]) ∧ Chd wc.drew w' x gk pv s.par ((s.all.length : Int) - 1 + 1) (setN (s.keep.map (ndOf s.par s.all) ++ [newN s k ⟨a0, a1, a2, a3, a4, a5, a6⟩]) (line s.all (fin s)).dropLast s.par.depth.toNat (fin s)) (setP (s.keep.map (ndOf s.par s.all) ++ [newN s k ⟨a0, a1, a2, a3, a4, a5, a6⟩]) (line s.all (fin s)).dropLast s.par.depth.toNat (fin s))) := by
            have := add_yes x gk ck pv s.par _ _ _ n ⟨a0, a1, a2, a3, a4, a5, a6⟩ NV (fin s) wc.drew hr2d (by rw [hlm]; exact hroom) hi.par.r2 hks.2 (by omega) hi.par.d1 hi.par.d2 hhead (by omega) (by omega) (by rw [hnht]; omega) (by rw [hnht]; omega) hh
            rw [hnew] at this
            exact this
          have HAC := Go.Proofs.Ytfpbkiknfkjpbaa.hid hacc
          obtain ⟨hx1, hx2, hx3⟩ := hxl
          have hz1 : b0 ≠ x := by omega
          have hz2 : b0 ≠ gk := by omega
          have hz3 : ∀ j, pv.ownBlock = some j → b0 ≠ j := fun j e => by have := hx3 j e; omega
          have hn1 : B ≠ x := by omega
          have hn2' : B ≠ gk := by omega
          have hn3 : ∀ j, pv.ownBlock = some j → B ≠ j := fun j e => by have := hx3 j e; omega
          have hp1 : B2 ≠ x := by omega
          have hp2 : B2 ≠ gk := by omega
          have hp3 : ∀ j, pv.ownBlock = some j → B2 ≠ j := fun j e => by have := hx3 j e; omega
          subst hos; subst hoi; subst hoe
          clear hea hno hr2d hr2 hnx hnv HOE HOS HOI hZ3 hN2 hP2 hz hh hroom hoe0 hacc hnew hhead
          generalize hAC : (s.all.length : Int) - 1 + 1 = AC at *
          go_wp2
          go_region_held3 (fun w' => w'.cell? ⟨b0, 0, none⟩ = some (.int .i64 a0) ∧ w'.cell? ⟨b0, 1, none⟩ = some (.int .i64 a1) ∧ w'.cell? ⟨b0, 2, none⟩ = some (.int .i64 a2) ∧ w'.cell? ⟨b0, 3, none⟩ = some (.int .i64 a3) ∧ w'.cell? ⟨b0, 4, none⟩ = some (.int .i64 a4) ∧ w'.cell? ⟨b0, 5, none⟩ = some (.int .i64 a5) ∧ w'.cell? ⟨b0, 6, none⟩ = some (.int .i64 a6) ∧ okP w' B 0 37 = true ∧ rdP w' B 0 37 = ndA n ∧ okP w' B2 0 27 = true ∧ rdP w' B2 0 27 = pgA NV) (go_keep) ((go_at_call 97; refine HAD.out.mono ?_; rintro e w8 ⟨rfl, hch⟩; have kZ8 := (chd_block hch hlZ hz1 hz2 hz3).trans HZ3.out; have kN8 := (chd_block hch hlN hn1 hn2' hn3).trans HN2.out; have kP8 := (chd_block hch hlP hp1 hp2 hp3).trans HP2.out; have mf0 := cell_of_cells (j := 0) kZ8 rfl; have mf1 := cell_of_cells (j := 1) kZ8 rfl; have mf2 := cell_of_cells (j := 2) kZ8 rfl; have mf3 := cell_of_cells (j := 3) kZ8 rfl; have mf4 := cell_of_cells (j := 4) kZ8 rfl; have mf5 := cell_of_cells (j := 5) kZ8 rfl; have mf6 := cell_of_cells (j := 6) kZ8 rfl; have mo1 := (node_at kN8).1; have mr1 := (node_at kN8).2; have mo2 := (page_at kP8).1; have mr2 := (page_at kP8).2))
          have HFIN := Go.Proofs.Ytfpbkiknfkjpbaa.hid (left_offer (ck := ck) hi HAC.out HF.out HB2.out.drew (by rw [hAC]; exact hch))
          clear hch
          go_wp2
          go_ret2
          exact ⟨by rw [hAC]; rfl, HFIN.out⟩
      · have hnx : nextErr s.par (pageOf s.par s.all k) ⟨a0, a1, a2, a3, a4, a5, a6⟩ ≠ 0 := by rw [← HND.out.1, hNE]; exact hz
        have hoe : OE = NE := by rw [← HOE.out, offerErr_next hi hk ⟨a0, a1, a2, a3, a4, a5, a6⟩ hnx, ← HND.out.1, hNE]
        obtain ⟨ho1, ho2⟩ := offer_no (show offerErr s (k : Int) ⟨a0, a1, a2, a3, a4, a5, a6⟩ ≠ 0 by rw [HOE.out, hoe]; exact hz)
        have hos : OS = s := HOS.out.symm.trans ho1
        have hoi : OI = 0 := HOI.out.symm.trans ho2
        have hzb : (NE != 0) = true := by simp [hz]
        subst hos; subst hoi; subst hoe
        clear hnx ho1 ho2 HOE HOS HOI hr2 hZ3 hP2 hN2 hb2 HWR HZW HRW
        go_wp2
        go_ret2
        exact ⟨rfl, left_same HR.out HB2.out⟩
  · rw [hf]
    simp only [Option.getD_none]
    have hoe : OE = missing s parent := HOE.out.symm.trans (offerErr_miss ⟨a0, a1, a2, a3, a4, a5, a6⟩ hm)
    obtain ⟨ho1, ho2⟩ := offer_no (show offerErr s parent ⟨a0, a1, a2, a3, a4, a5, a6⟩ ≠ 0 by rw [HOE.out, hoe]; exact hm)
    have hos : OS = s := HOS.out.symm.trans ho1
    have hoi : OI = 0 := HOI.out.symm.trans ho2
    have hmb : (missing s parent != 0) = true := by simp [hm]
    clear HOE HOS HOI hr hf ho1 ho2
    generalize hMM : missing s parent = MM at *
    subst hoe; subst hoi; subst hos
    go_upto_region 2 with (refine wpList_store_row rfl 81 _ _ rfl w1.heap.size (ndA zeroN) rfl rfl 81 (ndA zeroN) (heap_alloc_new w1 _) (info_nodeA _) rfl (nd_one _) ?_)
    generalize hW : (w1.alloc (.cells #[.int .i64 0, .int .i64 0, .int .i64 0, .int .i64 0, .int .i64 0, .int .i64 0, .int .i64 0, .int .i64 0, .int .i64 0, .int .i64 0, .int .i64 0, .int .i64 0, .int .i64 0, .int .i64 0, .int .i64 0, .int .i64 0, .int .i64 0, .int .i64 0, .int .i64 0, .int .i64 0, .int .i64 0, .int .i64 0, .int .i64 0, .int .i64 0, .int .i64 0, .int .i64 0, .int .i64 0, .int .i64 0, .int .i64 0, .int .i64 0, .int .i64 0, .int .i64 0, .int .i64 0, .int .i64 0, .int .i64 0, .int .i64 0, .int .i64 0] 81)).setRow w1.heap.size (ndA zeroN) = W at *
    obtain ⟨hsW, hbW, hWR⟩ := row_new hW
    have HBW := Go.Proofs.Ytfpbkiknfkjpbaa.hid (hbw.trans (hbW.mono (by omega)))
    clear hW hr1 hbW hWR hz1 hbw
    go_wp2
    go_ret2
    exact ⟨rfl, left_same HR.out HBW.out⟩

end Go.Proofs.Ytfpbkiknfkjpbaa

