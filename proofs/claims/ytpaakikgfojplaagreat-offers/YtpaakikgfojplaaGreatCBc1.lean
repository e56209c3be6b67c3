import Derived.Test.YtpaakikgfojplaaGreatCM23
import Derived.Test.YtpaakikgfojplaaGreatCM12
/-
  THE PROGRAM's CHAIN: Turn, Stake, Count.
-/
namespace Go.Proofs.YtpaakikgfojplaaGreat
open Go.RowKit Num Bk
set_option linter.unusedVariables false

/-- The program's chain. -/
structure RepAt (w : World) (x gk ck : Nat) (pv : Value) (s : St) : Prop where
  ch : ChAt w x gk ck pv s.pts s.par ((s.all.length : Int) - 1) (s.keep.map (ndOf s.par s.all)) (line s.all (fin s)).dropLast
def RepP (w : World) (x : Nat) (F : Nat → Prop) (s : St) : Prop := ∃ gk ck pv, RepAt w x gk ck pv s ∧ ∀ k, F k ↔ (k = x ∨ k = gk ∨ pv.ownBlock = some k)

theorem RepP.keep {w w' : World} {x : Nat} {F : Nat → Prop} {s : St} (h : RepP w x F s) (hb : Below w.heap.size w w') : RepP w' x F s := by
  obtain ⟨gk, ck, pv, hr, hF⟩ := h
  exact ⟨gk, ck, pv, ⟨hr.ch.keep hb⟩, hF⟩

theorem left_same {w w' : World} {x : Nat} {F : Nat → Prop} {s : St} (h : RepP w x F s) (hb : Below w.heap.size w w') : Left RepP w w' x F s :=
  ⟨F, h.keep hb, Fr.of_below hb _ (fun k h1 h2 => by omega), fun k h => Or.inl h⟩

theorem rep_fr {w w' : World} {x : Nat} {F G : Nat → Prop} {s : St} (h : RepP w x F s) (hb : Fr G w w') (hG : ∀ k, F k → ¬ G k) : RepP w' x F s := by
  obtain ⟨gk, ck, pv, hr, hF⟩ := h
  refine ⟨gk, ck, pv, ⟨⟨?_, ?_, ?_⟩⟩, hF⟩
  · rw [hb.block x hr.ch.lts.1 (hG x ((hF x).2 (Or.inl rfl)))]; exact hr.ch.blk
  · exact row_fr hr.ch.kep hb (by intro g e; simp [Value.ownBlock] at e; subst e; exact hG _ ((hF _).2 (Or.inr (Or.inl rfl))))
  · exact row_fr hr.ch.pst hb (fun g e => hG g ((hF g).2 (Or.inr (Or.inr e))))
theorem rep_lt {w : World} {x : Nat} {F : Nat → Prop} {s : St} (h : RepP w x F s) (k : Nat) (hk : F k) : k < w.heap.size := by
  obtain ⟨gk, ck, pv, hr, hF⟩ := h
  rcases (hF k).1 hk with e | e | e
  · rw [e]; exact hr.ch.lts.1
  · rw [e]; exact hr.ch.lts.2.1
  · exact hr.ch.lts.2.2 k e

theorem line_small {s : St} (hi : Inv s) : (line s.all (fin s)).dropLast.length ≤ 20000 := by
  have h1 := line_length hi.tree (fin s)
  have h2 := height_small hi (fin_lt hi)
  rw [List.length_dropLast]
  omega
theorem keep_small {s : St} (hi : Inv s) : (s.keep.map (ndOf s.par s.all)).length ≤ 40 ∧ 1 ≤ (s.keep.map (ndOf s.par s.all)).length := by
  have h1 := hi.full
  have h2 := hi.par.r2
  have h3 := hi.wk.kne
  rw [List.length_map]
  omega

/-- A page of a header that came may be reckoned with. -/
theorem page_ok {s : St} (hi : Inv s) {i : Nat} (hl : i < s.all.length) : PgOk s.par (pageOf s.par s.all i) := by
  have ht := total_small hi.par
  refine ⟨?_, run_bounds hi i hl, ?_, fun j => stake_bounds hi hl j, ?_, ?_, ?_⟩
  · unfold slotOkP pageOf
    simp only
    split
    · exact Or.inl rfl
    · exact Or.inr (slot_bounds hi hl)
  · unfold pageOf
    simp only
    split
    · omega
    · exact run_bounds hi _ (last_lt hi _ hl)
  · intro j
    unfold pageOf
    simp only
    split
    · omega
    · exact stake_bounds hi (last_lt hi _ hl) j
  · intro j
    unfold pageOf
    simp only
    split
    · omega
    · exact stake_bounds hi (last_lt hi _ hl) j
  · intro j
    have h1 := count_bounds hi (j : Int) i hl
    have h2 := height_small hi hl
    show 0 ≤ countAt s.all (j : Int) i ∧ countAt s.all (j : Int) i ≤ 20000
    omega

theorem found {s : St} (hi : Inv s) (id : Int) : (missing s id = 0 ∧ ∃ k : Nat, id = (k : Int) ∧ k ∈ s.keep ∧ findN (s.keep.map (ndOf s.par s.all)) id = some (ndOf s.par s.all k)) ∨ (missing s id ≠ 0 ∧ findN (s.keep.map (ndOf s.par s.all)) id = none) := by
  rw [findN_map]
  unfold missing
  cases hh : has s.keep id
  · right
    simp
    split <;> omega
  · left
    rw [has_iff] at hh
    obtain ⟨k, hk, rfl⟩ := hh
    simp
    exact ⟨k, rfl, hk, rfl⟩

def lsV (p : Par) (g : Pg) (pool : Int) : Int := if poolB p pool then g.stakes pool.toNat else 0
def lcV (p : Par) (g : Pg) (pool : Int) : Int := if poolB p pool then g.counts pool.toNat else 0
def leV (p : Par) (pool : Int) : Int := if poolB p pool then 0 else 5
theorem lstake_v (p : Par) (g : Pg) (pool : Int) (w : World) (hp : ParOk p) :
    Calls Tryz.prog 61 #[rulV p, pageV g, .int .i64 pool] w fun r w' => r = .returned (.tuple #[.int .i64 (lsV p g pool), .int .i64 (leV p pool)]) ∧ Below w.heap.size w w' := lstake_is p g pool w hp
theorem lcount_v (p : Par) (g : Pg) (pool : Int) (w : World) (hp : ParOk p) :
    Calls Tryz.prog 62 #[rulV p, pageV g, .int .i64 pool] w fun r w' => r = .returned (.tuple #[.int .i64 (lcV p g pool), .int .i64 (leV p pool)]) ∧ Below w.heap.size w w' := lcount_is p g pool w hp

theorem poolB_ok (s : St) (n : Int) : poolB s.par n = poolOk s n := rfl


attribute [local go_sem ↓] loadPg_eq
attribute [local go_sem] run_loadPg

set_option maxHeartbeats 3200000 in
set_option maxRecDepth 1000000 in
theorem pstake_is (w : World) (x : Nat) (F : Nat → Prop) (s : St) (id pool : Int) (hR : RepP w x F s) (hi : Inv s) :
    Calls Tryz.prog 24 #[.pointer (some ⟨x, 0, none⟩), .int .i64 id, .int .i64 pool] w fun e w' => e = .returned (.tuple #[.int .i64 (stakeV s id pool), .int .i64 (askErr s id pool)]) ∧ Left RepP w w' x F s := by
  have HR := Go.Proofs.YtpaakikgfojplaaGreat.hid hR
  obtain ⟨gk, ck, pv, ⟨hr⟩, hF⟩ := hR
  have hks := keep_small hi
  have hls := line_small hi
  have HA := Go.Proofs.YtpaakikgfojplaaGreat.hid (show askErr s id pool = (if missing s id ≠ 0 then missing s id else if poolOk s pool = false then 5 else 0) from rfl)
  have HV := Go.Proofs.YtpaakikgfojplaaGreat.hid (show stakeV s id pool = (if askErr s id pool = 0 then (stakesAt s.par s.all id.toNat).getD pool.toNat 0 else 0) from rfl)
  generalize askErr s id pool = AE at *
  generalize stakeV s id pool = V at *
  go_enter Tryz.func24, Tryz.ntmps24
  go_wp2_with fail
  refine (find_is x gk ck pv s.par _ _ _ id w hr (by omega) (by omega)).mono ?_
  rintro r w1 ⟨rfl, hb1⟩
  rw [findErr_map hi]
  have hr1 := hr.keep hb1
  unfold ndV
  rcases found hi id with ⟨hm, k, rfl, hk, hf⟩ | ⟨hm, hf⟩
  · rw [hf, hm]
    simp only [Option.getD_some]
    have hkl := inv_lt hi hk
    have HA2 := Go.Proofs.YtpaakikgfojplaaGreat.hid (HA.out.trans (if_neg (by simp [hm])))
    rw [Int.toNat_natCast] at HV
    have HND := Go.Proofs.YtpaakikgfojplaaGreat.hid (show (ndOf s.par s.all k).pg = pageOf s.par s.all k from rfl)
    clear hr hm hf HA
    generalize ndOf s.par s.all k = n at *
    go_upto_region 2 with (refine wpList_store_row rfl 95 _ _ rfl w1.heap.size (ndA n) rfl rfl 95 (ndA zeroN) (heap_alloc_new w1 _) (info_nodeA _) rfl (nd_one _) ?_)
    generalize hW : (w1.alloc (.cells #[.int .i64 0, .int .i64 0, .int .i64 0, .int .i64 0, .int .i64 0, .int .i64 0, .int .i64 0, .int .i64 0, .int .i64 0, .int .i64 0, .int .i64 0, .int .i64 0, .int .i64 0, .int .i64 0, .int .i64 0, .int .i64 0, .int .i64 0, .int .i64 0, .int .i64 0, .int .i64 0, .int .i64 0, .int .i64 0, .int .i64 0, .int .i64 0, .int .i64 0, .int .i64 0, .int .i64 0, .int .i64 0, .int .i64 0, .int .i64 0, .int .i64 0, .int .i64 0, .int .i64 0, .int .i64 0, .int .i64 0, .int .i64 0, .int .i64 0] 95)).setRow w1.heap.size (ndA n) = W at *
    obtain ⟨hsW, hbW, hWR⟩ := row_new hW
    clear hW
    have hrW := hr1.keep hbW
    have HBW := Go.Proofs.YtpaakikgfojplaaGreat.hid (hb1.trans (hbW.mono hb1.size))
    have hxW := hrW.lts.1
    have hBW := lt_of_block hWR
    generalize w1.heap.size = B at *
    have c0 : W.cell? ⟨x, 0, none⟩ = some (.int .i64 s.par.epoch) := cell_of_cells (j := 0) hrW.blk rfl
    have c1 : W.cell? ⟨x, 1, none⟩ = some (.int .i64 s.par.a) := cell_of_cells (j := 1) hrW.blk rfl
    have c2 : W.cell? ⟨x, 2, none⟩ = some (.int .i64 s.par.b) := cell_of_cells (j := 2) hrW.blk rfl
    have c3 : W.cell? ⟨x, 3, none⟩ = some (.int .i64 (s.par.stakes.length : Int)) := cell_of_cells (j := 3) hrW.blk rfl
    have c4 : W.cell? ⟨x, 4, none⟩ = some (.int .i64 (total s.par)) := cell_of_cells (j := 4) hrW.blk rfl
    have po := page_in hWR
    have HG : Hid (n.pg = pageOf s.par s.all k) := HND.out
    generalize n.pg = G at *
    have pok := po.1
    have prd := po.2
    have pok2 : okP W.drew B 10 27 = true := pok
    have prd2 : rdP W.drew B 10 27 = pgA G := prd
    clear hr1 hb1 hbW hWR hrW HND po
    have hpar := hi.par
    go_wp2
    go_region_held3 (fun w' => w'.cell? ⟨x, 0, none⟩ = some (.int .i64 s.par.epoch) ∧ w'.cell? ⟨x, 1, none⟩ = some (.int .i64 s.par.a) ∧ w'.cell? ⟨x, 2, none⟩ = some (.int .i64 s.par.b) ∧ w'.cell? ⟨x, 3, none⟩ = some (.int .i64 (s.par.stakes.length : Int)) ∧ w'.cell? ⟨x, 4, none⟩ = some (.int .i64 (total s.par)) ∧ okP w' B 10 27 = true ∧ rdP w' B 10 27 = pgA G) (go_keep) ((go_at_call 61; refine (lstake_v s.par G pool _ hpar).mono ?_; rintro e w7 ⟨rfl, hb7⟩; have m0 := (hb7.cell (p := ⟨x, 0, none⟩) (by exact hxW)).trans (by exact c0); have m1 := (hb7.cell (p := ⟨x, 1, none⟩) (by exact hxW)).trans (by exact c1); have m2 := (hb7.cell (p := ⟨x, 2, none⟩) (by exact hxW)).trans (by exact c2); have m3 := (hb7.cell (p := ⟨x, 3, none⟩) (by exact hxW)).trans (by exact c3); have m4 := (hb7.cell (p := ⟨x, 4, none⟩) (by exact hxW)).trans (by exact c4); have mo : okP w7 B 10 27 = true := (part_keep hb7 (by exact hBW)).1.trans pok; have mr : rdP w7 B 10 27 = pgA G := (part_keep hb7 (by exact hBW)).2.trans prd))
    have HB7 := Go.Proofs.YtpaakikgfojplaaGreat.hid (HBW.out.drew.trans (hb7.mono (by exact HBW.out.size)))
    clear c0 c1 c2 c3 c4 hb7 pok prd pok2 prd2
    have HFIN : Hid (V = lsV s.par G pool ∧ AE = leV s.par pool) := by
      show _ ∧ _
      unfold lsV leV
      rw [poolB_ok]
      have e1 := HA2.out
      have e2 := HV.out
      cases hp : poolOk s pool
      · rw [hp] at e1
        simp at e1
        rw [e1] at e2
        simp at e2
        exact ⟨by simp [e2], by simp [e1]⟩
      · rw [hp] at e1
        simp at e1
        rw [e1] at e2
        simp at e2
        refine ⟨?_, by simp [e1]⟩
        rw [e2, HG.out]
        rfl
    clear HV HA2
    generalize lsV s.par G pool = VV at *
    generalize leV s.par pool = EE at *
    go_wp2
    go_ret2
    exact ⟨by rw [HFIN.out.1, HFIN.out.2]; rfl, left_same HR.out HB7.out⟩
  · rw [hf]
    simp only [Option.getD_none]
    have hae := HA.out.trans (if_pos hm)
    have hv := HV.out.trans (if_neg (by rw [hae]; exact hm))
    clear HA HV hr hf
    have hmb : (missing s id != 0) = true := by simp [hm]
    subst hae; subst hv
    generalize hMM : missing s id = MM at *
    go_upto_region 2 with (refine wpList_store_row rfl 95 _ _ rfl w1.heap.size (ndA zeroN) rfl rfl 95 (ndA zeroN) (heap_alloc_new w1 _) (info_nodeA _) rfl (nd_one _) ?_)
    generalize hW : (w1.alloc (.cells #[.int .i64 0, .int .i64 0, .int .i64 0, .int .i64 0, .int .i64 0, .int .i64 0, .int .i64 0, .int .i64 0, .int .i64 0, .int .i64 0, .int .i64 0, .int .i64 0, .int .i64 0, .int .i64 0, .int .i64 0, .int .i64 0, .int .i64 0, .int .i64 0, .int .i64 0, .int .i64 0, .int .i64 0, .int .i64 0, .int .i64 0, .int .i64 0, .int .i64 0, .int .i64 0, .int .i64 0, .int .i64 0, .int .i64 0, .int .i64 0, .int .i64 0, .int .i64 0, .int .i64 0, .int .i64 0, .int .i64 0, .int .i64 0, .int .i64 0] 95)).setRow w1.heap.size (ndA zeroN) = W at *
    obtain ⟨hsW, hbW, hWR⟩ := row_new hW
    have HBW := Go.Proofs.YtpaakikgfojplaaGreat.hid (hb1.trans (hbW.mono hb1.size))
    clear hW hr1 hb1 hbW hWR
    go_wp2
    go_ret2
    exact ⟨by rw [hMM]; rfl, left_same HR.out HBW.out⟩

set_option maxHeartbeats 3200000 in
set_option maxRecDepth 1000000 in
theorem pcount_is (w : World) (x : Nat) (F : Nat → Prop) (s : St) (id pool : Int) (hR : RepP w x F s) (hi : Inv s) :
    Calls Tryz.prog 26 #[.pointer (some ⟨x, 0, none⟩), .int .i64 id, .int .i64 pool] w fun e w' => e = .returned (.tuple #[.int .i64 (countV s id pool), .int .i64 (askErr s id pool)]) ∧ Left RepP w w' x F s := by
  have HR := Go.Proofs.YtpaakikgfojplaaGreat.hid hR
  obtain ⟨gk, ck, pv, ⟨hr⟩, hF⟩ := hR
  have hks := keep_small hi
  have hls := line_small hi
  have HA := Go.Proofs.YtpaakikgfojplaaGreat.hid (show askErr s id pool = (if missing s id ≠ 0 then missing s id else if poolOk s pool = false then 5 else 0) from rfl)
  have HV := Go.Proofs.YtpaakikgfojplaaGreat.hid (show countV s id pool = (if askErr s id pool = 0 then countAt s.all pool id.toNat else 0) from rfl)
  generalize askErr s id pool = AE at *
  generalize countV s id pool = V at *
  go_enter Tryz.func26, Tryz.ntmps26
  go_wp2_with fail
  refine (find_is x gk ck pv s.par _ _ _ id w hr (by omega) (by omega)).mono ?_
  rintro r w1 ⟨rfl, hb1⟩
  rw [findErr_map hi]
  have hr1 := hr.keep hb1
  unfold ndV
  rcases found hi id with ⟨hm, k, rfl, hk, hf⟩ | ⟨hm, hf⟩
  · rw [hf, hm]
    simp only [Option.getD_some]
    have hkl := inv_lt hi hk
    have HA2 := Go.Proofs.YtpaakikgfojplaaGreat.hid (HA.out.trans (if_neg (by simp [hm])))
    rw [Int.toNat_natCast] at HV
    have HND := Go.Proofs.YtpaakikgfojplaaGreat.hid (show (ndOf s.par s.all k).pg = pageOf s.par s.all k from rfl)
    clear hr hm hf HA
    generalize ndOf s.par s.all k = n at *
    go_upto_region 2 with (refine wpList_store_row rfl 95 _ _ rfl w1.heap.size (ndA n) rfl rfl 95 (ndA zeroN) (heap_alloc_new w1 _) (info_nodeA _) rfl (nd_one _) ?_)
    generalize hW : (w1.alloc (.cells #[.int .i64 0, .int .i64 0, .int .i64 0, .int .i64 0, .int .i64 0, .int .i64 0, .int .i64 0, .int .i64 0, .int .i64 0, .int .i64 0, .int .i64 0, .int .i64 0, .int .i64 0, .int .i64 0, .int .i64 0, .int .i64 0, .int .i64 0, .int .i64 0, .int .i64 0, .int .i64 0, .int .i64 0, .int .i64 0, .int .i64 0, .int .i64 0, .int .i64 0, .int .i64 0, .int .i64 0, .int .i64 0, .int .i64 0, .int .i64 0, .int .i64 0, .int .i64 0, .int .i64 0, .int .i64 0, .int .i64 0, .int .i64 0, .int .i64 0] 95)).setRow w1.heap.size (ndA n) = W at *
    obtain ⟨hsW, hbW, hWR⟩ := row_new hW
    clear hW
    have hrW := hr1.keep hbW
    have HBW := Go.Proofs.YtpaakikgfojplaaGreat.hid (hb1.trans (hbW.mono hb1.size))
    have hxW := hrW.lts.1
    have hBW := lt_of_block hWR
    generalize w1.heap.size = B at *
    have c0 : W.cell? ⟨x, 0, none⟩ = some (.int .i64 s.par.epoch) := cell_of_cells (j := 0) hrW.blk rfl
    have c1 : W.cell? ⟨x, 1, none⟩ = some (.int .i64 s.par.a) := cell_of_cells (j := 1) hrW.blk rfl
    have c2 : W.cell? ⟨x, 2, none⟩ = some (.int .i64 s.par.b) := cell_of_cells (j := 2) hrW.blk rfl
    have c3 : W.cell? ⟨x, 3, none⟩ = some (.int .i64 (s.par.stakes.length : Int)) := cell_of_cells (j := 3) hrW.blk rfl
    have c4 : W.cell? ⟨x, 4, none⟩ = some (.int .i64 (total s.par)) := cell_of_cells (j := 4) hrW.blk rfl
    have po := page_in hWR
    have HG : Hid (n.pg = pageOf s.par s.all k) := HND.out
    generalize n.pg = G at *
    have pok := po.1
    have prd := po.2
    have pok2 : okP W.drew B 10 27 = true := pok
    have prd2 : rdP W.drew B 10 27 = pgA G := prd
    clear hr1 hb1 hbW hWR hrW HND po
    have hpar := hi.par
    go_wp2
    go_region_held3 (fun w' => w'.cell? ⟨x, 0, none⟩ = some (.int .i64 s.par.epoch) ∧ w'.cell? ⟨x, 1, none⟩ = some (.int .i64 s.par.a) ∧ w'.cell? ⟨x, 2, none⟩ = some (.int .i64 s.par.b) ∧ w'.cell? ⟨x, 3, none⟩ = some (.int .i64 (s.par.stakes.length : Int)) ∧ w'.cell? ⟨x, 4, none⟩ = some (.int .i64 (total s.par)) ∧ okP w' B 10 27 = true ∧ rdP w' B 10 27 = pgA G) (go_keep) ((go_at_call 62; refine (lcount_v s.par G pool _ hpar).mono ?_; rintro e w7 ⟨rfl, hb7⟩; have m0 := (hb7.cell (p := ⟨x, 0, none⟩) (by exact hxW)).trans (by exact c0); have m1 := (hb7.cell (p := ⟨x, 1, none⟩) (by exact hxW)).trans (by exact c1); have m2 := (hb7.cell (p := ⟨x, 2, none⟩) (by exact hxW)).trans (by exact c2); have m3 := (hb7.cell (p := ⟨x, 3, none⟩) (by exact hxW)).trans (by exact c3); have m4 := (hb7.cell (p := ⟨x, 4, none⟩) (by exact hxW)).trans (by exact c4); have mo : okP w7 B 10 27 = true := (part_keep hb7 (by exact hBW)).1.trans pok; have mr : rdP w7 B 10 27 = pgA G := (part_keep hb7 (by exact hBW)).2.trans prd))
    have HB7 := Go.Proofs.YtpaakikgfojplaaGreat.hid (HBW.out.drew.trans (hb7.mono (by exact HBW.out.size)))
    clear c0 c1 c2 c3 c4 hb7 pok prd pok2 prd2
    have HFIN : Hid (V = lcV s.par G pool ∧ AE = leV s.par pool) := by
      show _ ∧ _
      unfold lcV leV
      rw [poolB_ok]
      have e1 := HA2.out
      have e2 := HV.out
      cases hp : poolOk s pool
      · rw [hp] at e1
        simp at e1
        rw [e1] at e2
        simp at e2
        exact ⟨by simp [e2], by simp [e1]⟩
      · rw [hp] at e1
        simp at e1
        rw [e1] at e2
        simp at e2
        refine ⟨?_, by simp [e1]⟩
        rw [e2, HG.out]
        simp only [poolOk, Bool.and_eq_true, decide_eq_true_eq] at hp
        show countAt s.all pool k = countAt s.all ((pool.toNat : Nat) : Int) k
        rw [show ((pool.toNat : Nat) : Int) = pool by omega]
    clear HV HA2
    generalize lcV s.par G pool = VV at *
    generalize leV s.par pool = EE at *
    go_wp2
    go_ret2
    exact ⟨by rw [HFIN.out.1, HFIN.out.2]; rfl, left_same HR.out HB7.out⟩
  · rw [hf]
    simp only [Option.getD_none]
    have hae := HA.out.trans (if_pos hm)
    have hv := HV.out.trans (if_neg (by rw [hae]; exact hm))
    clear HA HV hr hf
    have hmb : (missing s id != 0) = true := by simp [hm]
    subst hae; subst hv
    generalize hMM : missing s id = MM at *
    go_upto_region 2 with (refine wpList_store_row rfl 95 _ _ rfl w1.heap.size (ndA zeroN) rfl rfl 95 (ndA zeroN) (heap_alloc_new w1 _) (info_nodeA _) rfl (nd_one _) ?_)
    generalize hW : (w1.alloc (.cells #[.int .i64 0, .int .i64 0, .int .i64 0, .int .i64 0, .int .i64 0, .int .i64 0, .int .i64 0, .int .i64 0, .int .i64 0, .int .i64 0, .int .i64 0, .int .i64 0, .int .i64 0, .int .i64 0, .int .i64 0, .int .i64 0, .int .i64 0, .int .i64 0, .int .i64 0, .int .i64 0, .int .i64 0, .int .i64 0, .int .i64 0, .int .i64 0, .int .i64 0, .int .i64 0, .int .i64 0, .int .i64 0, .int .i64 0, .int .i64 0, .int .i64 0, .int .i64 0, .int .i64 0, .int .i64 0, .int .i64 0, .int .i64 0, .int .i64 0] 95)).setRow w1.heap.size (ndA zeroN) = W at *
    obtain ⟨hsW, hbW, hWR⟩ := row_new hW
    have HBW := Go.Proofs.YtpaakikgfojplaaGreat.hid (hb1.trans (hbW.mono hb1.size))
    clear hW hr1 hb1 hbW hWR
    go_wp2
    go_ret2
    exact ⟨by rw [hMM]; rfl, left_same HR.out HBW.out⟩

end Go.Proofs.YtpaakikgfojplaaGreat

