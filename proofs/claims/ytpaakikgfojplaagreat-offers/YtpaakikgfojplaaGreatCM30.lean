import Derived.Test.YtpaakikgfojplaaGreatCBc1
import Derived.Test.YtpaakikgfojplaaGreatCM23
import Derived.Great.BuildSlice
/-
  THE PROGRAM's CHAIN: Turn.
-/
namespace Go.Proofs.YtpaakikgfojplaaGreat
open Go.RowKit Num Bk
set_option linter.unusedVariables false

def ltE (p : Par) (g : Pg) (slot pool : Int) : Int := if slot ≤ g.slot ∨ 10000 < slot then 4 else if poolB p pool = false then 5 else 0
def ltN (p : Par) (g : Pg) (slot pool : Int) : Int := if ltE p g slot pool = 0 then nonceIn p g (slot / p.epoch) else 0
def ltP (p : Par) (g : Pg) (slot pool : Int) : Int := if ltE p g slot pool = 0 then proofP p g slot pool else 0
def ltS (p : Par) (g : Pg) (slot pool : Int) : Int := if ltE p g slot pool = 0 then stakeP p g slot pool else 0
def ltL (p : Par) (g : Pg) (slot pool : Int) : Bool := if ltE p g slot pool = 0 then leadsP p g slot pool else false

theorem lturn_v (p : Par) (g : Pg) (slot pool : Int) (w : World) (hp : ParOk p) (hg : PgOk p g) :
    Calls Tryz.prog 52 #[rulV p, pageV g, .int .i64 slot, .int .i64 pool] w fun r w' => r = .returned (.tuple #[.agg #[.int .i64 (ltN p g slot pool), .int .i64 (ltP p g slot pool), .int .i64 (ltS p g slot pool), .bool (ltL p g slot pool)], .int .i64 (ltE p g slot pool)]) ∧ Below w.heap.size w w' := by
  by_cases h1 : slot ≤ g.slot ∨ 10000 < slot
  · have e : ltE p g slot pool = 4 := if_pos h1
    unfold ltN ltP ltS ltL
    rw [e]
    exact lturn_slot p g slot pool w h1
  · cases h2 : poolB p pool
    · have e : ltE p g slot pool = 5 := by unfold ltE; rw [if_neg h1, if_pos h2]
      unfold ltN ltP ltS ltL
      rw [e]
      exact lturn_pool p g slot pool w (by omega) (by omega) h2
    · have e : ltE p g slot pool = 0 := by unfold ltE; rw [if_neg h1, if_neg (by simp [h2])]
      unfold ltN ltP ltS ltL
      rw [e]
      obtain ⟨k, rfl, hk1, hk2⟩ := poolB_yes hp h2
      exact lturn_yes p g slot k w hp hg (by omega) (by omega) hk1

theorem slot_match {s : St} (hi : Inv s) {k : Nat} (hkl : k < s.all.length) (slot : Int) : (slot ≤ (pageOf s.par s.all k).slot ∨ 10000 < slot) ↔ slotOk s k slot = false := by
  have hb := slot_bounds hi hkl
  rw [← Bool.not_eq_true]
  unfold slotOk pageOf
  simp only [Bool.and_eq_true, Bool.or_eq_true, decide_eq_true_eq]
  split <;> omega

theorem err_match {s : St} (hi : Inv s) {k : Nat} (hk : k ∈ s.keep) (slot pool : Int) : turnErr s (k : Int) slot pool = ltE s.par (pageOf s.par s.all k) slot pool := by
  have hm : missing s (k : Int) = 0 := by unfold missing; rw [(has_nat _ _).2 hk]; rfl
  have hs := slot_match hi (inv_lt hi hk) slot
  unfold turnErr ltE
  rw [if_neg (by simp [hm]), Int.toNat_natCast, poolB_ok]
  by_cases h : slotOk s k slot = false
  · rw [if_pos h, if_pos (hs.2 h)]
  · rw [if_neg h, if_neg (fun e => h (hs.1 e))]

theorem val_match {s : St} (hi : Inv s) {k : Nat} (hk : k ∈ s.keep) (slot : Int) (hs : slotOk s k slot = true) :
    nonceIn s.par (pageOf s.par s.all k) (slot / s.par.epoch) = nonceAt s k slot ∧ stakesIn s.par (pageOf s.par s.all k) (slot / s.par.epoch) = fun j => (oldStakes s k slot).getD j 0 := by
  have hkl := inv_lt hi hk
  unfold slotOk at hs
  simp only [Bool.and_eq_true, Bool.or_eq_true, decide_eq_true_eq] at hs
  have e1 := hi.par.e1
  have h0 : 0 ≤ slot / s.par.epoch := Int.ediv_nonneg (by omega) (by omega)
  have hle : k = 0 ∨ (hd s.all k).slot / s.par.epoch ≤ slot / s.par.epoch := by
    rcases hs.2 with h | h
    · exact Or.inl h
    · exact Or.inr (Int.ediv_le_ediv (by omega) (by omega))
  exact ⟨nonceIn_eq hi hkl _ h0 hle, stakesIn_eq hi hkl _ h0 hle⟩

theorem proof_match {s : St} (hi : Inv s) {k : Nat} (hk : k ∈ s.keep) (slot pool : Int) (hs : slotOk s k slot = true) :
    proofP s.par (pageOf s.par s.all k) slot pool = proofAt s k slot pool ∧ stakeP s.par (pageOf s.par s.all k) slot pool = stakeAt s k slot pool ∧ leadsP s.par (pageOf s.par s.all k) slot pool = leadsAt s k slot pool := by
  obtain ⟨h1, h2⟩ := val_match hi hk slot hs
  have a : proofP s.par (pageOf s.par s.all k) slot pool = proofAt s k slot pool := by unfold proofP proofAt; rw [h1]
  have b : stakeP s.par (pageOf s.par s.all k) slot pool = stakeAt s k slot pool := by unfold stakeP stakeAt; rw [h2]
  refine ⟨a, b, ?_⟩
  unfold leadsP leadsAt
  rw [a, b]

theorem turn_match {s : St} (hi : Inv s) {k : Nat} (hk : k ∈ s.keep) (slot pool : Int) :
    turnV s (k : Int) slot pool = .agg #[.int .i64 (ltN s.par (pageOf s.par s.all k) slot pool), .int .i64 (ltP s.par (pageOf s.par s.all k) slot pool), .int .i64 (ltS s.par (pageOf s.par s.all k) slot pool), .bool (ltL s.par (pageOf s.par s.all k) slot pool)] := by
  unfold turnV ltN ltP ltS ltL
  rw [err_match hi hk, Int.toNat_natCast]
  by_cases h : ltE s.par (pageOf s.par s.all k) slot pool = 0
  · rw [if_pos h, if_pos h, if_pos h, if_pos h, if_pos h]
    have hs : slotOk s k slot = true := by
      cases e : slotOk s k slot
      · have := (slot_match hi (inv_lt hi hk) slot).2 e
        unfold ltE at h
        rw [if_pos this] at h
        omega
      · rfl
    obtain ⟨a, b, c⟩ := proof_match hi hk slot pool hs
    rw [a, b, c, (val_match hi hk slot hs).1]
  · rw [if_neg h, if_neg h, if_neg h, if_neg h, if_neg h]

theorem okP_set4 {w : World} {b b' o n : Nat} (hb : b ≠ b') (a0 a1 a2 a3 : Value) : okP ((((w.setCell ⟨b', 0, none⟩ a0).setCell ⟨b', 1, none⟩ a1).setCell ⟨b', 2, none⟩ a2).setCell ⟨b', 3, none⟩ a3) b o n = okP w b o n ∧ rdP ((((w.setCell ⟨b', 0, none⟩ a0).setCell ⟨b', 1, none⟩ a1).setCell ⟨b', 2, none⟩ a2).setCell ⟨b', 3, none⟩ a3) b o n = rdP w b o n := by
  have hc : ∀ j, ((((w.setCell ⟨b', 0, none⟩ a0).setCell ⟨b', 1, none⟩ a1).setCell ⟨b', 2, none⟩ a2).setCell ⟨b', 3, none⟩ a3).cell? ⟨b, o + j, none⟩ = w.cell? ⟨b, o + j, none⟩ := by
    intro j
    rw [World.cell?_setCell_other _ _ _ _ (by intro e; exact hb (congrArg Addr.block e).symm), World.cell?_setCell_other _ _ _ _ (by intro e; exact hb (congrArg Addr.block e).symm), World.cell?_setCell_other _ _ _ _ (by intro e; exact hb (congrArg Addr.block e).symm), World.cell?_setCell_other _ _ _ _ (by intro e; exact hb (congrArg Addr.block e).symm)]
  unfold okP rdP
  simp only [hc]
  exact ⟨trivial, trivial⟩

theorem cell_set4 {w : World} {b b' j : Nat} (hb : b ≠ b') (a0 a1 a2 a3 : Value) : ((((w.setCell ⟨b', 0, none⟩ a0).setCell ⟨b', 1, none⟩ a1).setCell ⟨b', 2, none⟩ a2).setCell ⟨b', 3, none⟩ a3).cell? ⟨b, j, none⟩ = w.cell? ⟨b, j, none⟩ := by
  rw [World.cell?_setCell_other _ _ _ _ (by intro e; exact hb (congrArg Addr.block e).symm), World.cell?_setCell_other _ _ _ _ (by intro e; exact hb (congrArg Addr.block e).symm), World.cell?_setCell_other _ _ _ _ (by intro e; exact hb (congrArg Addr.block e).symm), World.cell?_setCell_other _ _ _ _ (by intro e; exact hb (congrArg Addr.block e).symm)]

attribute [local go_sem ↓] loadPg_eq
attribute [local go_sem] run_loadPg

set_option maxHeartbeats 3200000 in
set_option maxRecDepth 1000000 in
theorem pturn_is (w : World) (x : Nat) (F : Nat → Prop) (s : St) (id slot pool : Int) (hR : RepP w x F s) (hi : Inv s) :
    Calls Tryz.prog 22 #[.pointer (some ⟨x, 0, none⟩), .int .i64 id, .int .i64 slot, .int .i64 pool] w fun e w' => e = .returned (.tuple #[turnV s id slot pool, .int .i64 (turnErr s id slot pool)]) ∧ Left RepP w w' x F s := by
  have HR := Go.Proofs.YtpaakikgfojplaaGreat.hid hR
  obtain ⟨gk, ck, pv, ⟨hr⟩, hF⟩ := hR
  have hks := keep_small hi
  have hls := line_small hi
  generalize hTV : turnV s id slot pool = TV at *
  generalize hTE : turnErr s id slot pool = TE at *
  have HTV := Go.Proofs.YtpaakikgfojplaaGreat.hid hTV
  have HTE := Go.Proofs.YtpaakikgfojplaaGreat.hid hTE
  clear hTV hTE
  go_enter Tryz.func22, Tryz.ntmps22
  go_upto_region 1 with fail
  generalize hA : w.alloc (.cells #[.int .i64 0, .int .i64 0, .int .i64 0, .bool false] 77) = A at *
  obtain ⟨hsA, hbA, hAR⟩ := below_of hA
  clear hA
  have hrA := hr.keep hbA
  have hxw : w.heap.size < A.heap.size := by omega
  have hxl := hr.lts.1
  go_wp2_with fail
  refine (find_is x gk ck pv s.par _ _ _ id A hrA (by omega) (by omega)).mono ?_
  rintro r w1 ⟨rfl, hb1⟩
  rw [findErr_map hi]
  have hr1 := hrA.keep hb1
  have hz1 : w1.heap[w.heap.size]? = _ := (hb1.block _ hxw).trans hAR
  have hs1 := hb1.size
  have hbw := hbA.trans (hb1.mono (by omega))
  clear hrA hAR hbA hb1 hsA
  unfold ndV
  rcases found hi id with ⟨hm, k, rfl, hk, hf⟩ | ⟨hm, hf⟩
  · rw [hf, hm]
    simp only [Option.getD_some]
    have hkl := inv_lt hi hk
    have hgo := page_ok hi hkl
    have hND : (ndOf s.par s.all k).pg = pageOf s.par s.all k := rfl
    have HV2 := Go.Proofs.YtpaakikgfojplaaGreat.hid ((turn_match hi hk slot pool).symm.trans HTV.out)
    have HE2 := Go.Proofs.YtpaakikgfojplaaGreat.hid ((err_match hi hk slot pool).symm.trans HTE.out)
    rw [← hND] at HV2 HE2 hgo
    clear hr hm hf HTV HTE hND
    generalize ndOf s.par s.all k = n at *
    go_upto_region 2 with (refine wpList_store_row rfl 95 _ _ rfl w1.heap.size (ndA n) rfl rfl 95 (ndA zeroN) (heap_alloc_new w1 _) (info_nodeA _) rfl (nd_one _) ?_)
    generalize hW : (w1.alloc (.cells #[.int .i64 0, .int .i64 0, .int .i64 0, .int .i64 0, .int .i64 0, .int .i64 0, .int .i64 0, .int .i64 0, .int .i64 0, .int .i64 0, .int .i64 0, .int .i64 0, .int .i64 0, .int .i64 0, .int .i64 0, .int .i64 0, .int .i64 0, .int .i64 0, .int .i64 0, .int .i64 0, .int .i64 0, .int .i64 0, .int .i64 0, .int .i64 0, .int .i64 0, .int .i64 0, .int .i64 0, .int .i64 0, .int .i64 0, .int .i64 0, .int .i64 0, .int .i64 0, .int .i64 0, .int .i64 0, .int .i64 0, .int .i64 0, .int .i64 0] 95)).setRow w1.heap.size (ndA n) = W at *
    obtain ⟨hsW, hbW, hWR⟩ := row_new hW
    clear hW
    have hrW := hr1.keep hbW
    have HZ : Hid (W.heap[w.heap.size]? = _) := (hbW.block _ (by omega)).trans hz1
    have HBW := Go.Proofs.YtpaakikgfojplaaGreat.hid (hbw.trans (hbW.mono (by omega)))
    have hxW := hrW.lts.1
    have hBW := lt_of_block hWR
    have hB0 : w.heap.size < w1.heap.size := by omega
    generalize w1.heap.size = B at *
    have c0 : W.cell? ⟨x, 0, none⟩ = some (.int .i64 s.par.epoch) := cell_of_cells (j := 0) hrW.blk rfl
    have c1 : W.cell? ⟨x, 1, none⟩ = some (.int .i64 s.par.a) := cell_of_cells (j := 1) hrW.blk rfl
    have c2 : W.cell? ⟨x, 2, none⟩ = some (.int .i64 s.par.b) := cell_of_cells (j := 2) hrW.blk rfl
    have c3 : W.cell? ⟨x, 3, none⟩ = some (.int .i64 (s.par.stakes.length : Int)) := cell_of_cells (j := 3) hrW.blk rfl
    have c4 : W.cell? ⟨x, 4, none⟩ = some (.int .i64 (total s.par)) := cell_of_cells (j := 4) hrW.blk rfl
    have po := page_in hWR
    generalize n.pg = G at *
    have pok := po.1
    have prd := po.2
    have pok2 : okP W.drew B 10 27 = true := pok
    have prd2 : rdP W.drew B 10 27 = pgA G := prd
    have z0 := cell_of_cells (j := 0) HZ.out rfl
    have z1 := cell_of_cells (j := 1) HZ.out rfl
    have z2 := cell_of_cells (j := 2) HZ.out rfl
    have z3 := cell_of_cells (j := 3) HZ.out rfl
    have h0W : w.heap.size < W.heap.size := by omega
    have HXN : Hid (x ≠ w.heap.size) := Nat.ne_of_lt hxl
    generalize hb0 : w.heap.size = b0 at *
    have hx0 : x ≠ b0 := HXN.out
    have hB0n : B ≠ b0 := by omega
    clear hr1 hbW hWR hrW po hz1 hbw
    have hpar := hi.par
    go_wp2
    go_region_held3 (fun w' => w'.cell? ⟨x, 0, none⟩ = some (.int .i64 s.par.epoch) ∧ w'.cell? ⟨x, 1, none⟩ = some (.int .i64 s.par.a) ∧ w'.cell? ⟨x, 2, none⟩ = some (.int .i64 s.par.b) ∧ w'.cell? ⟨x, 3, none⟩ = some (.int .i64 (s.par.stakes.length : Int)) ∧ w'.cell? ⟨x, 4, none⟩ = some (.int .i64 (total s.par)) ∧ okP w' B 10 27 = true ∧ rdP w' B 10 27 = pgA G) (first | go_keep | exact ⟨(cell_set4 hx0 _ _ _ _).trans m0, (cell_set4 hx0 _ _ _ _).trans m1, (cell_set4 hx0 _ _ _ _).trans m2, (cell_set4 hx0 _ _ _ _).trans m3, (cell_set4 hx0 _ _ _ _).trans m4, (okP_set4 hB0n _ _ _ _).1.trans mo, (okP_set4 hB0n _ _ _ _).2.trans mr⟩) ((go_at_call 52; refine (lturn_v s.par G slot pool _ hpar hgo).mono ?_; rintro e w7 ⟨rfl, hb7⟩; have m0 := (hb7.cell (p := ⟨x, 0, none⟩) (by exact hxW)).trans (by exact c0); have m1 := (hb7.cell (p := ⟨x, 1, none⟩) (by exact hxW)).trans (by exact c1); have m2 := (hb7.cell (p := ⟨x, 2, none⟩) (by exact hxW)).trans (by exact c2); have m3 := (hb7.cell (p := ⟨x, 3, none⟩) (by exact hxW)).trans (by exact c3); have m4 := (hb7.cell (p := ⟨x, 4, none⟩) (by exact hxW)).trans (by exact c4); have mo : okP w7 B 10 27 = true := (part_keep hb7 (by exact hBW)).1.trans pok; have mr : rdP w7 B 10 27 = pgA G := (part_keep hb7 (by exact hBW)).2.trans prd; have hz7 := (hb7.block b0 (by exact h0W)).trans HZ.out; have r0 := cell_of_cells (j := 0) hz7 rfl; have r1 := cell_of_cells (j := 1) hz7 rfl; have r2 := cell_of_cells (j := 2) hz7 rfl; have r3 := cell_of_cells (j := 3) hz7 rfl; have q0 := free_of_cells (j := 0) hz7; have q1 := free_of_cells (j := 1) hz7; have q2 := free_of_cells (j := 2) hz7; have q3 := free_of_cells (j := 3) hz7; clear hz7))
    have HB7 := Go.Proofs.YtpaakikgfojplaaGreat.hid (HBW.out.drew.trans (hb7.mono (by subst hb0; exact HBW.out.size)))
    clear c0 c1 c2 c3 c4 hb7 pok prd pok2 prd2
    generalize ltN s.par G slot pool = vN at *
    generalize ltP s.par G slot pool = vP at *
    generalize ltS s.par G slot pool = vS at *
    generalize ltL s.par G slot pool = vL at *
    generalize ltE s.par G slot pool = vE at *
    go_wp2
    refine bodyPost_ret (v := .tuple #[.agg #[.int .i64 vN, .int .i64 vP, .int .i64 vS, .bool vL], .int .i64 vE]) (by simp [results, Tryz.results22, go_sem, r0, r1, r2, r3]) rfl ⟨by rw [HV2.out, HE2.out], left_same HR.out ?_⟩
    subst hb0
    exact below_set4 HB7.out (Nat.le_refl _) _ _ _ _
  · rw [hf]
    simp only [Option.getD_none]
    have hte : TE = missing s id := by rw [← HTE.out]; unfold turnErr; rw [if_pos hm]
    have htv : TV = .agg #[.int .i64 0, .int .i64 0, .int .i64 0, .bool false] := by rw [← HTV.out]; unfold turnV; rw [if_neg (by rw [HTE.out, hte]; exact hm)]
    clear HTE HTV hr hf
    have hmb : (missing s id != 0) = true := by simp [hm]
    subst hte; subst htv
    generalize hMM : missing s id = MM at *
    go_upto_region 2 with (refine wpList_store_row rfl 95 _ _ rfl w1.heap.size (ndA zeroN) rfl rfl 95 (ndA zeroN) (heap_alloc_new w1 _) (info_nodeA _) rfl (nd_one _) ?_)
    generalize hW : (w1.alloc (.cells #[.int .i64 0, .int .i64 0, .int .i64 0, .int .i64 0, .int .i64 0, .int .i64 0, .int .i64 0, .int .i64 0, .int .i64 0, .int .i64 0, .int .i64 0, .int .i64 0, .int .i64 0, .int .i64 0, .int .i64 0, .int .i64 0, .int .i64 0, .int .i64 0, .int .i64 0, .int .i64 0, .int .i64 0, .int .i64 0, .int .i64 0, .int .i64 0, .int .i64 0, .int .i64 0, .int .i64 0, .int .i64 0, .int .i64 0, .int .i64 0, .int .i64 0, .int .i64 0, .int .i64 0, .int .i64 0, .int .i64 0, .int .i64 0, .int .i64 0] 95)).setRow w1.heap.size (ndA zeroN) = W at *
    obtain ⟨hsW, hbW, hWR⟩ := row_new hW
    have hZ : W.heap[w.heap.size]? = _ := (hbW.block _ (by omega)).trans hz1
    have HBW := Go.Proofs.YtpaakikgfojplaaGreat.hid (hbw.trans (hbW.mono (by omega)))
    have r0 := cell_of_cells (j := 0) hZ rfl
    have r1 := cell_of_cells (j := 1) hZ rfl
    have r2 := cell_of_cells (j := 2) hZ rfl
    have r3 := cell_of_cells (j := 3) hZ rfl
    have q0 := free_of_cells (j := 0) hZ
    have q1 := free_of_cells (j := 1) hZ
    have q2 := free_of_cells (j := 2) hZ
    have q3 := free_of_cells (j := 3) hZ
    clear hW hr1 hbW hWR hZ hz1 hbw
    go_wp2
    refine bodyPost_ret (v := .tuple #[.agg #[.int .i64 0, .int .i64 0, .int .i64 0, .bool false], .int .i64 MM]) (by simp [results, Tryz.results22, go_sem, r0, r1, r2, r3]) rfl ⟨by rw [hMM], left_same HR.out (below_set4 HBW.out (Nat.le_refl _) _ _ _ _)⟩

end Go.Proofs.YtpaakikgfojplaaGreat

/-
  PLAIN MATHEMATICS: what the program's Offer answers and leaves is what the document says.
-/
namespace Go.Proofs.YtpaakikgfojplaaGreat
open Go.RowKit Num Bk
set_option linter.unusedVariables false

theorem turnErr_kept {s : St} {k : Nat} (hk : k ∈ s.keep) (slot pool : Int) : turnErr s (k : Int) slot pool = if slotOk s k slot = false then 4 else if poolOk s pool = false then 5 else 0 := by
  have hm : missing s (k : Int) = 0 := by unfold missing; rw [(has_nat _ _).2 hk]; rfl
  unfold turnErr
  rw [if_neg (by simp [hm]), Int.toNat_natCast]

theorem refused_match {s : St} (hi : Inv s) {k : Nat} (hk : k ∈ s.keep) (h : Hdr) :
    refused s (k : Int) h = if nextErr s.par (pageOf s.par s.all k) h = 0 then (if 0 < there s (k : Int) h then 10 else 0) else nextErr s.par (pageOf s.par s.all k) h := by
  have hs := slot_match hi (inv_lt hi hk) h.slot
  unfold refused
  rw [turnErr_kept hk, nextErr_eq, Int.toNat_natCast]
  by_cases h1 : slotOk s k h.slot = false
  · rw [if_pos h1, if_pos (hs.2 h1)]
    simp
  · rw [if_neg h1, if_neg (fun e => h1 (hs.1 e))]
    have h1' : slotOk s k h.slot = true := by simpa using h1
    obtain ⟨hp1, hp2, hp3⟩ := proof_match hi hk h.slot h.pool h1'
    rw [poolB_ok]
    by_cases h2 : poolOk s h.pool = false
    · rw [if_pos h2, if_pos h2]
      simp
    · rw [if_neg h2, if_neg h2]
      have h2' : poolOk s h.pool = true := by simpa using h2
      have hpn : ((h.pool.toNat : Nat) : Int) = h.pool := by
        simp only [poolOk, Bool.and_eq_true, decide_eq_true_eq] at h2'
        omega
      have hcn : (pageOf s.par s.all k).counts h.pool.toNat = countAt s.all h.pool k := by
        show countAt s.all ((h.pool.toNat : Nat) : Int) k = _
        rw [hpn]
      rw [hcn, hp1, hp3]
      rw [if_neg (show ¬ ((0 : Int) ≠ 0) from fun e => e rfl)]
      by_cases h3 : h.count ≠ countAt s.all h.pool k ∧ h.count ≠ countAt s.all h.pool k + 1
      · rw [if_pos h3, if_pos h3]; simp
      · rw [if_neg h3, if_neg h3]
        have hst : (pageOf s.par s.all k).stakes h.frm.toNat = (stakesAt s.par s.all k).getD h.frm.toNat 0 := rfl
        by_cases h4 : poolOk s h.frm = false ∨ poolOk s h.dst = false
        · have hm : mayB s.par (pageOf s.par s.all k) h = false := by
            unfold mayB
            rw [poolB_ok, poolB_ok]
            rcases h4 with h4 | h4
            · rw [h4]; rfl
            · rw [h4]; simp
          rw [if_pos h4, if_pos hm]; simp
        · rw [if_neg h4]
          have hf : poolOk s h.frm = true := by cases e : poolOk s h.frm <;> simp_all
          have hd' : poolOk s h.dst = true := by cases e : poolOk s h.dst <;> simp_all
          have hmay : mayB s.par (pageOf s.par s.all k) h = (decide (0 ≤ h.amount) && decide (h.amount ≤ (stakesAt s.par s.all k).getD h.frm.toNat 0)) := by
            unfold mayB
            rw [poolB_ok, poolB_ok, hf, hd', hst]; rfl
          rw [hmay]
          by_cases h5 : h.amount < 0 ∨ (stakesAt s.par s.all k).getD h.frm.toNat 0 < h.amount
          · have hm : (decide (0 ≤ h.amount) && decide (h.amount ≤ (stakesAt s.par s.all k).getD h.frm.toNat 0)) = false := by
              rw [Bool.and_eq_false_iff]
              rcases h5 with h5 | h5
              · exact Or.inl (decide_eq_false (by omega))
              · exact Or.inr (decide_eq_false (by omega))
            rw [if_pos h5, if_pos hm]; simp
          · have hm : ¬ (decide (0 ≤ h.amount) && decide (h.amount ≤ (stakesAt s.par s.all k).getD h.frm.toNat 0)) = false := by
              rw [Bool.and_eq_false_iff]
              simp only [decide_eq_false_iff_not]
              omega
            rw [if_neg h5, if_neg hm]
            by_cases h6 : h.proof ≠ proofAt s k h.slot h.pool
            · rw [if_pos h6, if_pos h6]; simp
            · rw [if_neg h6, if_neg h6]
              by_cases h7 : leadsAt s k h.slot h.pool = false
              · rw [if_pos h7, if_pos h7]; simp
              · rw [if_neg h7, if_neg h7]; simp

theorem offerErr_miss {s : St} {parent : Int} (h : Hdr) (hm : missing s parent ≠ 0) : offerErr s parent h = missing s parent := by
  have ht : turnErr s parent h.slot h.pool = missing s parent := by unfold turnErr; rw [if_pos hm]
  have hr : refused s parent h = missing s parent := by unfold refused; rw [ht, if_pos hm]
  unfold offerErr
  rw [hr, if_pos hm]

theorem offerErr_next {s : St} (hi : Inv s) {k : Nat} (hk : k ∈ s.keep) (h : Hdr) (hn : nextErr s.par (pageOf s.par s.all k) h ≠ 0) : offerErr s (k : Int) h = nextErr s.par (pageOf s.par s.all k) h := by
  have hr := refused_match hi hk h
  rw [if_neg hn] at hr
  unfold offerErr
  rw [hr, if_pos hn]

theorem offerErr_add {s : St} (hi : Inv s) {k : Nat} (hk : k ∈ s.keep) (h : Hdr) (hn : nextErr s.par (pageOf s.par s.all k) h = 0) :
    offerErr s (k : Int) h = if hasN (s.keep.map (ndOf s.par s.all)) (k : Int) h = true then 10 else if s.par.room ≤ s.keep.length then 11 else 0 := by
  have hr := refused_match hi hk h
  rw [if_pos hn] at hr
  unfold offerErr
  rw [hr, hasN_map hi (k : Int) h (by omega)]
  by_cases ht : 0 < there s (k : Int) h
  · rw [if_pos ht]; simp [ht]
  · rw [if_neg ht]; simp [ht]

theorem offer_no {s : St} {parent : Int} {h : Hdr} (he : offerErr s parent h ≠ 0) : offer s parent h = s ∧ offerId s parent h = 0 := by
  unfold offer offerId
  rw [if_neg he, if_neg he]
  exact ⟨rfl, rfl⟩


theorem rep_offer {s : St} (hi : Inv s) {k : Nat} {h : Hdr} (ha : Accept s k h) :
    setN (s.keep.map (ndOf s.par s.all) ++ [newN s k h]) (line s.all (fin s)).dropLast s.par.depth.toNat (fin s) = (taken s k h).keep.map (ndOf s.par (taken s k h).all) ∧
    setP (s.keep.map (ndOf s.par s.all) ++ [newN s k h]) (line s.all (fin s)).dropLast s.par.depth.toNat (fin s) = (line (taken s k h).all (fin (taken s k h))).dropLast := by
  have hst := settled hi ha
  have hid : (deepN (s.keep.map (ndOf s.par s.all) ++ [newN s k h]) s.par.depth.toNat (tipN (s.keep.map (ndOf s.par s.all) ++ [newN s k h]))).id = (fin (mid s k h) : Int) := by rw [hst.deep]; rfl
  unfold setN setP
  rw [hid]
  by_cases e : fin (mid s k h) = fin s
  · rw [if_pos (by rw [e]), if_pos (by rw [e])]
    obtain ⟨h1, h2⟩ := hst.same e
    exact ⟨h1.symm, by rw [h2]⟩
  · rw [if_neg (by omega), if_neg (by omega)]
    obtain ⟨h1, h2⟩ := hst.more e
    exact ⟨by rw [hst.deep]; exact h1, h2.symm⟩

end Go.Proofs.YtpaakikgfojplaaGreat

/-
  A node that is built, a list of one node: under one name each.
-/
namespace Go.Proofs.YtpaakikgfojplaaGreat
open Go.RowKit Num Bk
set_option linter.unusedVariables false

def buildNd (parts : Array (Nat × Value)) : Sem Value := Instr.build 95 parts
theorem buildNd_eq (parts : Array (Nat × Value)) : Instr.build 95 parts = buildNd parts := rfl
def buildNs (len : Nat) (parts : Array (Nat × Value)) : Sem Value := Instr.buildSlice 59 len parts
theorem buildNs_eq (len : Nat) (parts : Array (Nat × Value)) : Instr.buildSlice 59 len parts = buildNs len parts := rfl

theorem run_buildNd (w : World) (i q h a0 a1 a2 a3 a4 a5 a6 : Int) (g : Pg) :
    (buildNd #[(0, .int .i64 i), (1, .int .i64 q), (2, .int .i64 h), (3, .agg #[.int .i64 a0, .int .i64 a1, .int .i64 a2, .int .i64 a3, .int .i64 a4, .int .i64 a5, .int .i64 a6]), (4, .agg (pgA g))]).run Tryz.prog w = .ok (.agg (ndA ⟨i, q, h, ⟨a0, a1, a2, a3, a4, a5, a6⟩, g⟩)) w := by
  unfold buildNd
  exact run_build w 95 _ (ndA ⟨i, q, h, ⟨a0, a1, a2, a3, a4, a5, a6⟩, g⟩) (by kernel_rfl)

theorem run_buildNs (w : World) (n : Nd) :
    (buildNs 1 #[(0, .agg (ndA n))]).run Tryz.prog w = .ok (.slice (some ⟨w.heap.size, 0, none⟩) 1 1) (w.alloc (.cells (ndA n) 95)) := by
  obtain ⟨i1, hj, hy0, hy1, hy2⟩ := info_parts Tryz.info95
  unfold buildNs
  exact run_buildSlice w 59 95 1 #[(0, .agg (ndA n))] (ndA n) i1 (.agg (ndA zeroN)) Tryz.underlying59 hj hy0 (by rw [hy1]; decide) (by rw [hy1]; decide) (by rw [hy1]; kernel_rfl)

end Go.Proofs.YtpaakikgfojplaaGreat

