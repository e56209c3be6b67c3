import Derived.Test.YtpaakikgfojplabCM12
/-
  THE WALK of the statements' book: made.
-/
namespace Go.Proofs.Ytpaakikgfojplab
open Go.RowKit Num Bk
set_option linter.unusedVariables false

theorem quiet_eq {P : Program} {f : FuncId} {args : Array Value} {w : World} {n : Nat} {v : Value}
    (h : Calls P f args (w.drewN n) fun e w' => e = .returned v ∧ w.drewN n = w') : Calls P f args (w.drewN n) fun e w'' => e = .returned v ∧ ∃ m, w'' = w.drewN m :=
  h.mono fun _ _ ⟨he, hm⟩ => ⟨he, n, hm.symm⟩

def optV : Option Hdr → Value
  | none => hdrV zeroH
  | some h => hdrV h

theorem BookAt.drewN {w : World} {b xc gs cs ga ca : Nat} {s : St} (h : BookAt w b xc gs cs ga ca s) (n : Nat) : BookAt (w.drewN n) b xc gs cs ga ca s := ⟨h.blk, h.stk, h.all⟩

structure StpI (o : Stp) : Prop where
  a : I64 o.A
  b : I64 o.B
  c : I64 o.C
  d : I64 o.D

structure NpIs (s : St) (n : Nat) : Prop where
  eq : np s = (n : Int)

theorem i64_of {n : Int} (h1 : -1000000 ≤ n) (h2 : n ≤ 1000000) : I64 n := ⟨by omega, by omega⟩

theorem begins_is (b xc gs cs ga ca : Nat) (s : St) (id : Nat) (w : World) (hr : BookAt w b xc gs cs ga ca s) (hv : Inv s) (hl : id < s.all.length) :
    Calls Try.prog 22 #[.pointer (some ⟨b, 0, none⟩), .int .i64 (id : Int)] w fun e w' => e = .returned (.int .i64 (beginsAt s id)) ∧ w = w' := begins_any b xc gs cs ga ca s id w hr hv hl

theorem below_two {w A : World} {cs cs' : Array Value} {t t' : TypeId} (hA : (w.alloc (.cells cs t)).alloc (.cells cs' t') = A) : A.heap.size = w.heap.size + 2 ∧ Below w.heap.size w A ∧ A.heap[w.heap.size]? = some (.cells cs t (0, 0)) ∧ A.heap[w.heap.size + 1]? = some (.cells cs' t' (0, 0)) := by
  subst hA
  refine ⟨by simp, ((Below.refl _ _).alloc (Nat.le_refl _) _).alloc (by simp) _, ?_, ?_⟩
  · rw [Below.heap_alloc _ _ _ (by simp)]; exact heap_alloc_new w _
  · have := heap_alloc_new (w.alloc (.cells cs t)) (.cells cs' t')
    simpa using this

theorem below_set3 {w4 : World} {h : Nat} {a0 a1 a2 x y z : Value} {t : TypeId} {A5 : World} (hh : w4.heap[h]? = some (.cells #[a0, a1, a2, .int .i64 0, .int .i64 0, .int .i64 0, .int .i64 0] t (0, 0)))
    (hA : ((w4.setCell ⟨h, 3, none⟩ x).setCell ⟨h, 4, none⟩ y).setCell ⟨h, 5, none⟩ z = A5) : A5.heap[h]? = some (.cells #[a0, a1, a2, x, y, z, .int .i64 0] t (0, 0)) ∧ Fr (fun k => k = h) w4 A5 ∧ A5.heap.size = w4.heap.size := by
  subst hA
  refine ⟨?_, (((Fr.refl (fun k => k = h) w4).setCell (p := ⟨h, 3, none⟩) (Or.inl rfl) x).setCell (p := ⟨h, 4, none⟩) (Or.inl rfl) y).setCell (p := ⟨h, 5, none⟩) (Or.inl rfl) z, by simp [World.setCell]⟩
  have e1 := heap_setCell_same w4 h 3 _ t x hh
  have e2 := heap_setCell_same _ h 4 _ t y e1
  have e3 := heap_setCell_same _ h 5 _ t z e2
  rw [e3]; rfl

theorem Fr.also {G : Nat → Prop} {a b c : World} (h : Fr G a b) (hb : Below b.heap.size b c) : Fr G a c :=
  h.trans' (Fr.of_below hb (fun _ => False) (fun k h1 h2 => by omega)) (fun i _ h => h.elim)

/-- Stores into a block that was not there in the first world. -/
theorem Fr.new {G : Nat → Prop} {a b c : World} {k : Nat} (h : Fr G a b) (hk : a.heap.size ≤ k) (hc : Fr (fun i => i = k) b c) : Fr G a c :=
  h.trans' hc (fun i hi e => by omega)

set_option maxHeartbeats 12800000 in
set_option maxRecDepth 1000000 in
theorem made_any {Rep : World → Nat → (Nat → Prop) → St → Prop} (P : PSpec Rep) (b xc gs cs ga ca : Nat) (s : St) (F : Nat → Prop) (id : Nat) (o : Stp) (w : World) (hr : BookAt w b xc gs cs ga ca s) (hR : Rep w xc F s) (hv : Inv s) (hk : id ∈ s.keep) (ho : StpI o) (hF1 : ¬ F b) (hF2 : ¬ F gs) (hF3 : ¬ F ga) :
    Calls Try.prog 19 #[.pointer (some ⟨b, 0, none⟩), .int .i64 (id : Int), stpV o] w fun e w' => e = .returned (.tuple #[optV (madeH s id o), .bool (madeH s id o).isSome, .bool true]) ∧ Left Rep w w' xc F s := by
  have hl := inv_lt hv hk
  have hsm := hv.wk.small
  have hbb := begins_bounds hv hl
  have hnp := np_bounds hv
  obtain ⟨oA, oB, oC, oD⟩ := o
  have hFl := P.lt hR
  have hpB := pickI_bounds oB 7 (by omega)
  have hpC := pickI_bounds oC (np s) hnp.1
  have HNP := Go.Proofs.Ytpaakikgfojplab.hid (show np s = (s.par.stakes.length : Int) from rfl)
  have HSK := Go.Proofs.Ytpaakikgfojplab.hid (fun k => show slotK s id ⟨oA, oB, oC, oD⟩ k = beginsAt s id + pickI oB 7 + (k : Int) / np s from rfl)
  have HPK := Go.Proofs.Ytpaakikgfojplab.hid (fun k => show poolK s ⟨oA, oB, oC, oD⟩ k = (pickI oC (np s) + k) % np s from rfl)
  have HSB := Go.Proofs.Ytpaakikgfojplab.hid (fun k hk => slotK_bounds hv hl ⟨oA, oB, oC, oD⟩ k hk)
  have HPB := Go.Proofs.Ytpaakikgfojplab.hid (fun k => poolK_bounds hv ⟨oA, oB, oC, oD⟩ k)
  have HBE := Go.Proofs.Ytpaakikgfojplab.hid (show (if id = 0 then 0 else (hd s.all id).slot + 1) = beginsAt s id from rfl)
  unfold stpV
  go_enter Try.func19, Try.ntmps19
  have c7 := cell_of_cells (j := 7) hr.blk rfl
  have hbl := hr.lts
  have hb1 := hbl.1
  go_wp2
  generalize hA : (w.alloc (.cells #[.int .i64 oA, .int .i64 oB, .int .i64 oC, .int .i64 oD] 36)).alloc (.cells #[.int .i64 0, .int .i64 0, .int .i64 0, .int .i64 0, .int .i64 0, .int .i64 0, .int .i64 0] 42) = A at *
  obtain ⟨hsA, hbA, hAo, hAz⟩ := below_two hA
  clear hA c7
  have hrA := hr.keep hbA
  have hRA := P.keep hR hbA
  have q1 := cell_of_cells (j := 1) hAo rfl
  go_quiet ((first | (go_at_call 22; exact quiet_eq (begins_is b xc gs cs ga ca s id _ (hrA.drewN _) hv hl)) | (go_at_call 18; exact quiet_eq (pick_is oB 7 _ ho.b (by omega) (by omega)))))
  have hbA' : Below w.heap.size w (A.drewN nq) := drawB hbA nq
  have hrA' := hrA.drewN nq
  have hRA' := P.keep hRA (drawB (Below.refl A.heap.size A) nq)
  have hAo' : (A.drewN nq).heap[w.heap.size]? = some (.cells #[.int .i64 oA, .int .i64 oB, .int .i64 oC, .int .i64 oD] 36 (0, 0)) := hAo
  have hAz' : (A.drewN nq).heap[w.heap.size + 1]? = some (.cells #[.int .i64 0, .int .i64 0, .int .i64 0, .int .i64 0, .int .i64 0, .int .i64 0, .int .i64 0] 42 (0, 0)) := hAz
  have hsA' : (A.drewN nq).heap.size = w.heap.size + 2 := hsA
  clear hbA hrA hRA hAo hAz hsA q1 hr hR
  generalize A.drewN nq = W at *
  have hnpN : (s.par.stakes.length : Int) = np s := HNP.out.symm
  have hF0 : 0 ≤ beginsAt s id + pickI oB 7 ∧ beginsAt s id + pickI oB 7 ≤ 10010 := by omega
  have hlo : w.heap.size + 2 ≤ W.heap.size := by omega
  clear hsA'
  have HFl := Go.Proofs.Ytpaakikgfojplab.hid hFl
  clear hFl
  generalize hFF : beginsAt s id + pickI oB 7 = F0 at *
  clear hFF hbb hpB
  have HNS : NpIs s s.par.stakes.length := ⟨rfl⟩
  generalize hNN : s.par.stakes.length = nN at *
  have HNN := Go.Proofs.Ytpaakikgfojplab.hid hNN
  clear hNN
  have hnN1 : 1 ≤ nN ∧ nN ≤ 6 := by omega
  generalize np s = npi at *
  subst hnpN
  go_wp2
  go_loopw [11] (fun k wr => ∃ j : Nat, j ≤ 25 * nN ∧ k = .int .i64 j ∧ Hid (Before s id ⟨oA, oB, oC, oD⟩ j) ∧ Left Rep W wr xc F s)
    (fun k _ => 25 * nN - (intOf k).toNat)
  case atStart => exact ⟨0, Nat.zero_le _, rfl, by intro j hj; omega, Left.same hRA'⟩
  case round =>
    obtain ⟨j, hj, rfl, HBF, hL⟩ := hrel
    have hLs := hL.size
    have hrr := hL.book hrA' hF1 hF2 hF3
    have hnF0 : ¬ F w.heap.size := fun h => by have := HFl.out _ h; omega
    have hnF1 : ¬ F (w.heap.size + 1) := fun h => by have := HFl.out _ h; omega
    have hWo := (hL.block (k := w.heap.size) (by omega) hnF0).trans hAo'
    have hWz := (hL.block (k := w.heap.size + 1) (by omega) hnF1).trans hAz'
    by_cases hlt : j < 25 * nN
    · have hlt' : (j : Int) < 25 * (nN : Int) := by omega
      have hsb := HSB.out j (by omega)
      have hpb := HPB.out j
      have hsk := HSK.out j
      have hpk := HPK.out j
      have hz : ((nN : Int) == 0) = false := by rw [beq_eq_false_iff_ne]; omega
      have hdv : 0 ≤ (j : Int) / (nN : Int) := Int.ediv_nonneg (by omega) (by omega)
      have hdv2 : (j : Int) / (nN : Int) ≤ j := Int.ediv_le_self _ (by omega)
      have o2 := cell_of_cells (j := 2) hWo rfl
      have hEK : endK s id ⟨oA, oB, oC, oD⟩ j = (decide (10000 < slotK s id ⟨oA, oB, oC, oD⟩ j) || leadsAt s id (slotK s id ⟨oA, oB, oC, oD⟩ j) (poolK s ⟨oA, oB, oC, oD⟩ j)) := rfl
      go_wp2_with fail
      refine (pick_is oC (nN : Int) _ ho.c (by omega) (by omega)).mono ?_
      rintro e w2 ⟨rfl, rfl⟩
      have hpm1 : 0 ≤ (pickI oC (nN : Int) + (j : Int)) % (nN : Int) := Int.emod_nonneg _ (by omega)
      have hpm2 : (pickI oC (nN : Int) + (j : Int)) % (nN : Int) < (nN : Int) := Int.emod_lt_of_pos _ (by omega)
      have htm : (pickI oC (nN : Int) + (j : Int)).tmod (nN : Int) = (pickI oC (nN : Int) + (j : Int)) % (nN : Int) := Int.tmod_eq_emod_of_nonneg (by omega)
      have htd : (j : Int).tdiv (nN : Int) = (j : Int) / (nN : Int) := Int.tdiv_eq_ediv_of_nonneg (by omega)
      rw [hsk] at hsb hEK
      rw [hpk] at hpb hEK
      have HSKJ := Go.Proofs.Ytpaakikgfojplab.hid hsk
      have HPKJ := Go.Proofs.Ytpaakikgfojplab.hid hpk
      clear hsk hpk HSK HPK HSB HPB
      by_cases hbig : 10000 < F0 + (j : Int) / (nN : Int)
      · have hmd : madeH s id ⟨oA, oB, oC, oD⟩ = none := by
          unfold madeH
          rw [found_at (by rw [HNN.out]; exact hlt) HBF.out (by rw [hEK]; simp [hbig])]
          simp only [HSKJ.out, if_pos hbig]
        have HMD := Go.Proofs.Ytpaakikgfojplab.hid hmd
        have z0 := cell_of_cells (j := 0) hWz rfl
        have z1 := cell_of_cells (j := 1) hWz rfl
        have z2 := cell_of_cells (j := 2) hWz rfl
        have z3 := cell_of_cells (j := 3) hWz rfl
        have z4 := cell_of_cells (j := 4) hWz rfl
        have z5 := cell_of_cells (j := 5) hWz rfl
        have z6 := cell_of_cells (j := 6) hWz rfl
        have zf0 := free_of_cells (j := 0) hWz
        have zf1 := free_of_cells (j := 1) hWz
        have zf2 := free_of_cells (j := 2) hWz
        have zf3 := free_of_cells (j := 3) hWz
        have zf4 := free_of_cells (j := 4) hWz
        have zf5 := free_of_cells (j := 5) hWz
        have zf6 := free_of_cells (j := 6) hWz
        have HFIN := Go.Proofs.Ytpaakikgfojplab.hid (hL.put P hbA' (q := w.heap.size + 1) (by omega) (by omega) hnF1 ((((((((Fr.refl (fun k => k = w.heap.size + 1) wr).setCell (p := ⟨w.heap.size + 1, 0, none⟩) (Or.inl rfl) (.int .i64 0)).setCell (p := ⟨w.heap.size + 1, 1, none⟩) (Or.inl rfl) (.int .i64 0)).setCell (p := ⟨w.heap.size + 1, 2, none⟩) (Or.inl rfl) (.int .i64 0)).setCell (p := ⟨w.heap.size + 1, 3, none⟩) (Or.inl rfl) (.int .i64 0)).setCell (p := ⟨w.heap.size + 1, 4, none⟩) (Or.inl rfl) (.int .i64 0)).setCell (p := ⟨w.heap.size + 1, 5, none⟩) (Or.inl rfl) (.int .i64 0)).setCell (p := ⟨w.heap.size + 1, 6, none⟩) (Or.inl rfl) (.int .i64 0)))
        clear hmd hEK hWz hWo hrr hL o2
        go_wp2
        refine bodyPost_ret (v := .tuple #[.agg #[.int .i64 0, .int .i64 0, .int .i64 0, .int .i64 0, .int .i64 0, .int .i64 0, .int .i64 0], .bool false, .bool true]) (by simp [results, Try.results19, go_sem, z0, z1, z2, z3, z4, z5, z6]) rfl ⟨by rw [HMD.out]; rfl, ?_⟩
        exact HFIN.out
      · have hte := turn_zero hv hk (slot := F0 + (j : Int) / (nN : Int)) (pool := (pickI oC (nN : Int) + (j : Int)) % (nN : Int)) hsb.1 (by omega) hpm1 (by rw [HNS.eq]; exact hpm2)
        have htv : turnV s (id : Int) (F0 + (j : Int) / (nN : Int)) ((pickI oC (nN : Int) + (j : Int)) % (nN : Int)) = .agg #[.int .i64 (nonceAt s id (F0 + (j : Int) / (nN : Int))), .int .i64 (proofAt s id (F0 + (j : Int) / (nN : Int)) ((pickI oC (nN : Int) + (j : Int)) % (nN : Int))), .int .i64 (stakeAt s id (F0 + (j : Int) / (nN : Int)) ((pickI oC (nN : Int) + (j : Int)) % (nN : Int))), .bool (leadsAt s id (F0 + (j : Int) / (nN : Int)) ((pickI oC (nN : Int) + (j : Int)) % (nN : Int)))] := by unfold turnV; rw [if_pos hte, Int.toNat_natCast]
        have HTE := Go.Proofs.Ytpaakikgfojplab.hid hte
        have HTV := Go.Proofs.Ytpaakikgfojplab.hid htv
        have HEK := Go.Proofs.Ytpaakikgfojplab.hid hEK
        clear hte htv hEK
        have c0 := cell_of_cells (j := 0) hrr.blk rfl
        obtain ⟨F1, r1, f1, n1⟩ := hL
        go_wp2_with fail
        refine (P.turn _ xc F1 s (id : Int) (F0 + (j : Int) / (nN : Int)) ((pickI oC (nN : Int) + (j : Int)) % (nN : Int)) r1 hv (i64_of (by omega) (by omega)) (i64_of (by omega) (by omega)) (i64_of (by omega) (by omega))).mono ?_
        rintro e w3 ⟨rfl, hL3'⟩
        have hL3 := Left.step f1 n1 hL3'
        rw [HTV.out, HTE.out]
        clear c0 hrr hWo hWz o2 hL3'
        cases hld : leadsAt s id (F0 + (j : Int) / (nN : Int)) ((pickI oC (nN : Int) + (j : Int)) % (nN : Int)) with
        | false =>
          have hEF : endK s id ⟨oA, oB, oC, oD⟩ j = false := by rw [HEK.out, hld]; simp; omega
          have hBN : Before s id ⟨oA, oB, oC, oD⟩ (j + 1) := by
            intro i hi
            by_cases e : i = j
            · subst e; exact hEF
            · exact HBF.out i (by omega)
          have HBN := Go.Proofs.Ytpaakikgfojplab.hid hBN
          clear hEF hBN
          go_wp2
          refine ⟨⟨j + 1, by omega, by simp, HBN, hL3.below P ((Below.refl _ _).alloc (Nat.le_refl _) _)⟩, ?_⟩
          simp only [intOf]; omega
        | true =>
          have hW3o := (hL3.block (k := w.heap.size) (by omega) hnF0).trans hAo'
          have hrr3 := hL3.book hrA' hF1 hF2 hF3
          have hL3s := hL3.size
          have o3 : ∀ X Y : Obj, ((w3.alloc X).alloc Y).cell? ⟨w.heap.size, 3, none⟩ = some (.int .i64 oD) := fun X Y => cell_of_cells (j := 3) ((Below.heap_alloc _ _ _ (by simp; omega)).trans ((Below.heap_alloc _ _ _ (by omega)).trans hW3o)) rfl
          have hmd : madeH s id ⟨oA, oB, oC, oD⟩ = some (hdrK s id ⟨oA, oB, oC, oD⟩ j) := by
            unfold madeH
            rw [found_at (by rw [HNN.out]; exact hlt) HBF.out (by rw [HEK.out, hld]; simp)]
            simp only [HSKJ.out]
            rw [if_neg (by omega)]
          have hdk : hdrK s id ⟨oA, oB, oC, oD⟩ j = { slot := F0 + (j : Int) / (nN : Int), pool := (pickI oC (nN : Int) + (j : Int)) % (nN : Int), proof := proofAt s id (F0 + (j : Int) / (nN : Int)) ((pickI oC (nN : Int) + (j : Int)) % (nN : Int)), count := countAt s.all ((pickI oC (nN : Int) + (j : Int)) % (nN : Int)) id + pickI oD 1048576 % 2, frm := pickI oD 1048576 / 2 % (nN : Int), dst := pickI oD 1048576 / 2 / (nN : Int) % (nN : Int), amount := pickI oD 1048576 / 2 / (nN : Int) / (nN : Int) % (stakeOf s id (pickI oD 1048576 / 2 % (nN : Int)).toNat + 1) } := by
            unfold hdrK
            simp only [HSKJ.out, HPKJ.out, HNS.eq]
          rw [hdk] at hmd
          have hcb := count_bounds hv ((pickI oC (nN : Int) + (j : Int)) % (nN : Int)) id hl
          have hhb := height_small hv hl
          have hpd := pickI_bounds oD 1048576 (by omega)
          have HMD := Go.Proofs.Ytpaakikgfojplab.hid hmd
          clear hmd hdk HSKJ HPKJ HEK HTV HTE HNP HBE hsb hpb
          go_wp2_with fail
          generalize hA3 : (w3.alloc (.cells #[.int .i64 (nonceAt s id (F0 + (j : Int) / (nN : Int))), .int .i64 (proofAt s id (F0 + (j : Int) / (nN : Int)) ((pickI oC (nN : Int) + (j : Int)) % (nN : Int))), .int .i64 (stakeAt s id (F0 + (j : Int) / (nN : Int)) ((pickI oC (nN : Int) + (j : Int)) % (nN : Int))), .bool true] 52)).alloc (.cells #[.int .i64 (F0 + (j : Int) / (nN : Int)), .int .i64 ((pickI oC (nN : Int) + (j : Int)) % (nN : Int)), .int .i64 (proofAt s id (F0 + (j : Int) / (nN : Int)) ((pickI oC (nN : Int) + (j : Int)) % (nN : Int))), .int .i64 0, .int .i64 0, .int .i64 0, .int .i64 0] 42) = A3 at *
          obtain ⟨hsA3, hbA3, -, hAh⟩ := below_two hA3
          clear hA3 o3
          refine (pick_is oD 1048576 _ ho.d (by omega) (by omega)).mono ?_
          rintro e w4 ⟨rfl, rfl⟩
          generalize proofAt s id (F0 + (j : Int) / (nN : Int)) ((pickI oC (nN : Int) + (j : Int)) % (nN : Int)) = pr at *
          generalize (pickI oC (nN : Int) + (j : Int)) % (nN : Int) = po at *
          generalize F0 + (j : Int) / (nN : Int) = sl at *
          have hfr3 : Fr (fun _ => False) w3 A3 := (Fr.refl _ _).also hbA3
          have hrA3 := hrr3.keep hbA3
          generalize hdd : pickI oD 1048576 = d at *
          clear hdd
          have htd1 : d.tmod 2 = d % 2 := Int.tmod_eq_emod_of_nonneg (by omega)
          have htd2 : d.tdiv 2 = d / 2 := Int.tdiv_eq_ediv_of_nonneg (by omega)
          have hm2 : 0 ≤ d % 2 ∧ d % 2 ≤ 1 := by omega
          have hd2 : 0 ≤ d / 2 ∧ d / 2 ≤ 600000 := by omega
          generalize d / 2 = d2 at *
          generalize d % 2 = m2 at *
          have htd3 : d2.tmod (nN : Int) = d2 % (nN : Int) := Int.tmod_eq_emod_of_nonneg (by omega)
          have htd4 : d2.tdiv (nN : Int) = d2 / (nN : Int) := Int.tdiv_eq_ediv_of_nonneg (by omega)
          have hd3 : 0 ≤ d2 / (nN : Int) := Int.ediv_nonneg (by omega) (by omega)
          have hd3' : d2 / (nN : Int) ≤ d2 := Int.ediv_le_self _ (by omega)
          have hf1 : 0 ≤ d2 % (nN : Int) := Int.emod_nonneg _ (by omega)
          have hf2 : d2 % (nN : Int) < (nN : Int) := Int.emod_lt_of_pos _ (by omega)
          generalize d2 / (nN : Int) = d3 at *
          obtain ⟨fN, hfN⟩ : ∃ fN : Nat, d2 % (nN : Int) = (fN : Int) := ⟨(d2 % (nN : Int)).toNat, by omega⟩
          rw [hfN] at htd3 hf1 hf2 HMD
          have htd5 : d3.tmod (nN : Int) = d3 % (nN : Int) := Int.tmod_eq_emod_of_nonneg (by omega)
          have htd6 : d3.tdiv (nN : Int) = d3 / (nN : Int) := Int.tdiv_eq_ediv_of_nonneg (by omega)
          have hd4 : 0 ≤ d3 / (nN : Int) := Int.ediv_nonneg (by omega) (by omega)
          have hd4' : d3 / (nN : Int) ≤ d3 := Int.ediv_le_self _ (by omega)
          have ht1 : 0 ≤ d3 % (nN : Int) := Int.emod_nonneg _ (by omega)
          have ht2 : d3 % (nN : Int) < (nN : Int) := Int.emod_lt_of_pos _ (by omega)
          generalize d3 % (nN : Int) = tN at *
          generalize d3 / (nN : Int) = d4 at *
          have hsb := stake_bounds hv hl fN
          have hst : total s.par ≤ 1000000 := Int.le_trans (total_small hv.par).2 (by omega)
          have HBC := Go.Proofs.Ytpaakikgfojplab.hid (fun (W' : World) (hr' : BookAt W' b xc gs cs ga ca s) => bcount_any b xc gs cs ga ca s id po W' hr' hv hl)
          have HSO := Go.Proofs.Ytpaakikgfojplab.hid (show (stakesAt s.par s.all id).getD fN 0 = stakeOf s id fN from rfl)
          have HBS := Go.Proofs.Ytpaakikgfojplab.hid (fun (W' : World) (hr' : BookAt W' b xc gs cs ga ca s) => bstake_any b xc gs cs ga ca s id fN W' hr' hv hl (by rw [HNN.out]; omega))
          rw [HSO.out] at hsb
          rw [Int.toNat_natCast] at HMD
          generalize stakeOf s id fN = sk at *
          generalize countAt s.all po id = cn at *
          have hcn : 0 ≤ cn ∧ cn ≤ 10001 := by omega
          have hsk : 0 ≤ sk ∧ sk ≤ 1000000 := by omega
          clear hfN hcb hhb hsb hst
          go_wp2_with fail
          refine (HBC.out _ hrA3).mono ?_
          rintro e w4 ⟨rfl, hb4⟩
          have hb4s := hb4.size
          have hh4 := (hb4.block (w3.heap.size + 1) (by omega)).trans hAh
          have hfr4 := hfr3.also hb4
          have g3 := cell_of_cells (j := 3) hh4 rfl
          have g4 := cell_of_cells (j := 4) hh4 rfl
          have g5 := cell_of_cells (j := 5) hh4 rfl
          have gf3 := free_of_cells (j := 3) hh4
          have gf4 := free_of_cells (j := 4) hh4
          have gf5 := free_of_cells (j := 5) hh4
          clear hrA3 hbA3 hb4 hAh hfr3
          go_wp2_with fail
          generalize hA5 : ((w4.setCell ⟨w3.heap.size + 1, 3, none⟩ (.int .i64 (cn + m2))).setCell ⟨w3.heap.size + 1, 4, none⟩ (.int .i64 (fN : Int))).setCell ⟨w3.heap.size + 1, 5, none⟩ (.int .i64 tN) = A5 at *
          obtain ⟨hh5, hfr5', hs5⟩ := below_set3 hh4 hA5
          have hfr5 := hfr4.new (by omega) hfr5'
          clear hA5 hh4 hfr4 hfr5' g3 g4 g5 gf3 gf4 gf5
          refine (HBS.out _ (hrr3.fr hfr5 (fun h => h) (fun h => h) (fun h => h))).mono ?_
          rintro e w5 ⟨rfl, hb5⟩
          have hb5s := hb5.size
          have hh6 := (hb5.block (w3.heap.size + 1) (by omega)).trans hh5
          have hfr6 := hfr5.also hb5
          have hz6 := (hfr6.block (w.heap.size + 1) (by omega) (fun h => h)).trans ((hL3.block (k := w.heap.size + 1) (by omega) hnF1).trans hAz')
          have htd7 : d4.tmod (sk + 1) = d4 % (sk + 1) := Int.tmod_eq_emod_of_nonneg (by omega)
          have hz2 : (sk + 1 == 0) = false := by rw [beq_eq_false_iff_ne]; omega
          have h0 : 0 ≤ d4 % (sk + 1) := Int.emod_nonneg _ (by omega)
          have h1 : d4 % (sk + 1) < sk + 1 := Int.emod_lt_of_pos _ (by omega)
          have g0 := cell_of_cells (j := 0) hh6 rfl
          have g1 := cell_of_cells (j := 1) hh6 rfl
          have g2 := cell_of_cells (j := 2) hh6 rfl
          have g3 := cell_of_cells (j := 3) hh6 rfl
          have g4 := cell_of_cells (j := 4) hh6 rfl
          have g5 := cell_of_cells (j := 5) hh6 rfl
          have g6 := cell_of_cells (j := 6) hh6 rfl
          have gf6 := free_of_cells (j := 6) hh6
          have z0 := cell_of_cells (j := 0) hz6 rfl
          have z1 := cell_of_cells (j := 1) hz6 rfl
          have z2 := cell_of_cells (j := 2) hz6 rfl
          have z3 := cell_of_cells (j := 3) hz6 rfl
          have z4 := cell_of_cells (j := 4) hz6 rfl
          have z5 := cell_of_cells (j := 5) hz6 rfl
          have z6 := cell_of_cells (j := 6) hz6 rfl
          have zf0 := free_of_cells (j := 0) hz6
          have zf1 := free_of_cells (j := 1) hz6
          have zf2 := free_of_cells (j := 2) hz6
          have zf3 := free_of_cells (j := 3) hz6
          have zf4 := free_of_cells (j := 4) hz6
          have zf5 := free_of_cells (j := 5) hz6
          have zf6 := free_of_cells (j := 6) hz6
          generalize hAM : d4 % (sk + 1) = am at *
          have HFR := Go.Proofs.Ytpaakikgfojplab.hid ((hfr6.mono (fun k _ h => h.elim)).setCell (F := fun k => k = w.heap.size + 1) (p := ⟨w3.heap.size + 1, 6, none⟩) (Or.inr (by show w3.heap.size ≤ w3.heap.size + 1; omega)) (.int .i64 am))
          have HFIN := Go.Proofs.Ytpaakikgfojplab.hid (hL3.put P hbA' (q := w.heap.size + 1) (by omega) (by omega) hnF1 (((((((HFR.out.setCell (p := ⟨w.heap.size + 1, 0, none⟩) (Or.inl rfl) (.int .i64 sl)).setCell (p := ⟨w.heap.size + 1, 1, none⟩) (Or.inl rfl) (.int .i64 po)).setCell (p := ⟨w.heap.size + 1, 2, none⟩) (Or.inl rfl) (.int .i64 pr)).setCell (p := ⟨w.heap.size + 1, 3, none⟩) (Or.inl rfl) (.int .i64 (cn + m2))).setCell (p := ⟨w.heap.size + 1, 4, none⟩) (Or.inl rfl) (.int .i64 (fN : Int))).setCell (p := ⟨w.heap.size + 1, 5, none⟩) (Or.inl rfl) (.int .i64 tN)).setCell (p := ⟨w.heap.size + 1, 6, none⟩) (Or.inl rfl) (.int .i64 am)))
          clear hfr6 hfr5 hh6 hz6 hh5 hb5 hrr3 hW3o hL3 HFR hAz' hAo' hbA' hrA' hRA' HBC HBS r1 f1 n1
          go_wp2
          refine bodyPost_ret (v := .tuple #[.agg #[.int .i64 sl, .int .i64 po, .int .i64 pr, .int .i64 (cn + m2), .int .i64 (fN : Int), .int .i64 tN, .int .i64 am], .bool true, .bool true]) (by simp [results, Try.results19, go_sem, z0, z1, z2, z3, z4, z5, z6]) rfl ⟨by rw [HMD.out]; rfl, ?_⟩
          exact HFIN.out
    · have hje : j = 25 * nN := by omega
      subst hje
      have hmd : madeH s id ⟨oA, oB, oC, oD⟩ = none := by
        have hfn : foundK s id ⟨oA, oB, oC, oD⟩ = none := found_none (by rw [HNN.out]; exact HBF.out)
        unfold madeH
        rw [hfn]
      have HMD := Go.Proofs.Ytpaakikgfojplab.hid hmd
      have z0 := cell_of_cells (j := 0) hWz rfl
      have z1 := cell_of_cells (j := 1) hWz rfl
      have z2 := cell_of_cells (j := 2) hWz rfl
      have z3 := cell_of_cells (j := 3) hWz rfl
      have z4 := cell_of_cells (j := 4) hWz rfl
      have z5 := cell_of_cells (j := 5) hWz rfl
      have z6 := cell_of_cells (j := 6) hWz rfl
      have zf0 := free_of_cells (j := 0) hWz
      have zf1 := free_of_cells (j := 1) hWz
      have zf2 := free_of_cells (j := 2) hWz
      have zf3 := free_of_cells (j := 3) hWz
      have zf4 := free_of_cells (j := 4) hWz
      have zf5 := free_of_cells (j := 5) hWz
      have zf6 := free_of_cells (j := 6) hWz
      have HFIN := Go.Proofs.Ytpaakikgfojplab.hid (hL.put P hbA' (q := w.heap.size + 1) (by omega) (by omega) hnF1 ((((((((Fr.refl (fun k => k = w.heap.size + 1) wr).setCell (p := ⟨w.heap.size + 1, 0, none⟩) (Or.inl rfl) (.int .i64 0)).setCell (p := ⟨w.heap.size + 1, 1, none⟩) (Or.inl rfl) (.int .i64 0)).setCell (p := ⟨w.heap.size + 1, 2, none⟩) (Or.inl rfl) (.int .i64 0)).setCell (p := ⟨w.heap.size + 1, 3, none⟩) (Or.inl rfl) (.int .i64 0)).setCell (p := ⟨w.heap.size + 1, 4, none⟩) (Or.inl rfl) (.int .i64 0)).setCell (p := ⟨w.heap.size + 1, 5, none⟩) (Or.inl rfl) (.int .i64 0)).setCell (p := ⟨w.heap.size + 1, 6, none⟩) (Or.inl rfl) (.int .i64 0)))
      clear hmd hWz hWo hrr hL
      go_wp2
      refine bodyPost_ret (v := .tuple #[.agg #[.int .i64 0, .int .i64 0, .int .i64 0, .int .i64 0, .int .i64 0, .int .i64 0, .int .i64 0], .bool false, .bool true]) (by simp [results, Try.results19, go_sem, z0, z1, z2, z3, z4, z5, z6]) rfl ⟨by rw [HMD.out]; rfl, ?_⟩
      exact HFIN.out
end Go.Proofs.Ytpaakikgfojplab

