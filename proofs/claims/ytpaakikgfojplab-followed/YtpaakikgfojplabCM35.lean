import Derived.Test.YtpaakikgfojplabCM34
/-
  THE WALKS of the program's tree: settle.
-/
namespace Go.Proofs.Ytpaakikgfojplab
open Go.RowKit Num Bk
set_option linter.unusedVariables false

theorem row_type {w : World} {base n e size k : Nat} {v : Value} {xs : List Value} (h : w.ownsRow base e size v n xs) (hv : v.ownBlock = some k) : ∃ cur, w.heap[k]? = some (.cells cur e (0, 0)) := by
  rcases h.2 with ⟨rfl, _⟩ | ⟨g, cap, cur, rfl, hb, hg, _⟩
  · simp [Value.ownBlock] at hv
  · simp [Value.ownBlock] at hv
    subst hv
    exact ⟨cur, hg⟩

theorem ChAt.ne {w : World} {x gk ck : Nat} {pv : Value} {ps : List Nat} {p : Par} {acc : Int} {ns : List Nd} {past : List Nat} (h : ChAt w x gk ck pv ps p acc ns past) : x ≠ gk ∧ (∀ k, pv.ownBlock = some k → x ≠ k ∧ gk ≠ k) := by
  obtain ⟨c2, h2, _⟩ := row_block h.kep
  refine ⟨block_ne h.blk h2 (by decide), fun k hk => ?_⟩
  obtain ⟨c3, h3⟩ := row_type h.pst hk
  exact ⟨block_ne h.blk h3 (by decide), block_ne h2 h3 (by decide)⟩

/-- What a call that turns the chain leaves. -/
def Chd (w w' : World) (x gk : Nat) (pv : Value) (ps : List Nat) (p : Par) (acc : Int) (ns : List Nd) (past : List Nat) : Prop :=
  ∃ gk' ck' pv', ChAt w' x gk' ck' pv' ps p acc ns past ∧ Fr (fun k => k = x ∨ k = gk ∨ pv.ownBlock = some k) w w' ∧ (gk' = gk ∨ w.heap.size ≤ gk') ∧ (∀ k, pv'.ownBlock = some k → pv.ownBlock = some k ∨ w.heap.size ≤ k)

theorem put_past {W w7 : World} {x gk ck g7 cap7 n : Nat} {pv : Value} {ps : List Nat} {p : Par} {acc : Int} {ns : List Nd} {past : List Nat} (h : ChAt W x gk ck pv ps p acc ns past) (o : Obj) (hgrow : (W.alloc o).grownBy w7 pv.ownBlock)
    (hown : w7.ownsRow 0 3 1 (.slice (some ⟨g7, 0, none⟩) (past.length + 1) cap7) (past.length + 1) (dcells past ++ [.int .i64 (n : Int)])) (hat : pv.ownBlock = some g7 ∨ g7 = W.heap.size + 1) :
    (Fr (fun k => k = x ∨ k = gk ∨ pv.ownBlock = some k) W (w7.setCell ⟨x, 9, none⟩ (.slice (some ⟨g7, 0, none⟩) (past.length + 1) cap7)) ∧ ∀ k, (Value.slice (some ⟨g7, 0, none⟩) (past.length + 1) cap7).ownBlock = some k → pv.ownBlock = some k ∨ W.heap.size ≤ k) ∧ ChAt (w7.setCell ⟨x, 9, none⟩ (.slice (some ⟨g7, 0, none⟩) (past.length + 1) cap7)) x gk ck (.slice (some ⟨g7, 0, none⟩) (past.length + 1) cap7) ps p acc ns (past ++ [n]) := by
  obtain ⟨hn1, hn2⟩ := h.ne
  obtain ⟨l1, l2, l3⟩ := h.lts
  have hF7 : Fr (fun b => pv.ownBlock = some b) W w7 := ((Fr.refl _ W).alloc o).grown hgrow (by intro k e; exact Or.inl e)
  have hb7 : w7.heap[x]? = W.heap[x]? := hF7.block x l1 (fun e => (hn2 x e).1 rfl)
  have hxg : x ≠ g7 := by rcases hat with h' | h'; exact (hn2 g7 h').1; omega
  have hC : ChAt (w7.setCell ⟨x, 9, none⟩ (.slice (some ⟨g7, 0, none⟩) (past.length + 1) cap7)) x gk ck (.slice (some ⟨g7, 0, none⟩) (past.length + 1) cap7) ps p acc ns (past ++ [n]) := by
    refine ⟨?_, ?_, ?_⟩
    · rw [heap_setCell_same w7 x 9 _ 83 _ (hb7.trans h.blk)]
      simp
    · exact ownsRow_setCell_other (row_fr h.kep hF7 (by intro g e; simp [Value.ownBlock] at e; subst e; exact fun e => (hn2 _ e).2 rfl)) (by simpa [Value.ownBlock] using Ne.symm hn1) _
    · have := ownsRow_setCell_other hown (a := ⟨x, 9, none⟩) (by simpa [Value.ownBlock] using Ne.symm hxg) (.slice (some ⟨g7, 0, none⟩) (past.length + 1) cap7)
      rw [dcells_append, List.length_append]
      exact this
  refine ⟨⟨(hF7.mono (by intro k _ h; exact Or.inr (Or.inr h))).setCell (Or.inl (Or.inl rfl)) _, ?_⟩, hC⟩
  intro k e
  simp [Value.ownBlock] at e
  subst e
  rcases hat with h' | h'
  · exact Or.inl h'
  · exact Or.inr (by omega)

theorem put_kept {W : World} {x gk ck g c B : Nat} {pv : Value} {ps : List Nat} {p : Par} {acc : Int} {ns os : List Nd} {past : List Nat} (h : ChAt W x gk ck pv ps p acc ns past) (hown : W.ownsRow B 89 37 (.slice (some ⟨g, 0, none⟩) os.length c) os.length (nsC os)) :
    ChAt (W.setCell ⟨x, 8, none⟩ (.slice (some ⟨g, 0, none⟩) os.length c)) x g c pv ps p acc os past := by
  obtain ⟨hn1, hn2⟩ := h.ne
  obtain ⟨cur, hgb, _⟩ := row_block hown
  have hxg : x ≠ g := block_ne h.blk hgb (by decide)
  refine ⟨?_, ?_, ?_⟩
  · rw [heap_setCell_same W x 8 _ 83 _ h.blk]
    simp
  · exact ownsRow_setCell_other (row_weak hown (Nat.zero_le _)) (by simpa [Value.ownBlock] using Ne.symm hxg) _
  · exact ownsRow_setCell_other h.pst (fun e => (hn2 x (by simpa using e)).1 rfl) _

theorem Chd.of_below {w w' : World} {x gk ck : Nat} {pv : Value} {ps : List Nat} {p : Par} {acc : Int} {ns : List Nd} {past : List Nat} (h : ChAt w x gk ck pv ps p acc ns past) (hb : Below w.heap.size w w') : Chd w w' x gk pv ps p acc ns past :=
  ⟨gk, ck, pv, h.keep hb, Fr.of_below hb _ (fun k h1 h2 => by omega), Or.inl rfl, fun k e => Or.inl e⟩

/-- Two steps. -/
theorem Chd.trans {w w1 w2 : World} {x gk gk1 : Nat} {pv pv1 : Value} {ps : List Nat} {p : Par} {acc : Int} {ns : List Nd} {past : List Nat}
    (hF : Fr (fun k => k = x ∨ k = gk ∨ pv.ownBlock = some k) w w1) (hg : gk1 = gk ∨ w.heap.size ≤ gk1) (hp : ∀ k, pv1.ownBlock = some k → pv.ownBlock = some k ∨ w.heap.size ≤ k) (h2 : Chd w1 w2 x gk1 pv1 ps p acc ns past) : Chd w w2 x gk pv ps p acc ns past := by
  obtain ⟨gk2, ck2, pv2, hC, hF2, hg2, hp2⟩ := h2
  have hs := hF.size
  refine ⟨gk2, ck2, pv2, hC, hF.trans' hF2 ?_, ?_, ?_⟩
  · rintro i hi (h | h | h)
    · exact Or.inl h
    · rcases hg with hg | hg
      · exact Or.inr (Or.inl (by omega))
      · omega
    · rcases hp i h with h' | h'
      · exact Or.inr (Or.inr h')
      · omega
  · rcases hg2 with h | h
    · rcases hg with hg | hg
      · exact Or.inl (h.trans hg)
      · exact Or.inr (by omega)
    · exact Or.inr (by omega)
  · intro k e
    rcases hp2 k e with h | h
    · exact hp k h
    · exact Or.inr (by omega)

def setN (ns : List Nd) (past : List Nat) (d : Nat) (o : Nat) : List Nd := if (deepN ns d (tipN ns)).id = o then ns else keptN ns (deepN ns d (tipN ns))
def setP (ns : List Nd) (past : List Nat) (d : Nat) (o : Nat) : List Nat := if (deepN ns d (tipN ns)).id = o then past else past ++ [o]

set_option maxHeartbeats 800000 in
theorem tfinal_is (x gk ck : Nat) (pv : Value) {ps : List Nat} (p : Par) (acc : Int) (ns : List Nd) (past : List Nat) (w : World) (hr : ChAt w x gk ck pv ps p acc ns past) (hl1 : 1 ≤ ns.length) (hl : ns.length ≤ 100) :
    Calls Try.prog 41 #[.pointer (some ⟨x, 5, none⟩)] w fun e w' => e = .returned (.int .i64 (ns.getD 0 zeroN).id) ∧ w = w' := by
  have c8 := cell_of_cells (j := 8) hr.blk rfl
  have ch : w.cell? ⟨gk, 0, none⟩ = some (.int .i64 (ns.getD 0 zeroN).id) := by
    have := hr.node (i := 0) (by omega) 0 (.int .i64 (ns.getD 0 zeroN).id) rfl
    simpa using this
  have il : (0 : Int) < ((ns.length : Nat) : Int) := by omega
  have ib : (((ns.length : Nat) : Int) == 0) = false := by rw [beq_eq_false_iff_ne]; omega
  clear hr
  generalize (ns.getD 0 zeroN).id = v at *
  go_enter Try.func41, Try.ntmps41
  go_wp2
  go_ret
  exact ⟨rfl, rfl⟩

set_option maxHeartbeats 3200000 in
set_option maxRecDepth 1000000 in
theorem settle_is (x gk ck : Nat) (pv : Value) {ps : List Nat} (p : Par) (acc : Int) (ns : List Nd) (past : List Nat) (o : Nat) (w : World) (hr : ChAt w x gk ck pv ps p acc ns past) (hl : ns.length ≤ 90) (hl1 : 1 ≤ ns.length) (hl2 : past.length ≤ 100000) (hd1 : 1 ≤ p.depth) (hd2 : p.depth ≤ 8) (ho : (ns.getD 0 zeroN).id = (o : Int)) :
    Calls Try.prog 79 #[.pointer (some ⟨x, 5, none⟩)] w fun e w' => e = .returned (.tuple #[]) ∧ Chd w w' x gk pv ps p acc (setN ns past p.depth.toNat o) (setP ns past p.depth.toNat o) := by
  obtain ⟨i0, hi0, hz0, hz1, hz2⟩ := info_parts Try.info3
  obtain ⟨ao, pcap, hpv, hpo⟩ := own_any hr.pst
  have HN := Go.Proofs.Ytpaakikgfojplab.hid (show setN ns past p.depth.toNat o = (if (deepN ns p.depth.toNat (tipN ns)).id = o then ns else keptN ns (deepN ns p.depth.toNat (tipN ns))) from rfl)
  have HP := Go.Proofs.Ytpaakikgfojplab.hid (show setP ns past p.depth.toNat o = (if (deepN ns p.depth.toNat (tipN ns)).id = o then past else past ++ [o]) from rfl)
  generalize setN ns past p.depth.toNat o = NS at *
  generalize setP ns past p.depth.toNat o = PS at *
  go_enter Try.func79, Try.ntmps79
  go_wp2_with fail
  refine (deepest_is x gk ck pv p acc ns past w hr (by omega) hl1 (by omega) hd1 hd2).mono ?_
  rintro r w1 ⟨rfl, hb1⟩
  have hr1 := hr.keep hb1
  unfold ndV
  generalize deepN ns p.depth.toNat (tipN ns) = D at *
  go_upto_region 1 with (refine wpList_store_row rfl 89 _ _ rfl w1.heap.size (ndA D) rfl rfl 89 (ndA zeroN) (heap_alloc_new w1 _) (info_nodeA _) rfl (nd_one _) ?_)
  generalize hW : (w1.alloc (.cells #[.int .i64 0, .int .i64 0, .int .i64 0, .int .i64 0, .int .i64 0, .int .i64 0, .int .i64 0, .int .i64 0, .int .i64 0, .int .i64 0, .int .i64 0, .int .i64 0, .int .i64 0, .int .i64 0, .int .i64 0, .int .i64 0, .int .i64 0, .int .i64 0, .int .i64 0, .int .i64 0, .int .i64 0, .int .i64 0, .int .i64 0, .int .i64 0, .int .i64 0, .int .i64 0, .int .i64 0, .int .i64 0, .int .i64 0, .int .i64 0, .int .i64 0, .int .i64 0, .int .i64 0, .int .i64 0, .int .i64 0, .int .i64 0, .int .i64 0] 89)).setRow w1.heap.size (ndA D) = W at *
  obtain ⟨hsW, hbW, hWR⟩ := row_new hW
  clear hW
  have hrW := hr1.keep hbW
  have hs1 := hb1.size
  have HBW := Go.Proofs.Ytpaakikgfojplab.hid (hb1.trans (hbW.mono (by omega)))
  generalize w1.heap.size = B at *
  have c8 := cell_of_cells (j := 8) hrW.blk rfl
  have c9 := cell_of_cells (j := 9) hrW.blk rfl
  have ch : W.cell? ⟨gk, 0, none⟩ = some (.int .i64 (o : Int)) := by
    have := hrW.node (i := 0) (by omega) 0 (.int .i64 (ns.getD 0 zeroN).id) rfl
    rw [ho] at this
    simpa using this
  have cd : W.cell? ⟨B, 0, none⟩ = some (.int .i64 D.id) := cell_of_cells (j := 0) hWR rfl
  have il : (0 : Int) < ((ns.length : Nat) : Int) := by omega
  have HR := Go.Proofs.Ytpaakikgfojplab.hid hr
  have HRW := Go.Proofs.Ytpaakikgfojplab.hid hrW
  have hfi := tfinal_is x gk ck pv p acc ns past W hrW hl1 (by omega)
  rw [ho] at hfi
  clear hr hr1 hb1 hbW hrW
  go_wp2_with fail
  refine hfi.mono ?_
  rintro e w2 ⟨rfl, rfl⟩
  clear hfi
  by_cases hq : D.id = (o : Int)
  · have hns := HN.out.trans (if_pos hq)
    have hps := HP.out.trans (if_pos hq)
    have hqb : (D.id == (o : Int)) = true := by simp [hq]
    clear HN HP hWR
    subst hns; subst hps
    have HQ := Go.Proofs.Ytpaakikgfojplab.hid hq
    clear hq
    go_wp2
    (try simp only [Exit.inBlock, Exit.then])
    refine bodyPost_ret (results_none rfl _ _ _) rfl ?_
    exact ⟨rfl, Chd.of_below HR.out HBW.out⟩
  · have hns := HN.out.trans (if_neg hq)
    have hps := HP.out.trans (if_neg hq)
    have hqb : (D.id == (o : Int)) = false := by simp [hq]
    clear HN HP
    subst hns; subst hps
    clear hq
    have hown1 := HRW.out.pst
    have f9 := free_of_cells (j := 9) HRW.out.blk
    have hne := HRW.out.ne
    have hlW := HRW.out.lts
    have hxW := hlW.1
    have HWR := Go.Proofs.Ytpaakikgfojplab.hid hWR
    have hBW := lt_of_block hWR
    clear hWR
    subst hpv
    go_wp2_with (at_builtin; refine wpList_append_lies _ rfl (.tmp 16) (.tmp 18) 22 rfl 0 3 i0 (.int .i64 0) 1 8 Try.underlying22 hi0 hz0 hz1 hz2 rfl (by omega) _ past.length (dcells past) rfl (hown1.alloc _) ⟨W.heap.size, 0, none⟩ 1 1 [.int .i64 (o : Int)] rfl rfl (cell_one_new _ _ _) (one_int _) (by omega) (by unfold maxLen; omega) (by omega) (by omega) (W.heap.size + 1) (by simp) ?_)
    intro g7 cap7 w7 hown7 hgrow7 hat7 hlt7
    have k9 := (hgrow7.cell_far ⟨x, 9, none⟩ (by simp; omega) (fun e => (hne.2 x e.symm).1 rfl)).trans ((World.cell?_alloc_past _ _ _ hxW).trans c9)
    have kf := (hgrow7.frozen_far ⟨x, 9, none⟩ (by simp; omega) (fun e => (hne.2 x e.symm).1 rfl)).trans ((World.frozen?_alloc_past _ _ _ hxW).trans f9)
    have hmk := put_past HRW.out _ hgrow7 hown7 hat7
    have HMK := Go.Proofs.Ytpaakikgfojplab.hid hmk
    have hB7 : w7.heap[B]? = some (.cells (ndA D) 89 (0, 0)) := by
      rw [hgrow7.block B (by simp; omega) (fun e => by
        obtain ⟨cur, hc⟩ := row_type HRW.out.pst e.symm
        exact (block_ne HWR.out hc (by decide)) rfl)]
      exact (Below.heap_alloc _ _ _ hBW).trans HWR.out
    have HB7 := Go.Proofs.Ytpaakikgfojplab.hid hB7
    have hxB : x ≠ B := block_ne HRW.out.blk HWR.out (by decide)
    have HB8 : Hid ((w7.setCell ⟨x, 9, none⟩ (.slice (some ⟨g7, 0, none⟩) (past.length + 1) cap7)).heap[B]? = some (.cells (ndA D) 89 (0, 0))) := (Below.heap_setCell _ _ _ _ (Ne.symm hxB)).trans hB7
    clear hmk hown7 hgrow7 hat7 hown1 c9 f9 c8 ch cd hB7 HB7
    go_upto_region 4 with fail
    generalize w7.setCell ⟨x, 9, none⟩ (.slice (some ⟨g7, 0, none⟩) (past.length + 1) cap7) = W8 at *
    obtain ⟨⟨hF8, hp8⟩, hC8⟩ := HMK.out
    have hBR := HB8.out
    have HF8 := Go.Proofs.Ytpaakikgfojplab.hid hF8
    have HP8 := Go.Proofs.Ytpaakikgfojplab.hid hp8
    clear HMK HB8 HWR k9 kf hF8 hp8
    go_wp2_with (refine wpList_load_row rfl 89 _ rfl B rfl 89 (ndA D) (0, 0) _ hBR Try.underlying89 rfl (info_nodeA _) ?_)
    refine (keptWith_is x gk ck _ p acc ns (past ++ [o]) D W8 hC8 hl).mono ?_
    rintro e w9 ⟨g, cap, rfl, hown9, hb9⟩
    have hr9 := hC8.keep hb9
    have hs9 := hb9.size
    have hpk := put_kept hr9 hown9
    obtain ⟨cur, _, hg8⟩ := row_block hown9
    have HFIN := Go.Proofs.Ytpaakikgfojplab.hid (show Chd w (w9.setCell ⟨x, 8, none⟩ (.slice (some ⟨g, 0, none⟩) (keptN ns D).length cap)) x gk (.slice ao past.length pcap) ps p acc (keptN ns D) (past ++ [o]) from
      Chd.trans ((Fr.of_below HBW.out _ (fun k h1 h2 => by omega)).trans' HF8.out (by intro i _ h; exact h)) (Or.inl rfl) (fun k e => by
        rcases HP8.out k e with h | h
        · exact Or.inl h
        · exact Or.inr (by have := HBW.out.size; omega))
      ⟨g, cap, _, hpk, (Fr.of_below hb9 _ (fun k h1 h2 => by omega)).setCell (Or.inl (Or.inl rfl)) _, Or.inr hg8, fun k e => Or.inl e⟩)
    have c8 := cell_of_cells (j := 8) hr9.blk rfl
    have f8 := free_of_cells (j := 8) hr9.blk
    clear hpk hown9 hb9 hr9 hC8 hBR HF8 HP8
    generalize hKN : keptN ns D = KN at *
    go_wp2
    go_end0
    exact ⟨rfl, by rw [hKN]; exact HFIN.out⟩

end Go.Proofs.Ytpaakikgfojplab

/-
  Loads of whole pages and nodes in regions that draw: under one name each.
-/
namespace Go.Proofs.Ytpaakikgfojplab
open Go.RowKit Num Bk
set_option linter.unusedVariables false

def rdP (w : World) (b o n : Nat) : Array Value := ((List.range n).map fun j => (w.cell? ⟨b, o + j, none⟩).getD undef).toArray
def okP (w : World) (b o n : Nat) : Bool := (List.range n).all fun j => (w.cell? ⟨b, o + j, none⟩).isSome

theorem range_rd {w : World} {b o n : Nat} (h : okP w b o n = true) : w.rangeAt b o (rdP w b o n).toList := by
  intro j v hv
  unfold okP at h
  rw [List.all_eq_true] at h
  unfold rdP at hv
  have hj : j < n := by have := (List.getElem?_eq_some_iff.1 hv).1; simpa using this
  have := h j (by simpa using hj)
  simp [hj] at hv
  rw [← hv]
  cases hc : w.cell? ⟨b, o + j, none⟩ with
  | none => rw [hc] at this; simp at this
  | some u => rfl
theorem rd_size (w : World) (b o n : Nat) : (rdP w b o n).size = n := by simp [rdP]

def loadPg (v : Value) : Sem Value := Instr.loadAt 87 v
def loadNd (v : Value) : Sem Value := Instr.loadAt 89 v
theorem loadPg_eq (v : Value) : Instr.loadAt 87 v = loadPg v := rfl
theorem loadNd_eq (v : Value) : Instr.loadAt 89 v = loadNd v := rfl

theorem run_loadPg (w : World) (b o : Nat) (h : okP w b o 27 = true) : (loadPg (.pointer (some ⟨b, o, none⟩))).run Try.prog w = .ok (.agg (rdP w b o 27)) w := by
  have := run_loadAt_mid (P := Try.prog) w b o 87 (rdP w b o 27).toList _ (range_rd h) Try.underlying87 rfl (by
    rw [Array.length_toList, rd_size]; kernel_rfl)
  simpa [loadPg] using this
theorem run_loadNd (w : World) (b o : Nat) (h : okP w b o 37 = true) : (loadNd (.pointer (some ⟨b, o, none⟩))).run Try.prog w = .ok (.agg (rdP w b o 37)) w := by
  have := run_loadAt_mid (P := Try.prog) w b o 89 (rdP w b o 37).toList _ (range_rd h) Try.underlying89 rfl (by
    rw [Array.length_toList, rd_size]; kernel_rfl)
  simpa [loadNd] using this

/-- A part of a block that is known whole. -/
theorem part_in {w : World} {B o n : Nat} {t : TypeId} {cs ps : Array Value} (h : w.heap[B]? = some (.cells cs t (0, 0))) (hp : ps.size = n) (hc : ∀ j, j < n → cs[o + j]? = ps[j]?) : okP w B o n = true ∧ rdP w B o n = ps := by
  have hcell : ∀ j (hj : j < n), w.cell? ⟨B, o + j, none⟩ = some (ps[j]'(by omega)) := fun j hj => cell_of_cells h (by rw [hc j hj, Array.getElem?_eq_getElem])
  constructor
  · unfold okP
    rw [List.all_eq_true]
    intro j hj
    rw [hcell j (by simpa using hj)]; rfl
  · unfold rdP
    apply Array.ext
    · simp [hp]
    · intro i h1 h2
      have hi : i < n := by simpa using h1
      simp [hcell i hi]
theorem page_in {w : World} {B : Nat} {n : Nd} (h : w.heap[B]? = some (.cells (ndA n) 89 (0, 0))) : okP w B 10 27 = true ∧ rdP w B 10 27 = pgA n.pg := by
  refine part_in h rfl ?_
  intro j _
  show (ndC n).toArray[10 + j]? = _
  rw [List.getElem?_toArray]
  unfold ndC
  rw [List.getElem?_append_right (by simp)]
  simp
theorem page_at {w : World} {B : Nat} {g : Pg} (h : w.heap[B]? = some (.cells (pgA g) 87 (0, 0))) : okP w B 0 27 = true ∧ rdP w B 0 27 = pgA g :=
  part_in h rfl (fun j _ => by rw [Nat.zero_add])
theorem node_at {w : World} {B : Nat} {n : Nd} (h : w.heap[B]? = some (.cells (ndA n) 89 (0, 0))) : okP w B 0 37 = true ∧ rdP w B 0 37 = ndA n :=
  part_in h rfl (fun j _ => by rw [Nat.zero_add])

theorem part_keep {w w' : World} {B o n C : Nat} (hb : Below C w w') (hB : B < C) : okP w' B o n = okP w B o n ∧ rdP w' B o n = rdP w B o n := by
  have hc : ∀ j, w'.cell? ⟨B, o + j, none⟩ = w.cell? ⟨B, o + j, none⟩ := fun j => hb.cell (p := ⟨B, o + j, none⟩) hB
  unfold okP rdP
  simp only [hc]
  exact ⟨trivial, trivial⟩

end Go.Proofs.Ytpaakikgfojplab

