import Derived.Test.YtpaakikgfojplaaGreatCM29
/-
  THE WALKS of the program's tree: settle.
-/
namespace Go.Proofs.YtpaakikgfojplaaGreat
open Go.RowKit Num Bk
set_option linter.unusedVariables false

theorem row_type {w : World} {base n e size k : Nat} {v : Value} {xs : List Value} (h : w.ownsRow base e size v n xs) (hv : v.ownBlock = some k) : ∃ cur, w.heap[k]? = some (.cells cur e (0, 0)) := by
  rcases h.2 with ⟨rfl, _⟩ | ⟨g, cap, cur, rfl, hb, hg, _⟩
  · simp [Value.ownBlock] at hv
  · simp [Value.ownBlock] at hv
    subst hv
    exact ⟨cur, hg⟩

theorem ChAt.ne {w : World} {x gk ck : Nat} {pv : Value} {ps : List Nat} {p : Par} {acc : Int} {ns : List Nd} {past : List Nat} (h : ChAt w x gk ck pv ps p acc ns past) : x ≠ gk ∧ (∀ k, pv.ownBlock = some k → x ≠ k ∧ gk ≠ k) := by
  obtain ⟨c2, h2, _⟩ := row_block h.kep
  refine ⟨block_ne h.blk h2 (by decide), fun k hk => ?_⟩
  obtain ⟨c3, h3⟩ := row_type h.pst hk
  exact ⟨block_ne h.blk h3 (by decide), block_ne h2 h3 (by decide)⟩

/-- What a call that turns the chain leaves. -/
def Chd (w w' : World) (x gk : Nat) (pv : Value) (ps : List Nat) (p : Par) (acc : Int) (ns : List Nd) (past : List Nat) : Prop :=
  ∃ gk' ck' pv', ChAt w' x gk' ck' pv' ps p acc ns past ∧ Fr (fun k => k = x ∨ k = gk ∨ pv.ownBlock = some k) w w' ∧ (gk' = gk ∨ w.heap.size ≤ gk') ∧ (∀ k, pv'.ownBlock = some k → pv.ownBlock = some k ∨ w.heap.size ≤ k)

theorem put_past {W w7 : World} {x gk ck g7 cap7 n : Nat} {pv : Value} {ps : List Nat} {p : Par} {acc : Int} {ns : List Nd} {past : List Nat} (h : ChAt W x gk ck pv ps p acc ns past) (o : Obj) (hgrow : (W.alloc o).grownBy w7 pv.ownBlock)
    (hown : w7.ownsRow 0 3 1 (.slice (some ⟨g7, 0, none⟩) (past.length + 1) cap7) (past.length + 1) (dcells past ++ [.int .i64 (n : Int)])) (hat : pv.ownBlock = some g7 ∨ g7 = W.heap.size + 1) :
    (Fr (fun k => k = x ∨ k = gk ∨ pv.ownBlock = some k) W (w7.setCell ⟨x, 9, none⟩ (.slice (some ⟨g7, 0, none⟩) (past.length + 1) cap7)) ∧ ∀ k, (Value.slice (some ⟨g7, 0, none⟩) (past.length + 1) cap7).ownBlock = some k → pv.ownBlock = some k ∨ W.heap.size ≤ k) ∧ ChAt (w7.setCell ⟨x, 9, none⟩ (.slice (some ⟨g7, 0, none⟩) (past.length + 1) cap7)) x gk ck (.slice (some ⟨g7, 0, none⟩) (past.length + 1) cap7) ps p acc ns (past ++ [n]) := by
  obtain ⟨hn1, hn2⟩ := h.ne
  obtain ⟨l1, l2, l3⟩ := h.lts
  have hF7 : Fr (fun b => pv.ownBlock = some b) W w7 := ((Fr.refl _ W).alloc o).grown hgrow (by intro k e; exact Or.inl e)
  have hb7 : w7.heap[x]? = W.heap[x]? := hF7.block x l1 (fun e => (hn2 x e).1 rfl)
  have hxg : x ≠ g7 := by rcases hat with h' | h'; exact (hn2 g7 h').1; omega
  have hC : ChAt (w7.setCell ⟨x, 9, none⟩ (.slice (some ⟨g7, 0, none⟩) (past.length + 1) cap7)) x gk ck (.slice (some ⟨g7, 0, none⟩) (past.length + 1) cap7) ps p acc ns (past ++ [n]) := by
    refine ⟨?_, ?_, ?_⟩
    · rw [heap_setCell_same w7 x 9 _ 66 _ (hb7.trans h.blk)]
      simp
    · exact ownsRow_setCell_other (row_fr h.kep hF7 (by intro g e; simp [Value.ownBlock] at e; subst e; exact fun e => (hn2 _ e).2 rfl)) (by simpa [Value.ownBlock] using Ne.symm hn1) _
    · have := ownsRow_setCell_other hown (a := ⟨x, 9, none⟩) (by simpa [Value.ownBlock] using Ne.symm hxg) (.slice (some ⟨g7, 0, none⟩) (past.length + 1) cap7)
      rw [dcells_append, List.length_append]
      exact this
  refine ⟨⟨(hF7.mono (by intro k _ h; exact Or.inr (Or.inr h))).setCell (Or.inl (Or.inl rfl)) _, ?_⟩, hC⟩
  intro k e
  simp [Value.ownBlock] at e
  subst e
  rcases hat with h' | h'
  · exact Or.inl h'
  · exact Or.inr (by omega)

theorem put_kept {W : World} {x gk ck g c B : Nat} {pv : Value} {ps : List Nat} {p : Par} {acc : Int} {ns os : List Nd} {past : List Nat} (h : ChAt W x gk ck pv ps p acc ns past) (hown : W.ownsRow B 95 37 (.slice (some ⟨g, 0, none⟩) os.length c) os.length (nsC os)) :
    ChAt (W.setCell ⟨x, 8, none⟩ (.slice (some ⟨g, 0, none⟩) os.length c)) x g c pv ps p acc os past := by
  obtain ⟨hn1, hn2⟩ := h.ne
  obtain ⟨cur, hgb, _⟩ := row_block hown
  have hxg : x ≠ g := block_ne h.blk hgb (by decide)
  refine ⟨?_, ?_, ?_⟩
  · rw [heap_setCell_same W x 8 _ 66 _ h.blk]
    simp
  · exact ownsRow_setCell_other (row_weak hown (Nat.zero_le _)) (by simpa [Value.ownBlock] using Ne.symm hxg) _
  · exact ownsRow_setCell_other h.pst (fun e => (hn2 x (by simpa using e)).1 rfl) _

theorem Chd.of_below {w w' : World} {x gk ck : Nat} {pv : Value} {ps : List Nat} {p : Par} {acc : Int} {ns : List Nd} {past : List Nat} (h : ChAt w x gk ck pv ps p acc ns past) (hb : Below w.heap.size w w') : Chd w w' x gk pv ps p acc ns past :=
  ⟨gk, ck, pv, h.keep hb, Fr.of_below hb _ (fun k h1 h2 => by omega), Or.inl rfl, fun k e => Or.inl e⟩

/-- Two steps. -/
theorem Chd.trans {w w1 w2 : World} {x gk gk1 : Nat} {pv pv1 : Value} {ps : List Nat} {p : Par} {acc : Int} {ns : List Nd} {past : List Nat}
    (hF : Fr (fun k => k = x ∨ k = gk ∨ pv.ownBlock = some k) w w1) (hg : gk1 = gk ∨ w.heap.size ≤ gk1) (hp : ∀ k, pv1.ownBlock = some k → pv.ownBlock = some k ∨ w.heap.size ≤ k) (h2 : Chd w1 w2 x gk1 pv1 ps p acc ns past) : Chd w w2 x gk pv ps p acc ns past := by
  obtain ⟨gk2, ck2, pv2, hC, hF2, hg2, hp2⟩ := h2
  have hs := hF.size
  refine ⟨gk2, ck2, pv2, hC, hF.trans' hF2 ?_, ?_, ?_⟩
  · rintro i hi (h | h | h)
    · exact Or.inl h
    · rcases hg with hg | hg
      · exact Or.inr (Or.inl (by omega))
      · omega
    · rcases hp i h with h' | h'
      · exact Or.inr (Or.inr h')
      · omega
  · rcases hg2 with h | h
    · rcases hg with hg | hg
      · exact Or.inl (h.trans hg)
      · exact Or.inr (by omega)
    · exact Or.inr (by omega)
  · intro k e
    rcases hp2 k e with h | h
    · exact hp k h
    · exact Or.inr (by omega)

def setN (ns : List Nd) (past : List Nat) (d : Nat) (o : Nat) : List Nd := if (deepN ns d (tipN ns)).id = o then ns else keptN ns (deepN ns d (tipN ns))
def setP (ns : List Nd) (past : List Nat) (d : Nat) (o : Nat) : List Nat := if (deepN ns d (tipN ns)).id = o then past else past ++ [o]

set_option maxHeartbeats 800000 in
theorem tfinal_is (x gk ck : Nat) (pv : Value) {ps : List Nat} (p : Par) (acc : Int) (ns : List Nd) (past : List Nat) (w : World) (hr : ChAt w x gk ck pv ps p acc ns past) (hl1 : 1 ≤ ns.length) (hl : ns.length ≤ 100) :
    Calls Tryz.prog 67 #[.pointer (some ⟨x, 5, none⟩)] w fun e w' => e = .returned (.int .i64 (ns.getD 0 zeroN).id) ∧ w = w' := by
  have c8 := cell_of_cells (j := 8) hr.blk rfl
  have ch : w.cell? ⟨gk, 0, none⟩ = some (.int .i64 (ns.getD 0 zeroN).id) := by
    have := hr.node (i := 0) (by omega) 0 (.int .i64 (ns.getD 0 zeroN).id) rfl
    simpa using this
  have il : (0 : Int) < ((ns.length : Nat) : Int) := by omega
  have ib : (((ns.length : Nat) : Int) == 0) = false := by rw [beq_eq_false_iff_ne]; omega
  clear hr
  generalize (ns.getD 0 zeroN).id = v at *
  go_enter Tryz.func67, Tryz.ntmps67
  go_wp2
  go_ret
  exact ⟨rfl, rfl⟩

set_option maxHeartbeats 3200000 in
set_option maxRecDepth 1000000 in
theorem settle_is (x gk ck : Nat) (pv : Value) {ps : List Nat} (p : Par) (acc : Int) (ns : List Nd) (past : List Nat) (o : Nat) (w : World) (hr : ChAt w x gk ck pv ps p acc ns past) (hl : ns.length ≤ 90) (hl1 : 1 ≤ ns.length) (hl2 : past.length ≤ 100000) (hd1 : 1 ≤ p.depth) (hd2 : p.depth ≤ 8) (ho : (ns.getD 0 zeroN).id = (o : Int)) :
    Calls Tryz.prog 92 #[.pointer (some ⟨x, 5, none⟩)] w fun e w' => e = .returned (.tuple #[]) ∧ Chd w w' x gk pv ps p acc (setN ns past p.depth.toNat o) (setP ns past p.depth.toNat o) := by
  obtain ⟨i0, hi0, hz0, hz1, hz2⟩ := info_parts Tryz.info3
  obtain ⟨ao, pcap, hpv, hpo⟩ := own_any hr.pst
  have HN := Go.Proofs.YtpaakikgfojplaaGreat.hid (show setN ns past p.depth.toNat o = (if (deepN ns p.depth.toNat (tipN ns)).id = o then ns else keptN ns (deepN ns p.depth.toNat (tipN ns))) from rfl)
  have HP := Go.Proofs.YtpaakikgfojplaaGreat.hid (show setP ns past p.depth.toNat o = (if (deepN ns p.depth.toNat (tipN ns)).id = o then past else past ++ [o]) from rfl)
  generalize setN ns past p.depth.toNat o = NS at *
  generalize setP ns past p.depth.toNat o = PS at *
  go_enter Tryz.func92, Tryz.ntmps92
  go_wp2_with fail
  refine (deepest_is x gk ck pv p acc ns past w hr (by omega) hl1 (by omega) hd1 hd2).mono ?_
  rintro r w1 ⟨rfl, hb1⟩
  have hr1 := hr.keep hb1
  unfold ndV
  generalize deepN ns p.depth.toNat (tipN ns) = D at *
  go_upto_region 1 with (refine wpList_store_row rfl 95 _ _ rfl w1.heap.size (ndA D) rfl rfl 95 (ndA zeroN) (heap_alloc_new w1 _) (info_nodeA _) rfl (nd_one _) ?_)
  generalize hW : (w1.alloc (.cells #[.int .i64 0, .int .i64 0, .int .i64 0, .int .i64 0, .int .i64 0, .int .i64 0, .int .i64 0, .int .i64 0, .int .i64 0, .int .i64 0, .int .i64 0, .int .i64 0, .int .i64 0, .int .i64 0, .int .i64 0, .int .i64 0, .int .i64 0, .int .i64 0, .int .i64 0, .int .i64 0, .int .i64 0, .int .i64 0, .int .i64 0, .int .i64 0, .int .i64 0, .int .i64 0, .int .i64 0, .int .i64 0, .int .i64 0, .int .i64 0, .int .i64 0, .int .i64 0, .int .i64 0, .int .i64 0, .int .i64 0, .int .i64 0, .int .i64 0] 95)).setRow w1.heap.size (ndA D) = W at *
  obtain ⟨hsW, hbW, hWR⟩ := row_new hW
  clear hW
  have hrW := hr1.keep hbW
  have hs1 := hb1.size
  have HBW := Go.Proofs.YtpaakikgfojplaaGreat.hid (hb1.trans (hbW.mono (by omega)))
  generalize w1.heap.size = B at *
  have c8 := cell_of_cells (j := 8) hrW.blk rfl
  have c9 := cell_of_cells (j := 9) hrW.blk rfl
  have ch : W.cell? ⟨gk, 0, none⟩ = some (.int .i64 (o : Int)) := by
    have := hrW.node (i := 0) (by omega) 0 (.int .i64 (ns.getD 0 zeroN).id) rfl
    rw [ho] at this
    simpa using this
  have cd : W.cell? ⟨B, 0, none⟩ = some (.int .i64 D.id) := cell_of_cells (j := 0) hWR rfl
  have il : (0 : Int) < ((ns.length : Nat) : Int) := by omega
  have HR := Go.Proofs.YtpaakikgfojplaaGreat.hid hr
  have HRW := Go.Proofs.YtpaakikgfojplaaGreat.hid hrW
  have hfi := tfinal_is x gk ck pv p acc ns past W hrW hl1 (by omega)
  rw [ho] at hfi
  clear hr hr1 hb1 hbW hrW
  go_wp2_with fail
  refine hfi.mono ?_
  rintro e w2 ⟨rfl, rfl⟩
  clear hfi
  by_cases hq : D.id = (o : Int)
  · have hns := HN.out.trans (if_pos hq)
    have hps := HP.out.trans (if_pos hq)
    have hqb : (D.id == (o : Int)) = true := by simp [hq]
    clear HN HP hWR
    subst hns; subst hps
    have HQ := Go.Proofs.YtpaakikgfojplaaGreat.hid hq
    clear hq
    go_wp2
    (try simp only [Exit.inBlock, Exit.then])
    refine bodyPost_ret (results_none rfl _ _ _) rfl ?_
    exact ⟨rfl, Chd.of_below HR.out HBW.out⟩
  · have hns := HN.out.trans (if_neg hq)
    have hps := HP.out.trans (if_neg hq)
    have hqb : (D.id == (o : Int)) = false := by simp [hq]
    clear HN HP
    subst hns; subst hps
    clear hq
    have hown1 := HRW.out.pst
    have f9 := free_of_cells (j := 9) HRW.out.blk
    have hne := HRW.out.ne
    have hlW := HRW.out.lts
    have hxW := hlW.1
    have HWR := Go.Proofs.YtpaakikgfojplaaGreat.hid hWR
    have hBW := lt_of_block hWR
    clear hWR
    subst hpv
    go_wp2_with (at_builtin; refine wpList_append_lies _ rfl (.tmp 16) (.tmp 18) 22 rfl 0 3 i0 (.int .i64 0) 1 8 Tryz.underlying22 hi0 hz0 hz1 hz2 rfl (by omega) _ past.length (dcells past) rfl (hown1.alloc _) ⟨W.heap.size, 0, none⟩ 1 1 [.int .i64 (o : Int)] rfl rfl (cell_one_new _ _ _) (one_int _) (by omega) (by unfold maxLen; omega) (by omega) (by omega) (W.heap.size + 1) (by simp) ?_)
    intro g7 cap7 w7 hown7 hgrow7 hat7 hlt7
    have k9 := (hgrow7.cell_far ⟨x, 9, none⟩ (by simp; omega) (fun e => (hne.2 x e.symm).1 rfl)).trans ((World.cell?_alloc_past _ _ _ hxW).trans c9)
    have kf := (hgrow7.frozen_far ⟨x, 9, none⟩ (by simp; omega) (fun e => (hne.2 x e.symm).1 rfl)).trans ((World.frozen?_alloc_past _ _ _ hxW).trans f9)
    have hmk := put_past HRW.out _ hgrow7 hown7 hat7
    have HMK := Go.Proofs.YtpaakikgfojplaaGreat.hid hmk
    have hB7 : w7.heap[B]? = some (.cells (ndA D) 95 (0, 0)) := by
      rw [hgrow7.block B (by simp; omega) (fun e => by
        obtain ⟨cur, hc⟩ := row_type HRW.out.pst e.symm
        exact (block_ne HWR.out hc (by decide)) rfl)]
      exact (Below.heap_alloc _ _ _ hBW).trans HWR.out
    have HB7 := Go.Proofs.YtpaakikgfojplaaGreat.hid hB7
    have hxB : x ≠ B := block_ne HRW.out.blk HWR.out (by decide)
    have HB8 : Hid ((w7.setCell ⟨x, 9, none⟩ (.slice (some ⟨g7, 0, none⟩) (past.length + 1) cap7)).heap[B]? = some (.cells (ndA D) 95 (0, 0))) := (Below.heap_setCell _ _ _ _ (Ne.symm hxB)).trans hB7
    clear hmk hown7 hgrow7 hat7 hown1 c9 f9 c8 ch cd hB7 HB7
    go_upto_region 4 with fail
    generalize w7.setCell ⟨x, 9, none⟩ (.slice (some ⟨g7, 0, none⟩) (past.length + 1) cap7) = W8 at *
    obtain ⟨⟨hF8, hp8⟩, hC8⟩ := HMK.out
    have hBR := HB8.out
    have HF8 := Go.Proofs.YtpaakikgfojplaaGreat.hid hF8
    have HP8 := Go.Proofs.YtpaakikgfojplaaGreat.hid hp8
    clear HMK HB8 HWR k9 kf hF8 hp8
    go_wp2_with (refine wpList_load_row rfl 95 _ rfl B rfl 95 (ndA D) (0, 0) _ hBR Tryz.underlying95 rfl (info_nodeA _) ?_)
    refine (keptWith_is x gk ck _ p acc ns (past ++ [o]) D W8 hC8 hl).mono ?_
    rintro e w9 ⟨g, cap, rfl, hown9, hb9⟩
    have hr9 := hC8.keep hb9
    have hs9 := hb9.size
    have hpk := put_kept hr9 hown9
    obtain ⟨cur, _, hg8⟩ := row_block hown9
    have HFIN := Go.Proofs.YtpaakikgfojplaaGreat.hid (show Chd w (w9.setCell ⟨x, 8, none⟩ (.slice (some ⟨g, 0, none⟩) (keptN ns D).length cap)) x gk (.slice ao past.length pcap) ps p acc (keptN ns D) (past ++ [o]) from
      Chd.trans ((Fr.of_below HBW.out _ (fun k h1 h2 => by omega)).trans' HF8.out (by intro i _ h; exact h)) (Or.inl rfl) (fun k e => by
        rcases HP8.out k e with h | h
        · exact Or.inl h
        · exact Or.inr (by have := HBW.out.size; omega))
      ⟨g, cap, _, hpk, (Fr.of_below hb9 _ (fun k h1 h2 => by omega)).setCell (Or.inl (Or.inl rfl)) _, Or.inr hg8, fun k e => Or.inl e⟩)
    have c8 := cell_of_cells (j := 8) hr9.blk rfl
    have f8 := free_of_cells (j := 8) hr9.blk
    clear hpk hown9 hb9 hr9 hC8 hBR HF8 HP8
    generalize hKN : keptN ns D = KN at *
    go_wp2
    go_end0
    exact ⟨rfl, by rw [hKN]; exact HFIN.out⟩

end Go.Proofs.YtpaakikgfojplaaGreat

