import Derived.Test.YtpaakikgfojplaaGreatCM22
import Derived.Test.YtpaakikgfojplaaGreatCM12
/-
  THE WALKS of the program's tree: settle.
-/
namespace Go.Proofs.YtpaakikgfojplaaGreat
open Go.RowKit Num Bk
set_option linter.unusedVariables false

theorem row_type {w : World} {base n e size k : Nat} {v : Value} {xs : List Value} (h : w.ownsRow base e size v n xs) (hv : v.ownBlock = some k) : ∃ cur, w.heap[k]? = some (.cells cur e (0, 0)) := by
  rcases h.2 with ⟨rfl, _⟩ | ⟨g, cap, cur, rfl, hb, hg, _⟩
  · simp [Value.ownBlock] at hv
  · simp [Value.ownBlock] at hv
    subst hv
    exact ⟨cur, hg⟩

theorem ChAt.ne {w : World} {x gk ck : Nat} {pv : Value} {ps : List Nat} {p : Par} {acc : Int} {ns : List Nd} {past : List Nat} (h : ChAt w x gk ck pv ps p acc ns past) : x ≠ gk ∧ (∀ k, pv.ownBlock = some k → x ≠ k ∧ gk ≠ k) := by
  obtain ⟨c2, h2, _⟩ := row_block h.kep
  refine ⟨block_ne h.blk h2 (by decide), fun k hk => ?_⟩
  obtain ⟨c3, h3⟩ := row_type h.pst hk
  exact ⟨block_ne h.blk h3 (by decide), block_ne h2 h3 (by decide)⟩

/-- What a call that turns the chain leaves. -/
def Chd (w w' : World) (x gk : Nat) (pv : Value) (ps : List Nat) (p : Par) (acc : Int) (ns : List Nd) (past : List Nat) : Prop :=
  ∃ gk' ck' pv', ChAt w' x gk' ck' pv' ps p acc ns past ∧ Fr (fun k => k = x ∨ k = gk ∨ pv.ownBlock = some k) w w' ∧ (gk' = gk ∨ w.heap.size ≤ gk') ∧ (∀ k, pv'.ownBlock = some k → pv.ownBlock = some k ∨ w.heap.size ≤ k)

theorem put_past {W w7 : World} {x gk ck g7 cap7 n : Nat} {pv : Value} {ps : List Nat} {p : Par} {acc : Int} {ns : List Nd} {past : List Nat} (h : ChAt W x gk ck pv ps p acc ns past) (o : Obj) (hgrow : (W.alloc o).grownBy w7 pv.ownBlock)
    (hown : w7.ownsRow 0 3 1 (.slice (some ⟨g7, 0, none⟩) (past.length + 1) cap7) (past.length + 1) (dcells past ++ [.int .i64 (n : Int)])) (hat : pv.ownBlock = some g7 ∨ g7 = W.heap.size + 1) :
    (Fr (fun k => k = x ∨ k = gk ∨ pv.ownBlock = some k) W (w7.setCell ⟨x, 9, none⟩ (.slice (some ⟨g7, 0, none⟩) (past.length + 1) cap7)) ∧ ∀ k, (Value.slice (some ⟨g7, 0, none⟩) (past.length + 1) cap7).ownBlock = some k → pv.ownBlock = some k ∨ W.heap.size ≤ k) ∧ ChAt (w7.setCell ⟨x, 9, none⟩ (.slice (some ⟨g7, 0, none⟩) (past.length + 1) cap7)) x gk ck (.slice (some ⟨g7, 0, none⟩) (past.length + 1) cap7) ps p acc ns (past ++ [n]) := by
  obtain ⟨hn1, hn2⟩ := h.ne
  obtain ⟨l1, l2, l3⟩ := h.lts
  have hF7 : Fr (fun b => pv.ownBlock = some b) W w7 := ((Fr.refl _ W).alloc o).grown hgrow (by intro k e; exact Or.inl e)
  have hb7 : w7.heap[x]? = W.heap[x]? := hF7.block x l1 (fun e => (hn2 x e).1 rfl)
  have hxg : x ≠ g7 := by rcases hat with h' | h'; exact (hn2 g7 h').1; omega
  have hC : ChAt (w7.setCell ⟨x, 9, none⟩ (.slice (some ⟨g7, 0, none⟩) (past.length + 1) cap7)) x gk ck (.slice (some ⟨g7, 0, none⟩) (past.length + 1) cap7) ps p acc ns (past ++ [n]) := by
    refine ⟨?_, ?_, ?_⟩
    · rw [heap_setCell_same w7 x 9 _ 66 _ (hb7.trans h.blk)]
      simp
    · exact ownsRow_setCell_other (row_fr h.kep hF7 (by intro g e; simp [Value.ownBlock] at e; subst e; exact fun e => (hn2 _ e).2 rfl)) (by simpa [Value.ownBlock] using Ne.symm hn1) _
    · have := ownsRow_setCell_other hown (a := ⟨x, 9, none⟩) (by simpa [Value.ownBlock] using Ne.symm hxg) (.slice (some ⟨g7, 0, none⟩) (past.length + 1) cap7)
      rw [dcells_append, List.length_append]
      exact this
  refine ⟨⟨(hF7.mono (by intro k _ h; exact Or.inr (Or.inr h))).setCell (Or.inl (Or.inl rfl)) _, ?_⟩, hC⟩
  intro k e
  simp [Value.ownBlock] at e
  subst e
  rcases hat with h' | h'
  · exact Or.inl h'
  · exact Or.inr (by omega)

theorem put_kept {W : World} {x gk ck g c B : Nat} {pv : Value} {ps : List Nat} {p : Par} {acc : Int} {ns os : List Nd} {past : List Nat} (h : ChAt W x gk ck pv ps p acc ns past) (hown : W.ownsRow B 95 37 (.slice (some ⟨g, 0, none⟩) os.length c) os.length (nsC os)) :
    ChAt (W.setCell ⟨x, 8, none⟩ (.slice (some ⟨g, 0, none⟩) os.length c)) x g c pv ps p acc os past := by
  obtain ⟨hn1, hn2⟩ := h.ne
  obtain ⟨cur, hgb, _⟩ := row_block hown
  have hxg : x ≠ g := block_ne h.blk hgb (by decide)
  refine ⟨?_, ?_, ?_⟩
  · rw [heap_setCell_same W x 8 _ 66 _ h.blk]
    simp
  · exact ownsRow_setCell_other (row_weak hown (Nat.zero_le _)) (by simpa [Value.ownBlock] using Ne.symm hxg) _
  · exact ownsRow_setCell_other h.pst (fun e => (hn2 x (by simpa using e)).1 rfl) _

theorem Chd.of_below {w w' : World} {x gk ck : Nat} {pv : Value} {ps : List Nat} {p : Par} {acc : Int} {ns : List Nd} {past : List Nat} (h : ChAt w x gk ck pv ps p acc ns past) (hb : Below w.heap.size w w') : Chd w w' x gk pv ps p acc ns past :=
  ⟨gk, ck, pv, h.keep hb, Fr.of_below hb _ (fun k h1 h2 => by omega), Or.inl rfl, fun k e => Or.inl e⟩

/-- Two steps. -/
theorem Chd.trans {w w1 w2 : World} {x gk gk1 : Nat} {pv pv1 : Value} {ps : List Nat} {p : Par} {acc : Int} {ns : List Nd} {past : List Nat}
    (hF : Fr (fun k => k = x ∨ k = gk ∨ pv.ownBlock = some k) w w1) (hg : gk1 = gk ∨ w.heap.size ≤ gk1) (hp : ∀ k, pv1.ownBlock = some k → pv.ownBlock = some k ∨ w.heap.size ≤ k) (h2 : Chd w1 w2 x gk1 pv1 ps p acc ns past) : Chd w w2 x gk pv ps p acc ns past := by
  obtain ⟨gk2, ck2, pv2, hC, hF2, hg2, hp2⟩ := h2
  have hs := hF.size
  refine ⟨gk2, ck2, pv2, hC, hF.trans' hF2 ?_, ?_, ?_⟩
  · rintro i hi (h | h | h)
    · exact Or.inl h
    · rcases hg with hg | hg
      · exact Or.inr (Or.inl (by omega))
      · omega
    · rcases hp i h with h' | h'
      · exact Or.inr (Or.inr h')
      · omega
  · rcases hg2 with h | h
    · rcases hg with hg | hg
      · exact Or.inl (h.trans hg)
      · exact Or.inr (by omega)
    · exact Or.inr (by omega)
  · intro k e
    rcases hp2 k e with h | h
    · exact hp k h
    · exact Or.inr (by omega)

def setN (ns : List Nd) (past : List Nat) (d : Nat) (o : Nat) : List Nd := if (deepN ns d (tipN ns)).id = o then ns else keptN ns (deepN ns d (tipN ns))
def setP (ns : List Nd) (past : List Nat) (d : Nat) (o : Nat) : List Nat := if (deepN ns d (tipN ns)).id = o then past else past ++ [o]

set_option maxHeartbeats 800000 in
theorem tfinal_is (x gk ck : Nat) (pv : Value) {ps : List Nat} (p : Par) (acc : Int) (ns : List Nd) (past : List Nat) (w : World) (hr : ChAt w x gk ck pv ps p acc ns past) (hl1 : 1 ≤ ns.length) (hl : ns.length ≤ 100) :
    Calls Tryz.prog 67 #[.pointer (some ⟨x, 5, none⟩)] w fun e w' => e = .returned (.int .i64 (ns.getD 0 zeroN).id) ∧ w = w' := by
  have c8 := cell_of_cells (j := 8) hr.blk rfl
  have ch : w.cell? ⟨gk, 0, none⟩ = some (.int .i64 (ns.getD 0 zeroN).id) := by
    have := hr.node (i := 0) (by omega) 0 (.int .i64 (ns.getD 0 zeroN).id) rfl
    simpa using this
  have il : (0 : Int) < ((ns.length : Nat) : Int) := by omega
  have ib : (((ns.length : Nat) : Int) == 0) = false := by rw [beq_eq_false_iff_ne]; omega
  clear hr
  generalize (ns.getD 0 zeroN).id = v at *
  go_enter Tryz.func67, Tryz.ntmps67
  go_wp2
  go_ret
  exact ⟨rfl, rfl⟩

set_option maxHeartbeats 3200000 in
set_option maxRecDepth 1000000 in
theorem settle_is (x gk ck : Nat) (pv : Value) {ps : List Nat} (p : Par) (acc : Int) (ns : List Nd) (past : List Nat) (o : Nat) (w : World) (hr : ChAt w x gk ck pv ps p acc ns past) (hl : ns.length ≤ 90) (hl1 : 1 ≤ ns.length) (hl2 : past.length ≤ 100000) (hd1 : 1 ≤ p.depth) (hd2 : p.depth ≤ 8) (ho : (ns.getD 0 zeroN).id = (o : Int)) :
    Calls Tryz.prog 92 #[.pointer (some ⟨x, 5, none⟩)] w fun e w' => e = .returned (.tuple #[]) ∧ Chd w w' x gk pv ps p acc (setN ns past p.depth.toNat o) (setP ns past p.depth.toNat o) := by
  obtain ⟨i0, hi0, hz0, hz1, hz2⟩ := info_parts Tryz.info3
  obtain ⟨ao, pcap, hpv, hpo⟩ := own_any hr.pst
  have HN := Go.Proofs.YtpaakikgfojplaaGreat.hid (show setN ns past p.depth.toNat o = (if (deepN ns p.depth.toNat (tipN ns)).id = o then ns else keptN ns (deepN ns p.depth.toNat (tipN ns))) from rfl)
  have HP := Go.Proofs.YtpaakikgfojplaaGreat.hid (show setP ns past p.depth.toNat o = (if (deepN ns p.depth.toNat (tipN ns)).id = o then past else past ++ [o]) from rfl)
  generalize setN ns past p.depth.toNat o = NS at *
  generalize setP ns past p.depth.toNat o = PS at *
  go_enter Tryz.func92, Tryz.ntmps92
  go_wp2_with fail
  refine (deepest_is x gk ck pv p acc ns past w hr (by omega) hl1 (by omega) hd1 hd2).mono ?_
  rintro r w1 ⟨rfl, hb1⟩
  have hr1 := hr.keep hb1
  unfold ndV
  generalize deepN ns p.depth.toNat (tipN ns) = D at *
  go_upto_region 1 with (refine wpList_store_row rfl 95 _ _ rfl w1.heap.size (ndA D) rfl rfl 95 (ndA zeroN) (heap_alloc_new w1 _) (info_nodeA _) rfl (nd_one _) ?_)
  generalize hW : (w1.alloc (.cells #[.int .i64 0, .int .i64 0, .int .i64 0, .int .i64 0, .int .i64 0, .int .i64 0, .int .i64 0, .int .i64 0, .int .i64 0, .int .i64 0, .int .i64 0, .int .i64 0, .int .i64 0, .int .i64 0, .int .i64 0, .int .i64 0, .int .i64 0, .int .i64 0, .int .i64 0, .int .i64 0, .int .i64 0, .int .i64 0, .int .i64 0, .int .i64 0, .int .i64 0, .int .i64 0, .int .i64 0, .int .i64 0, .int .i64 0, .int .i64 0, .int .i64 0, .int .i64 0, .int .i64 0, .int .i64 0, .int .i64 0, .int .i64 0, .int .i64 0] 95)).setRow w1.heap.size (ndA D) = W at *
  obtain ⟨hsW, hbW, hWR⟩ := row_new hW
  clear hW
  have hrW := hr1.keep hbW
  have hs1 := hb1.size
  have HBW := Go.Proofs.YtpaakikgfojplaaGreat.hid (hb1.trans (hbW.mono (by omega)))
  generalize w1.heap.size = B at *
  have c8 := cell_of_cells (j := 8) hrW.blk rfl
  have c9 := cell_of_cells (j := 9) hrW.blk rfl
  have ch : W.cell? ⟨gk, 0, none⟩ = some (.int .i64 (o : Int)) := by
    have := hrW.node (i := 0) (by omega) 0 (.int .i64 (ns.getD 0 zeroN).id) rfl
    rw [ho] at this
    simpa using this
  have cd : W.cell? ⟨B, 0, none⟩ = some (.int .i64 D.id) := cell_of_cells (j := 0) hWR rfl
  have il : (0 : Int) < ((ns.length : Nat) : Int) := by omega
  have HR := Go.Proofs.YtpaakikgfojplaaGreat.hid hr
  have HRW := Go.Proofs.YtpaakikgfojplaaGreat.hid hrW
  have hfi := tfinal_is x gk ck pv p acc ns past W hrW hl1 (by omega)
  rw [ho] at hfi
  clear hr hr1 hb1 hbW hrW
  go_wp2_with fail
  refine hfi.mono ?_
  rintro e w2 ⟨rfl, rfl⟩
  clear hfi
  by_cases hq : D.id = (o : Int)
  · have hns := HN.out.trans (if_pos hq)
    have hps := HP.out.trans (if_pos hq)
    have hqb : (D.id == (o : Int)) = true := by simp [hq]
    clear HN HP hWR
    subst hns; subst hps
    have HQ := Go.Proofs.YtpaakikgfojplaaGreat.hid hq
    clear hq
    go_wp2
    (try simp only [Exit.inBlock, Exit.then])
    refine bodyPost_ret (results_none rfl _ _ _) rfl ?_
    exact ⟨rfl, Chd.of_below HR.out HBW.out⟩
  · have hns := HN.out.trans (if_neg hq)
    have hps := HP.out.trans (if_neg hq)
    have hqb : (D.id == (o : Int)) = false := by simp [hq]
    clear HN HP
    subst hns; subst hps
    clear hq
    have hown1 := HRW.out.pst
    have f9 := free_of_cells (j := 9) HRW.out.blk
    have hne := HRW.out.ne
    have hlW := HRW.out.lts
    have hxW := hlW.1
    have HWR := Go.Proofs.YtpaakikgfojplaaGreat.hid hWR
    have hBW := lt_of_block hWR
    clear hWR
    subst hpv
    go_wp2_with (at_builtin; refine wpList_append_lies _ rfl (.tmp 16) (.tmp 18) 22 rfl 0 3 i0 (.int .i64 0) 1 8 Tryz.underlying22 hi0 hz0 hz1 hz2 rfl (by omega) _ past.length (dcells past) rfl (hown1.alloc _) ⟨W.heap.size, 0, none⟩ 1 1 [.int .i64 (o : Int)] rfl rfl (cell_one_new _ _ _) (one_int _) (by omega) (by unfold maxLen; omega) (by omega) (by omega) (W.heap.size + 1) (by simp) ?_)
    intro g7 cap7 w7 hown7 hgrow7 hat7 hlt7
    have k9 := (hgrow7.cell_far ⟨x, 9, none⟩ (by simp; omega) (fun e => (hne.2 x e.symm).1 rfl)).trans ((World.cell?_alloc_past _ _ _ hxW).trans c9)
    have kf := (hgrow7.frozen_far ⟨x, 9, none⟩ (by simp; omega) (fun e => (hne.2 x e.symm).1 rfl)).trans ((World.frozen?_alloc_past _ _ _ hxW).trans f9)
    have hmk := put_past HRW.out _ hgrow7 hown7 hat7
    have HMK := Go.Proofs.YtpaakikgfojplaaGreat.hid hmk
    have hB7 : w7.heap[B]? = some (.cells (ndA D) 95 (0, 0)) := by
      rw [hgrow7.block B (by simp; omega) (fun e => by
        obtain ⟨cur, hc⟩ := row_type HRW.out.pst e.symm
        exact (block_ne HWR.out hc (by decide)) rfl)]
      exact (Below.heap_alloc _ _ _ hBW).trans HWR.out
    have HB7 := Go.Proofs.YtpaakikgfojplaaGreat.hid hB7
    have hxB : x ≠ B := block_ne HRW.out.blk HWR.out (by decide)
    have HB8 : Hid ((w7.setCell ⟨x, 9, none⟩ (.slice (some ⟨g7, 0, none⟩) (past.length + 1) cap7)).heap[B]? = some (.cells (ndA D) 95 (0, 0))) := (Below.heap_setCell _ _ _ _ (Ne.symm hxB)).trans hB7
    clear hmk hown7 hgrow7 hat7 hown1 c9 f9 c8 ch cd hB7 HB7
    go_upto_region 4 with fail
    generalize w7.setCell ⟨x, 9, none⟩ (.slice (some ⟨g7, 0, none⟩) (past.length + 1) cap7) = W8 at *
    obtain ⟨⟨hF8, hp8⟩, hC8⟩ := HMK.out
    have hBR := HB8.out
    have HF8 := Go.Proofs.YtpaakikgfojplaaGreat.hid hF8
    have HP8 := Go.Proofs.YtpaakikgfojplaaGreat.hid hp8
    clear HMK HB8 HWR k9 kf hF8 hp8
    go_wp2_with (refine wpList_load_row rfl 95 _ rfl B rfl 95 (ndA D) (0, 0) _ hBR Tryz.underlying95 rfl (info_nodeA _) ?_)
    refine (keptWith_is x gk ck _ p acc ns (past ++ [o]) D W8 hC8 hl).mono ?_
    rintro e w9 ⟨g, cap, rfl, hown9, hb9⟩
    have hr9 := hC8.keep hb9
    have hs9 := hb9.size
    have hpk := put_kept hr9 hown9
    obtain ⟨cur, _, hg8⟩ := row_block hown9
    have HFIN := Go.Proofs.YtpaakikgfojplaaGreat.hid (show Chd w (w9.setCell ⟨x, 8, none⟩ (.slice (some ⟨g, 0, none⟩) (keptN ns D).length cap)) x gk (.slice ao past.length pcap) ps p acc (keptN ns D) (past ++ [o]) from
      Chd.trans ((Fr.of_below HBW.out _ (fun k h1 h2 => by omega)).trans' HF8.out (by intro i _ h; exact h)) (Or.inl rfl) (fun k e => by
        rcases HP8.out k e with h | h
        · exact Or.inl h
        · exact Or.inr (by have := HBW.out.size; omega))
      ⟨g, cap, _, hpk, (Fr.of_below hb9 _ (fun k h1 h2 => by omega)).setCell (Or.inl (Or.inl rfl)) _, Or.inr hg8, fun k e => Or.inl e⟩)
    have c8 := cell_of_cells (j := 8) hr9.blk rfl
    have f8 := free_of_cells (j := 8) hr9.blk
    clear hpk hown9 hb9 hr9 hC8 hBR HF8 HP8
    generalize hKN : keptN ns D = KN at *
    go_wp2
    go_end0
    exact ⟨rfl, by rw [hKN]; exact HFIN.out⟩

end Go.Proofs.YtpaakikgfojplaaGreat

/-
  Loads of whole pages and nodes in regions that draw: under one name each.
-/
namespace Go.Proofs.YtpaakikgfojplaaGreat
open Go.RowKit Num Bk
set_option linter.unusedVariables false

def rdP (w : World) (b o n : Nat) : Array Value := ((List.range n).map fun j => (w.cell? ⟨b, o + j, none⟩).getD undef).toArray
def okP (w : World) (b o n : Nat) : Bool := (List.range n).all fun j => (w.cell? ⟨b, o + j, none⟩).isSome

theorem range_rd {w : World} {b o n : Nat} (h : okP w b o n = true) : w.rangeAt b o (rdP w b o n).toList := by
  intro j v hv
  unfold okP at h
  rw [List.all_eq_true] at h
  unfold rdP at hv
  have hj : j < n := by have := (List.getElem?_eq_some_iff.1 hv).1; simpa using this
  have := h j (by simpa using hj)
  simp [hj] at hv
  rw [← hv]
  cases hc : w.cell? ⟨b, o + j, none⟩ with
  | none => rw [hc] at this; simp at this
  | some u => rfl
theorem rd_size (w : World) (b o n : Nat) : (rdP w b o n).size = n := by simp [rdP]

def loadPg (v : Value) : Sem Value := Instr.loadAt 56 v
def loadNd (v : Value) : Sem Value := Instr.loadAt 95 v
theorem loadPg_eq (v : Value) : Instr.loadAt 56 v = loadPg v := rfl
theorem loadNd_eq (v : Value) : Instr.loadAt 95 v = loadNd v := rfl

theorem run_loadPg (w : World) (b o : Nat) (h : okP w b o 27 = true) : (loadPg (.pointer (some ⟨b, o, none⟩))).run Tryz.prog w = .ok (.agg (rdP w b o 27)) w := by
  have := run_loadAt_mid (P := Tryz.prog) w b o 56 (rdP w b o 27).toList _ (range_rd h) Tryz.underlying56 rfl (by
    rw [Array.length_toList, rd_size]; kernel_rfl)
  simpa [loadPg] using this
theorem run_loadNd (w : World) (b o : Nat) (h : okP w b o 37 = true) : (loadNd (.pointer (some ⟨b, o, none⟩))).run Tryz.prog w = .ok (.agg (rdP w b o 37)) w := by
  have := run_loadAt_mid (P := Tryz.prog) w b o 95 (rdP w b o 37).toList _ (range_rd h) Tryz.underlying95 rfl (by
    rw [Array.length_toList, rd_size]; kernel_rfl)
  simpa [loadNd] using this

/-- A part of a block that is known whole. -/
theorem part_in {w : World} {B o n : Nat} {t : TypeId} {cs ps : Array Value} (h : w.heap[B]? = some (.cells cs t (0, 0))) (hp : ps.size = n) (hc : ∀ j, j < n → cs[o + j]? = ps[j]?) : okP w B o n = true ∧ rdP w B o n = ps := by
  have hcell : ∀ j (hj : j < n), w.cell? ⟨B, o + j, none⟩ = some (ps[j]'(by omega)) := fun j hj => cell_of_cells h (by rw [hc j hj, Array.getElem?_eq_getElem])
  constructor
  · unfold okP
    rw [List.all_eq_true]
    intro j hj
    rw [hcell j (by simpa using hj)]; rfl
  · unfold rdP
    apply Array.ext
    · simp [hp]
    · intro i h1 h2
      have hi : i < n := by simpa using h1
      simp [hcell i hi]
theorem page_in {w : World} {B : Nat} {n : Nd} (h : w.heap[B]? = some (.cells (ndA n) 95 (0, 0))) : okP w B 10 27 = true ∧ rdP w B 10 27 = pgA n.pg := by
  refine part_in h rfl ?_
  intro j _
  show (ndC n).toArray[10 + j]? = _
  rw [List.getElem?_toArray]
  unfold ndC
  rw [List.getElem?_append_right (by simp)]
  simp
theorem page_at {w : World} {B : Nat} {g : Pg} (h : w.heap[B]? = some (.cells (pgA g) 56 (0, 0))) : okP w B 0 27 = true ∧ rdP w B 0 27 = pgA g :=
  part_in h rfl (fun j _ => by rw [Nat.zero_add])
theorem node_at {w : World} {B : Nat} {n : Nd} (h : w.heap[B]? = some (.cells (ndA n) 95 (0, 0))) : okP w B 0 37 = true ∧ rdP w B 0 37 = ndA n :=
  part_in h rfl (fun j _ => by rw [Nat.zero_add])

theorem part_keep {w w' : World} {B o n C : Nat} (hb : Below C w w') (hB : B < C) : okP w' B o n = okP w B o n ∧ rdP w' B o n = rdP w B o n := by
  have hc : ∀ j, w'.cell? ⟨B, o + j, none⟩ = w.cell? ⟨B, o + j, none⟩ := fun j => hb.cell (p := ⟨B, o + j, none⟩) hB
  unfold okP rdP
  simp only [hc]
  exact ⟨trivial, trivial⟩

end Go.Proofs.YtpaakikgfojplaaGreat

/-
  THE WALKS of the program's tree: Look.
-/
namespace Go.Proofs.YtpaakikgfojplaaGreat
open Go.RowKit Num Bk
set_option linter.unusedVariables false

/-- What Look tells, by the node. -/
def bkA (h : Hdr) (q n : Int) : Array Value := #[.int .i64 h.slot, .int .i64 h.pool, .int .i64 h.proof, .int .i64 h.count, .int .i64 h.frm, .int .i64 h.dst, .int .i64 h.amount, .int .i64 q, .int .i64 n]
def lkA (o : Option Nd) : Array Value := match o with
  | none => bkA zeroH 0 0
  | some n => bkA n.hdr (if n.par = -1 then 0 else n.par) n.height
theorem info_blkA (h : Hdr) (q n : Int) : (Tryz.prog.info? 82).map (·.size) = some (bkA h q n).size := by
  show _ = some 9
  kernel_rfl
theorem bk_one (h : Hdr) (q n : Int) : (bkA h q n).all (·.oneCell') = true := all_oneCell_toArray (cs := (bkA h q n).toList) (by
  intro u hu
  simp only [bkA, List.mem_cons, List.not_mem_nil, or_false] at hu
  rcases hu with rfl | rfl | rfl | rfl | rfl | rfl | rfl | rfl | rfl <;> rfl)

set_option maxHeartbeats 3200000 in
set_option maxRecDepth 1000000 in
theorem tlook_is (x gk ck : Nat) (pv : Value) {ps : List Nat} (p : Par) (acc : Int) (ns : List Nd) (past : List Nat) (id : Int) (w : World) (hr : ChAt w x gk ck pv ps p acc ns past) (hl : ns.length ≤ 100) (hl2 : past.length ≤ 1000000) :
    Calls Tryz.prog 64 #[.pointer (some ⟨x, 5, none⟩), .int .i64 id] w fun e w' => e = .returned (.tuple #[.agg (lkA (findN ns id)), .int .i64 (findErr ns past id)]) ∧ Below w.heap.size w w' := by
  go_enter Tryz.func64, Tryz.ntmps64
  go_wp2_with fail
  generalize hA : w.alloc (.cells #[.int .i64 0, .int .i64 0, .int .i64 0, .int .i64 0, .int .i64 0, .int .i64 0, .int .i64 0, .int .i64 0, .int .i64 0] 82) = A at *
  obtain ⟨hsA, hbA, hAR⟩ := below_of hA
  clear hA
  refine (find_is x gk ck pv p acc ns past id A (hr.keep hbA) hl hl2).mono ?_
  rintro r w1 ⟨rfl, hb1⟩
  unfold ndV
  have hb1s := hb1.size
  have hR1 := (hb1.block w.heap.size (by omega)).trans hAR
  have hbw1 := hbA.trans (hb1.mono (by omega))
  clear hAR hb1 hbA hr
  generalize hFE : findErr ns past id = FE at *
  cases hf : findN ns id with
  | none =>
    have hne : FE ≠ 0 := by
      rw [← hFE, findN_none hf]; split <;> decide
    have hmb : (FE != 0) = true := by simp [hne]
    rw [show (none : Option Nd).getD zeroN = zeroN from rfl]
    go_upto_region 2 with (refine wpList_store_row rfl 95 _ _ rfl w1.heap.size (ndA zeroN) rfl rfl 95 (ndA zeroN) (heap_alloc_new w1 _) (info_nodeA _) rfl (nd_one _) ?_)
    generalize hW : (w1.alloc (.cells #[.int .i64 0, .int .i64 0, .int .i64 0, .int .i64 0, .int .i64 0, .int .i64 0, .int .i64 0, .int .i64 0, .int .i64 0, .int .i64 0, .int .i64 0, .int .i64 0, .int .i64 0, .int .i64 0, .int .i64 0, .int .i64 0, .int .i64 0, .int .i64 0, .int .i64 0, .int .i64 0, .int .i64 0, .int .i64 0, .int .i64 0, .int .i64 0, .int .i64 0, .int .i64 0, .int .i64 0, .int .i64 0, .int .i64 0, .int .i64 0, .int .i64 0, .int .i64 0, .int .i64 0, .int .i64 0, .int .i64 0, .int .i64 0, .int .i64 0] 95)).setRow w1.heap.size (ndA zeroN) = W at *
    obtain ⟨hsW, hbW, hWR⟩ := row_new hW
    clear hW
    have hRW : W.heap[w.heap.size]? = some (.cells (bkA zeroH 0 0) 82 (0, 0)) := (hbW.block _ (by omega)).trans hR1
    have HRW := Go.Proofs.YtpaakikgfojplaaGreat.hid hRW
    have HBW := Go.Proofs.YtpaakikgfojplaaGreat.hid (hbw1.trans (hbW.mono (by omega)))
    clear hWR hbW hR1 hbw1 hRW
    go_wp2_with (refine wpList_store_row rfl 82 _ _ rfl w.heap.size (bkA zeroH 0 0) rfl rfl 82 (bkA zeroH 0 0) HRW.out (info_blkA _ _ _) rfl (bk_one _ _ _) ?_)
    refine bodyPost_ret (results_ct rfl _ _ _ w.heap.size 82 (bkA zeroH 0 0) (0, 0) _ rfl (setRow_heap _ _ _ _ _ _ HRW.out) rfl Tryz.underlying82 (info_blkA _ _ _)) rfl ⟨by rw [hf, hFE]; rfl, Below.setRow HBW.out (Nat.le_refl _) _⟩
  | some n =>
    have hfe : FE = 0 := by rw [← hFE, findN_some hf]
    rw [hfe] at hFE
    subst hfe
    rw [show (some n : Option Nd).getD zeroN = n from rfl]
    go_upto_region 2 with (refine wpList_store_row rfl 95 _ _ rfl w1.heap.size (ndA n) rfl rfl 95 (ndA zeroN) (heap_alloc_new w1 _) (info_nodeA _) rfl (nd_one _) ?_)
    generalize hW : (w1.alloc (.cells #[.int .i64 0, .int .i64 0, .int .i64 0, .int .i64 0, .int .i64 0, .int .i64 0, .int .i64 0, .int .i64 0, .int .i64 0, .int .i64 0, .int .i64 0, .int .i64 0, .int .i64 0, .int .i64 0, .int .i64 0, .int .i64 0, .int .i64 0, .int .i64 0, .int .i64 0, .int .i64 0, .int .i64 0, .int .i64 0, .int .i64 0, .int .i64 0, .int .i64 0, .int .i64 0, .int .i64 0, .int .i64 0, .int .i64 0, .int .i64 0, .int .i64 0, .int .i64 0, .int .i64 0, .int .i64 0, .int .i64 0, .int .i64 0, .int .i64 0] 95)).setRow w1.heap.size (ndA n) = W at *
    obtain ⟨hsW, hbW, hWR⟩ := row_new hW
    clear hW
    have hRW : W.heap[w.heap.size]? = some (.cells (bkA zeroH 0 0) 82 (0, 0)) := (hbW.block _ (by omega)).trans hR1
    have HRW := Go.Proofs.YtpaakikgfojplaaGreat.hid hRW
    have HBW := Go.Proofs.YtpaakikgfojplaaGreat.hid (hbw1.trans (hbW.mono (by omega)))
    have hwW : w.heap.size < W.heap.size := lt_of_block hRW
    generalize w1.heap.size = B at *
    have n1 : W.cell? ⟨B, 1, none⟩ = some (.int .i64 n.par) := cell_of_cells (j := 1) hWR rfl
    have n2 : W.cell? ⟨B, 2, none⟩ = some (.int .i64 n.height) := cell_of_cells (j := 2) hWR rfl
    have n3 : W.cell? ⟨B, 3, none⟩ = some (.int .i64 n.hdr.slot) := cell_of_cells (j := 3) hWR rfl
    have n4 : W.cell? ⟨B, 4, none⟩ = some (.int .i64 n.hdr.pool) := cell_of_cells (j := 4) hWR rfl
    have n5 : W.cell? ⟨B, 5, none⟩ = some (.int .i64 n.hdr.proof) := cell_of_cells (j := 5) hWR rfl
    have n6 : W.cell? ⟨B, 6, none⟩ = some (.int .i64 n.hdr.count) := cell_of_cells (j := 6) hWR rfl
    have n7 : W.cell? ⟨B, 7, none⟩ = some (.int .i64 n.hdr.frm) := cell_of_cells (j := 7) hWR rfl
    have n8 : W.cell? ⟨B, 8, none⟩ = some (.int .i64 n.hdr.dst) := cell_of_cells (j := 8) hWR rfl
    have n9 : W.cell? ⟨B, 9, none⟩ = some (.int .i64 n.hdr.amount) := cell_of_cells (j := 9) hWR rfl
    have hBW := lt_of_block hWR
    have HF := Go.Proofs.YtpaakikgfojplaaGreat.hid (show lkA (findN ns id) = bkA n.hdr (if n.par = -1 then 0 else n.par) n.height by rw [hf]; rfl)
    clear hWR hbW hR1 hbw1 hRW hf
    obtain ⟨ni, np', nh, ⟨h0, h1, h2, h3, h4, h5, h6⟩, ng⟩ := n
    by_cases hp : np' = -1
    · have hpb : (np' == -1) = true := by simp [hp]
      go_upto_region 7 with fail
      generalize hV : W.alloc (.cells #[.int .i64 h0, .int .i64 h1, .int .i64 h2, .int .i64 h3, .int .i64 h4, .int .i64 h5, .int .i64 h6, .int .i64 0, .int .i64 nh] 82) = V at *
      obtain ⟨hsV, hbV, hVR⟩ := below_of hV
      clear hV
      have HVR : Hid (V.heap[W.heap.size]? = some (.cells (bkA ⟨h0, h1, h2, h3, h4, h5, h6⟩ 0 nh) 82 (0, 0))) := hVR
      have HRV : Hid (V.heap[w.heap.size]? = some (.cells (bkA zeroH 0 0) 82 (0, 0))) := (hbV.block _ hwW).trans HRW.out
      have HBV := Go.Proofs.YtpaakikgfojplaaGreat.hid (HBW.out.trans (hbV.mono (by omega)))
      have HF2 : Hid (lkA (findN ns id) = bkA ⟨h0, h1, h2, h3, h4, h5, h6⟩ 0 nh) := by
        have := HF.out
        simp only [hp, if_pos] at this
        exact this
      clear hVR hbV n1 n2 n3 n4 n5 n6 n7 n8 n9 HF HRW HBW
      go_wp2_with (first | refine wpList_load_row rfl 82 _ rfl W.heap.size rfl 82 (bkA ⟨h0, h1, h2, h3, h4, h5, h6⟩ 0 nh) (0, 0) _ HVR.out Tryz.underlying82 rfl (info_blkA _ _ _) ?_ | refine wpList_store_row rfl 82 _ _ rfl w.heap.size (bkA ⟨h0, h1, h2, h3, h4, h5, h6⟩ 0 nh) rfl rfl 82 (bkA zeroH 0 0) HRV.out (info_blkA _ _ _) rfl (bk_one _ _ _) ?_)
      refine bodyPost_ret (results_ct rfl _ _ _ w.heap.size 82 (bkA ⟨h0, h1, h2, h3, h4, h5, h6⟩ 0 nh) (0, 0) _ rfl (setRow_heap _ _ _ _ _ _ HRV.out) rfl Tryz.underlying82 (info_blkA _ _ _)) rfl ⟨by rw [HF2.out, hFE]; rfl, Below.setRow HBV.out (Nat.le_refl _) _⟩
    · have hpb : (np' == -1) = false := by simp [hp]
      go_upto_region 7 with fail
      generalize hV : W.alloc (.cells #[.int .i64 h0, .int .i64 h1, .int .i64 h2, .int .i64 h3, .int .i64 h4, .int .i64 h5, .int .i64 h6, .int .i64 np', .int .i64 nh] 82) = V at *
      obtain ⟨hsV, hbV, hVR⟩ := below_of hV
      clear hV
      have HVR : Hid (V.heap[W.heap.size]? = some (.cells (bkA ⟨h0, h1, h2, h3, h4, h5, h6⟩ np' nh) 82 (0, 0))) := hVR
      have HRV : Hid (V.heap[w.heap.size]? = some (.cells (bkA zeroH 0 0) 82 (0, 0))) := (hbV.block _ hwW).trans HRW.out
      have HBV := Go.Proofs.YtpaakikgfojplaaGreat.hid (HBW.out.trans (hbV.mono (by omega)))
      have HF2 : Hid (lkA (findN ns id) = bkA ⟨h0, h1, h2, h3, h4, h5, h6⟩ np' nh) := by
        have := HF.out
        simp only [if_neg hp] at this
        exact this
      clear hVR hbV n1 n2 n3 n4 n5 n6 n7 n8 n9 HF HRW HBW
      go_wp2_with (first | refine wpList_load_row rfl 82 _ rfl W.heap.size rfl 82 (bkA ⟨h0, h1, h2, h3, h4, h5, h6⟩ np' nh) (0, 0) _ HVR.out Tryz.underlying82 rfl (info_blkA _ _ _) ?_ | refine wpList_store_row rfl 82 _ _ rfl w.heap.size (bkA ⟨h0, h1, h2, h3, h4, h5, h6⟩ np' nh) rfl rfl 82 (bkA zeroH 0 0) HRV.out (info_blkA _ _ _) rfl (bk_one _ _ _) ?_)
      refine bodyPost_ret (results_ct rfl _ _ _ w.heap.size 82 (bkA ⟨h0, h1, h2, h3, h4, h5, h6⟩ np' nh) (0, 0) _ rfl (setRow_heap _ _ _ _ _ _ HRV.out) rfl Tryz.underlying82 (info_blkA _ _ _)) rfl ⟨by rw [HF2.out, hFE]; rfl, Below.setRow HBV.out (Nat.le_refl _) _⟩

end Go.Proofs.YtpaakikgfojplaaGreat

