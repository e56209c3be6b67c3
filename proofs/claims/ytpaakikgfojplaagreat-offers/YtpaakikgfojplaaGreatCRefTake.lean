import Derived.Test.YtpaakikgfojplaaGreatCM9
import Derived.BigRegion
import Derived.Deep.DeepCutAuto
/-
  THE WALKS of beaconref: Offer.
-/
namespace Go.Proofs.YtpaakikgfojplaaGreat
open Go.RowKit Num Bk
set_option linter.unusedVariables false
attribute [local go_sem ↓] Go.wp_at_zero Go.wp_at_succ

theorem Tryz.info70 : (Tryz.prog.info? 70).map (fun i => (i.zero, i.size, i.bytes)) = some (some (.agg #[.int .i64 0, .int .i64 0, .int .i64 0, .int .i64 0, .int .i64 0, .int .i64 0, .int .i64 0, .int .i64 0]), 8, 64) := by kernel_rfl

/-- What Offer leaves. -/
def Offered (w w' : World) (x gs cs ga gk : Nat) (s' : St) : Prop :=
  ∃ ga' ca' gk' ck', RefAt w' x gs cs ga' ca' gk' ck' s' ∧ Fr (fun b => b = x ∨ b = ga ∨ b = gk) w w' ∧ (ga' = ga ∨ w.heap.size ≤ ga') ∧ (gk' = gk ∨ w.heap.size ≤ gk')

theorem offered_same {w w' : World} {x gs cs ga ca gk ck : Nat} {s : St} (h : RefAt w x gs cs ga ca gk ck s) (hb : Below w.heap.size w w') : Offered w w' x gs cs ga gk s :=
  ⟨ga, ca, gk, ck, h.keep hb, Fr.of_below hb _ (fun k h1 h2 => by omega), Or.inl rfl, Or.inl rfl⟩

def MidAll (W w6 : World) (x gs cs ga gk ck : Nat) (s s' : St) : Prop :=
  ∃ ga' ca', RefAt w6 x gs cs ga' ca' gk ck s' ∧ Fr (fun b => b = x ∨ b = ga) W w6 ∧ (ga' = ga ∨ W.heap.size ≤ ga')

theorem mid_all {W w5 : World} {x gs cs ga ca gk ck g5 cap5 : Nat} {s : St} {it : Itm} (hr : RefAt W x gs cs ga ca gk ck s) (o : Obj) (hgrow : (W.alloc o).grownBy w5 (some ga))
    (hown : w5.ownsRow 0 70 8 (.slice (some ⟨g5, 0, none⟩) (s.all.length + 1) cap5) (s.all.length + 1) (acells s.all ++ itcells it)) (hat : some ga = some g5 ∨ g5 = W.heap.size + 1) :
    MidAll W (w5.setCell ⟨x, 7, none⟩ (.slice (some ⟨g5, 0, none⟩) (s.all.length + 1) cap5)) x gs cs ga gk ck s { s with all := s.all ++ [it] } := by
  have h4 := hr.four
  have hl := hr.lts
  have hF5 : Fr (fun b => b = ga) W w5 := ((Fr.refl _ W).alloc o).grown hgrow (by intro k e; simp at e; exact Or.inl e.symm)
  have hb5 : w5.heap[x]? = W.heap[x]? := hF5.block x hl.1 (by simpa using h4.2.1)
  have hg5 : g5 = ga ∨ W.heap.size ≤ g5 := by
    rcases hat with h | h
    · simp at h; exact Or.inl h.symm
    · exact Or.inr (by omega)
  have hxg : x ≠ g5 := by rcases hg5 with h | h; rw [h]; exact h4.2.1; omega
  have hsg : gs ≠ g5 := by rcases hg5 with h | h; rw [h]; exact h4.2.2.2.1; omega
  have hkg : gk ≠ g5 := by rcases hg5 with h | h; rw [h]; exact Ne.symm h4.2.2.2.2.1; omega
  refine ⟨g5, cap5, ⟨?_, ?_, ?_, ?_, hr.ne⟩, (hF5.mono (by intro k _ h; exact Or.inr h)).setCell (Or.inl (Or.inl rfl)) _, hg5⟩
  · rw [heap_setCell_same w5 x 7 _ 73 _ (hb5.trans hr.blk)]
    simp
  · refine ownsRow_setCell_other (row_fr hr.stk hF5 (by intro g e; simp [Value.ownBlock] at e; subst e; exact h4.2.2.2.1)) (by simpa [Value.ownBlock] using Ne.symm h4.1) _
  · have := ownsRow_setCell_other hown (a := ⟨x, 7, none⟩) (by simpa [Value.ownBlock] using Ne.symm hxg) (.slice (some ⟨g5, 0, none⟩) (s.all.length + 1) cap5)
    rw [acells_append, List.length_append]
    simpa [acells] using this
  · refine ownsRow_setCell_other (row_fr hr.kep hF5 (by intro g e; simp [Value.ownBlock] at e; subst e; exact Ne.symm h4.2.2.2.2.1)) (by simpa [Value.ownBlock] using Ne.symm h4.2.2.1) _

theorem mid_keep {W w7 : World} {x gs cs ga ca gk ck g7 cap7 : Nat} {s : St} {n : Nat} (hr : RefAt W x gs cs ga ca gk ck s) (o : Obj) (hgrow : (W.alloc o).grownBy w7 (some gk))
    (hown : w7.ownsRow 0 3 1 (.slice (some ⟨g7, 0, none⟩) (s.keep.length + 1) cap7) (s.keep.length + 1) (dcells s.keep ++ [.int .i64 (n : Int)])) (hat : some gk = some g7 ∨ g7 = W.heap.size + 1) :
    ∃ gk' ck', RefAt (w7.setCell ⟨x, 8, none⟩ (.slice (some ⟨g7, 0, none⟩) (s.keep.length + 1) cap7)) x gs cs ga ca gk' ck' { s with keep := s.keep ++ [n] } ∧ Fr (fun b => b = x ∨ b = gk) W (w7.setCell ⟨x, 8, none⟩ (.slice (some ⟨g7, 0, none⟩) (s.keep.length + 1) cap7)) ∧ (gk' = gk ∨ W.heap.size ≤ gk') := by
  have h4 := hr.four
  have hl := hr.lts
  have hF7 : Fr (fun b => b = gk) W w7 := ((Fr.refl _ W).alloc o).grown hgrow (by intro k e; simp at e; exact Or.inl e.symm)
  have hb7 : w7.heap[x]? = W.heap[x]? := hF7.block x hl.1 (by simpa using h4.2.2.1)
  have hg7 : g7 = gk ∨ W.heap.size ≤ g7 := by
    rcases hat with h | h
    · simp at h; exact Or.inl h.symm
    · exact Or.inr (by omega)
  have hxg : x ≠ g7 := by rcases hg7 with h | h; rw [h]; exact h4.2.2.1; omega
  have hsg : gs ≠ g7 := by rcases hg7 with h | h; rw [h]; exact h4.2.2.2.2.2; omega
  refine ⟨g7, cap7, ⟨?_, ?_, ?_, ?_, hsg⟩, (hF7.mono (by intro k _ h; exact Or.inr h)).setCell (Or.inl (Or.inl rfl)) _, hg7⟩
  · rw [heap_setCell_same w7 x 8 _ 73 _ (hb7.trans hr.blk)]
    simp
  · exact ownsRow_setCell_other (row_fr hr.stk hF7 (by intro g e; simp [Value.ownBlock] at e; subst e; exact h4.2.2.2.2.2)) (by simpa [Value.ownBlock] using Ne.symm h4.1) _
  · exact ownsRow_setCell_other (row_fr hr.all hF7 (by intro g e; simp [Value.ownBlock] at e; subst e; exact h4.2.2.2.2.1)) (by simpa [Value.ownBlock] using Ne.symm h4.2.1) _
  · have := ownsRow_setCell_other hown (a := ⟨x, 8, none⟩) (by simpa [Value.ownBlock] using Ne.symm hxg) (.slice (some ⟨g7, 0, none⟩) (s.keep.length + 1) cap7)
    rw [dcells_append, List.length_append]
    exact this

theorem put_keep {W : World} {x gs cs ga ca gk ck g c : Nat} {s : St} {os : List Nat} (hr : RefAt W x gs cs ga ca gk ck s) {B : Nat} (hown : W.ownsRow B 3 1 (.slice (some ⟨g, 0, none⟩) os.length c) os.length (dcells os)) (hg : gs < g) :
    RefAt (W.setCell ⟨x, 8, none⟩ (.slice (some ⟨g, 0, none⟩) os.length c)) x gs cs ga ca g c { s with keep := os } := by
  have h4 := hr.four
  have hl := hr.lts
  obtain ⟨cur, hgb, _⟩ := row_block hown
  have hxg : x ≠ g := block_ne hr.blk hgb (by decide)
  refine ⟨?_, ?_, ?_, ?_, by omega⟩
  · rw [heap_setCell_same W x 8 _ 73 _ hr.blk]
    simp
  · exact ownsRow_setCell_other hr.stk (by simpa [Value.ownBlock] using Ne.symm h4.1) _
  · exact ownsRow_setCell_other hr.all (by simpa [Value.ownBlock] using Ne.symm h4.2.1) _
  · exact ownsRow_setCell_other (row_weak hown (Nat.zero_le _)) (by simpa [Value.ownBlock] using Ne.symm hxg) _

theorem RefAt.drewN {w : World} {x gs cs ga ca gk ck : Nat} {s : St} (h : RefAt w x gs cs ga ca gk ck s) (n : Nat) : RefAt (w.drewN n) x gs cs ga ca gk ck s := ⟨h.blk, h.stk, h.all, h.kep, h.ne⟩
theorem RefAt.drew {w : World} {x gs cs ga ca gk ck : Nat} {s : St} (h : RefAt w x gs cs ga ca gk ck s) : RefAt w.drew x gs cs ga ca gk ck s := ⟨h.blk, h.stk, h.all, h.kep, h.ne⟩
theorem MidAll.drew {W w6 : World} {x gs cs ga gk ck : Nat} {s s' : St} (h : MidAll W w6 x gs cs ga gk ck s s') : MidAll W w6.drew x gs cs ga gk ck s s' := by
  obtain ⟨a, b, h1, h2, h3⟩ := h
  exact ⟨a, b, h1.drew, h2.drew, h3⟩

set_option maxHeartbeats 6400000 in
set_option maxRecDepth 1000000 in
theorem offer_any (x gs cs ga ca gk ck : Nat) (s : St) (parent : Int) (h : Hdr) (w : World) (hr : RefAt w x gs cs ga ca gk ck s) (hv : Inv s) :
    Calls Tryz.prog 21 #[.pointer (some ⟨x, 0, none⟩), .int .i64 parent, hdrV h] w fun e w' => e = .returned (.tuple #[.int .i64 (offerId s parent h), .int .i64 (offerErr s parent h)]) ∧ Offered w w' x gs cs ga gk (offer s parent h) := by
  have hi := hv.wk
  have hkl := hi.kl
  have hroom := hv.par.r2
  obtain ⟨a0, a1, a2, a3, a4, a5, a6⟩ := h
  have hoe : offerErr s parent ⟨a0, a1, a2, a3, a4, a5, a6⟩ = if refused s parent ⟨a0, a1, a2, a3, a4, a5, a6⟩ ≠ 0 then refused s parent ⟨a0, a1, a2, a3, a4, a5, a6⟩ else if s.par.room ≤ s.keep.length then 11 else 0 := rfl
  unfold hdrV
  go_enter Tryz.func21, Tryz.ntmps21
  go_wp2_with fail
  generalize hA : w.alloc (.cells #[.int .i64 a0, .int .i64 a1, .int .i64 a2, .int .i64 a3, .int .i64 a4, .int .i64 a5, .int .i64 a6] 40) = A at *
  obtain ⟨hsA, hbA, hAR⟩ := below_zero hA
  clear hA
  have hrA := hr.keep hbA
  refine (refused_any x gs cs ga ca gk ck s parent ⟨a0, a1, a2, a3, a4, a5, a6⟩ _ hrA hv).mono ?_
  rintro e w1 ⟨rfl, hb1⟩
  have hs1 := hb1.size
  have hbw := hbA.trans (hb1.mono (by omega))
  have hr1 := hr.keep hbw
  have hA1 : w1.heap[w.heap.size]? = some (.cells #[.int .i64 a0, .int .i64 a1, .int .i64 a2, .int .i64 a3, .int .i64 a4, .int .i64 a5, .int .i64 a6] 40 (0, 0)) := by
    rw [hb1.block _ (by omega)]; exact hAR
  clear hrA hAR hbA hb1
  by_cases hrf : refused s parent ⟨a0, a1, a2, a3, a4, a5, a6⟩ = 0
  · rw [if_neg (by simpa using hrf)] at hoe
    rw [hrf]
    have c8 := cell_of_cells (j := 8) hr1.blk rfl
    have c2 := cell_of_cells (j := 2) hr1.blk rfl
    by_cases hfull : s.par.room ≤ s.keep.length
    · rw [if_pos hfull] at hoe
      have HOE := Go.Proofs.YtpaakikgfojplaaGreat.hid hoe
      have HID := Go.Proofs.YtpaakikgfojplaaGreat.hid (show offerId s parent ⟨a0, a1, a2, a3, a4, a5, a6⟩ = 0 by unfold offerId; rw [hoe]; rfl)
      have HOF := Go.Proofs.YtpaakikgfojplaaGreat.hid (show offer s parent ⟨a0, a1, a2, a3, a4, a5, a6⟩ = s by unfold offer; rw [hoe]; rfl)
      clear hoe hr1 hrf
      go_wp2
      go_quiet (fail)
      go_wp2
      go_ret2
      refine ⟨by rw [HOE.out, HID.out]; rfl, ?_⟩
      rw [HOF.out]
      exact offered_same hr (drawB hbw _)
    · rw [if_neg hfull] at hoe
      obtain ⟨hac, hpn, hth⟩ := accept_of hoe
      obtain ⟨pN, hpe⟩ : ∃ pN : Nat, parent = (pN : Int) := ⟨parent.toNat, hpn.symm⟩
      subst hpe
      rw [Int.toNat_natCast] at hac
      have HOE := Go.Proofs.YtpaakikgfojplaaGreat.hid hoe
      have HAC := Go.Proofs.YtpaakikgfojplaaGreat.hid hac
      have hsm := all_small hv
      clear hoe hrf hpn hth hac
      have hf4 := hr.four
      have hlts := hr.lts
      have c7 := cell_of_cells (j := 7) hr1.blk rfl
      go_wp2
      go_quiet (fail)
      go_wp2
      have hbW : Below w.heap.size w (w1.drewN nq) := drawB hbw nq
      have hAW : (w1.drewN nq).heap[w.heap.size]? = some (.cells #[.int .i64 a0, .int .i64 a1, .int .i64 a2, .int .i64 a3, .int .i64 a4, .int .i64 a5, .int .i64 a6] 40 (0, 0)) := hA1
      have hsW : w.heap.size + 1 ≤ (w1.drewN nq).heap.size := by have := hs1; rw [hsA] at this; exact this
      have hrW := hr.keep hbW
      generalize w1.drewN nq = W at *
      clear hr1 hA1 c2 c7 c8
      obtain ⟨i1, hj, hy0, hy1, hy2⟩ := info_parts Tryz.info70
      obtain ⟨i0, hi0, hz0, hz1, hz2⟩ := info_parts Tryz.info3
      have c7 := cell_of_cells (j := 7) hrW.blk rfl
      have c8 := cell_of_cells (j := 8) hrW.blk rfl
      have f7 := free_of_cells (j := 7) hrW.blk
      have p0 := cell_of_cells (j := 0) hAW rfl
      have p1 := cell_of_cells (j := 1) hAW rfl
      have p2 := cell_of_cells (j := 2) hAW rfl
      have p3 := cell_of_cells (j := 3) hAW rfl
      have p4 := cell_of_cells (j := 4) hAW rfl
      have p5 := cell_of_cells (j := 5) hAW rfl
      have p6 := cell_of_cells (j := 6) hAW rfl
      have hxW : x < W.heap.size := by omega
      have hwW : w.heap.size < W.heap.size := by omega
      have hown1 := hrW.all
      have hx1 := hf4.2.1
      have hx2 : w.heap.size ≠ ga := by omega
      have hx3 : w.heap.size ≠ x := by omega
      have HRW := Go.Proofs.YtpaakikgfojplaaGreat.hid hrW
      have HAW := Go.Proofs.YtpaakikgfojplaaGreat.hid hAW
      clear hrW hAW
      have HA7 : Hid (∀ o, (W.alloc o).cell? ⟨x, 7, none⟩ = some (.slice (some ⟨ga, 0, none⟩) s.all.length ca)) := fun o => by rw [World.cell?_alloc_past _ _ _ hxW]; exact c7
      have HF7 : Hid (∀ o, (W.alloc o).frozen? ⟨x, 7, none⟩ = false) := fun o => by rw [World.frozen?_alloc_past _ _ _ hxW]; exact f7
      go_cut [] (fun wx => MidAll W wx x gs cs ga gk ck s { s with all := s.all ++ [⟨⟨a0, a1, a2, a3, a4, a5, a6⟩, pN⟩] })
      case first =>
        go_region_law ((refine step_append_lies _ (by rfl) (.tmp 43) (.tmp 47) 71 (by rfl) 0 70 i1 _ 8 64 Tryz.underlying71 hj hy0 hy1 hy2 (by rfl) (by omega) (.slice (some ⟨ga, 0, none⟩) s.all.length ca) s.all.length (acells s.all) (by rfl) (by exact hown1.alloc _) ⟨W.heap.size, 0, none⟩ 1 1 [.int .i64 a0, .int .i64 a1, .int .i64 a2, .int .i64 a3, .int .i64 a4, .int .i64 a5, .int .i64 a6, .int .i64 (pN : Int)] (by rfl) (by rfl) (by exact World.news_of_block (heap_alloc_new W _)) (by intro u hu; simp at hu; rcases hu with rfl | rfl | rfl | rfl | rfl | rfl | rfl | rfl <;> rfl) (by omega) (by unfold maxLen; omega) (by omega) (by omega) (W.heap.size + 1) (by simp) ?_; intro g5 cap5 w5 hown5 hgrow5 hat5 hlt5; have k7 := (hgrow5.cell_far ⟨x, 7, none⟩ (by simp; omega) (by simp [Value.ownBlock]; omega)).trans (by exact HA7.out _); have kf := (hgrow5.frozen_far ⟨x, 7, none⟩ (by simp; omega) (by simp [Value.ownBlock]; omega)).trans (by exact HF7.out _)))
        all_goals
          go_wp2
          go_meet
          case rel => exact mid_all HRW.out _ ⟨hgrow5.os, hgrow5.tape, hgrow5.output, hgrow5.size, hgrow5.block⟩ hown5 hat5
      case rest =>
        clear c7 c8 f7 p0 p1 p2 p3 p4 p5 p6 hown1 HRW HAW HA7 HF7 hx1 hx2 hx3
        obtain ⟨ga1, ca1, hr6, hF6, hga1⟩ := hcut
        have hs6 := hF6.size
        have c8 := cell_of_cells (j := 8) hr6.blk rfl
        have f8 := free_of_cells (j := 8) hr6.blk
        have hown1 := hr6.kep
        have h46 := hr6.four
        have hl6 := hr6.lts
        have hx6 := hl6.1
        have HR6 := Go.Proofs.YtpaakikgfojplaaGreat.hid hr6
        clear hr6
        go_wp2_with (at_builtin; refine wpList_append_lies _ rfl (.tmp 55) (.tmp 57) 22 rfl 0 3 i0 (.int .i64 0) 1 8 Tryz.underlying22 hi0 hz0 hz1 hz2 rfl (by omega) _ s.keep.length (dcells s.keep) rfl (hown1.alloc _) ⟨wc.heap.size, 0, none⟩ 1 1 [.int .i64 (s.all.length : Int)] rfl rfl (cell_one_new _ _ _) (one_int _) (by omega) (by unfold maxLen; omega) (by omega) (by omega) (wc.heap.size + 1) (by simp) ?_)
        intro g7 cap7 w7 hown7 hgrow7 hat7 hlt7
        have k8 := (hgrow7.cell_far ⟨x, 8, none⟩ (by simp; omega) (by simp [Value.ownBlock]; exact h46.2.2.1)).trans ((World.cell?_alloc_past _ _ _ hx6).trans c8)
        have kf := (hgrow7.frozen_far ⟨x, 8, none⟩ (by simp; omega) (by simp [Value.ownBlock]; exact h46.2.2.1)).trans ((World.frozen?_alloc_past _ _ _ hx6).trans f8)
        have hmk := mid_keep HR6.out _ hgrow7 hown7 hat7
        have HMK := Go.Proofs.YtpaakikgfojplaaGreat.hid hmk
        clear hmk hown7 hgrow7 hat7 hown1 c8 f8
        go_wp2_with fail
        generalize w7.setCell ⟨x, 8, none⟩ (.slice (some ⟨g7, 0, none⟩) (s.keep.length + 1) cap7) = W8 at *
        obtain ⟨gk8, ck8, hr8, hF8, hgk8⟩ := HMK.out
        have hwk : Wk (mid s pN ⟨a0, a1, a2, a3, a4, a5, a6⟩) := mid_wk hv HAC.out.keep
        have hr8' : RefAt W8 x gs cs ga1 ca1 gk8 ck8 (mid s pN ⟨a0, a1, a2, a3, a4, a5, a6⟩) := hr8
        clear HMK HR6 k8 kf hr8
        refine (final_any x gs cs ga1 ca1 gk8 ck8 _ _ hr8' hwk).mono ?_
        rintro e w9 ⟨rfl, hb9⟩
        have hr9 := hr8'.keep hb9
        have hs9 := hb9.size
        have hs8 := hF8.size
        have hmkl := hwk.kl
        have hmsm := hwk.small
        have HTE := Go.Proofs.YtpaakikgfojplaaGreat.hid (taken_eq s pN ⟨a0, a1, a2, a3, a4, a5, a6⟩)
        have hkl9 := hr9.lts
        have HF9 := Go.Proofs.YtpaakikgfojplaaGreat.hid (show Fr (fun b => b = x ∨ b = ga ∨ b = gk) w w9 from
          (((Fr.of_below hbW _ (fun k h1 h2 => by omega)).trans' hF6 (by intro i hi h; rcases h with h | h; exact Or.inl h; exact Or.inr (Or.inl h))).trans' hF8 (by intro i hi h; rcases h with h | h; exact Or.inl h; exact Or.inr (Or.inr h))).trans' (Fr.of_below hb9 (fun _ => False) (fun k h1 h2 => by omega)) (by intro i hi h; exact h.elim))
        generalize hM : mid s pN ⟨a0, a1, a2, a3, a4, a5, a6⟩ = M at *
        clear hr8' hb9
        have c8 := cell_of_cells (j := 8) hr9.blk rfl
        go_wp2
        go_loopw [11, 12] (fun kp i wr => ∃ (j : Nat) (os : List Nat), j ≤ M.keep.length ∧ i = .int .i64 j ∧ os.length ≤ j ∧ Hid (os = (M.keep.take j).filter fun k => has (line M.all k) (fin M)) ∧ wr.ownsRow w9.heap.size 3 1 kp os.length (dcells os) ∧ Below w9.heap.size w9 wr)
          (fun _ i _ => M.keep.length - (intOf i).toNat)
        case atStart => exact ⟨0, [], Nat.zero_le _, rfl, Nat.le_refl _, by unfold Hid; simp, World.ownsRow_nil _ _ _ _, Below.refl _ _⟩
        case round =>
          clear c8
          obtain ⟨j, os, hj, rfl, hosl, HOS, hout, hbel⟩ := hrel
          have hrr := hr9.keep hbel
          have hsz := hbel.size
          have c8 := cell_of_cells (j := 8) hrr.blk rfl
          by_cases hlt : j < M.keep.length
          · have hdm : M.keep.getD j 0 ∈ M.keep := by
              rw [show M.keep.getD j 0 = M.keep[j] from by simp [List.getD, hlt]]
              exact List.getElem_mem hlt
            have hdl := hwk.klt _ hdm
            have ck1 := hrr.keep_at hlt
            have hft : (M.keep.take (j + 1)).filter (fun k => has (line M.all k) (fin M)) = os ++ (if has (line M.all (M.keep.getD j 0)) (fin M) then [M.keep.getD j 0] else []) := by
              rw [take_succ_getD M.keep j hlt, List.filter_append, ← HOS.out]
              simp only [List.filter_cons, List.filter_nil]
            have HCK := Go.Proofs.YtpaakikgfojplaaGreat.hid (fun (w2 : World) (h2 : RefAt w2 x gs cs ga1 ca1 gk8 ck8 M) => h2.keep_at hlt)
            have HFT := Go.Proofs.YtpaakikgfojplaaGreat.hid hft
            clear hft HOS hdm
            generalize M.keep.getD j 0 = d at *
            have i1 : (0 : Int) ≤ (j : Int) := by omega
            have i2 : (j : Int) < ((M.keep.length : Nat) : Int) := by omega
            go_wp2_with fail
            refine (line_any x gs cs ga1 ca1 gk8 ck8 M d _ hrr hwk hdl).mono ?_
            rintro e wA ⟨g, cap, rfl, ho, hbA⟩
            have hrA := hrr.keep hbA
            have hsA' := hbA.size
            have houtA := row_keep hout hbA (Nat.le_refl _)
            have hbelA := hbel.trans (hbA.mono hsz)
            have hll : (line M.all d).length ≤ 1000000 := by
              have := line_length hwk.tree d
              have := hwk.hs d hdl
              omega
            clear c8 ck1 hrr hbel hbA hout
            go_wp2_with fail
            refine (in_any _ g cap (line M.all d) (fin M : Int) _ ho hll).mono ?_
            rintro e wB ⟨rfl, rfl⟩
            have c8 := cell_of_cells (j := 8) hrA.blk rfl
            have ck1 : wA.cell? ⟨gk8, j, none⟩ = some (.int .i64 (d : Int)) := HCK.out wA hrA
            clear ho hll hrA
            cases hh : has (line M.all d) (fin M : Int)
            · rw [hh] at HFT
              go_wp2
              go_roundw
              case rel => exact ⟨j + 1, os, by omega, by go_num, by omega, by have := HFT.out; unfold Hid; rw [this]; simp, houtA, hbelA⟩
              case measure => simp [intOf]; omega
            · rw [hh] at HFT
              clear hh
              go_wp2_with (at_builtin; refine wpList_append_lies _ rfl (.tmp 84) (.tmp 92) 22 rfl w9.heap.size 3 i0 (.int .i64 0) 1 8 Tryz.underlying22 hi0 hz0 hz1 hz2 rfl (by omega) _ os.length (dcells os) rfl (houtA.alloc _) ⟨wA.heap.size, 0, none⟩ 1 1 [.int .i64 (d : Int)] rfl rfl (cell_one_new _ _ _) (one_int _) (by omega) (by unfold maxLen; omega) (by omega) (by simp; omega) (wA.heap.size + 1) (by simp) ?_)
              intro gq capq wq hownq hgrowq hatq hltq
              have hrow := fun k (e : Value.ownBlock u11 = some k) => (houtA.lt k e).1
              have HB := Go.Proofs.YtpaakikgfojplaaGreat.hid ((hbelA.alloc (by omega) _).grown hgrowq (by simp; omega) hrow)
              have HO := Go.Proofs.YtpaakikgfojplaaGreat.hid hownq
              clear hownq hgrowq hatq hbelA houtA hrow
              go_wp2
              go_roundw
              case rel =>
                refine ⟨j + 1, os ++ [d], by omega, by go_num, by simp; omega, by have := HFT.out; unfold Hid; rw [this]; simp, ?_, HB.out⟩
                rw [List.length_append, dcells_append]
                exact HO.out
              case measure => simp [intOf]; omega
          · have hjk : j = M.keep.length := by omega
            have hos : os = (taken s pN ⟨a0, a1, a2, a3, a4, a5, a6⟩).keep := by
              rw [HOS.out, hjk, List.take_length, HTE.out]
            have hst := stepped hv HAC.out
            have hone : 0 < os.length := by
              rw [hos]
              cases e : (taken s pN ⟨a0, a1, a2, a3, a4, a5, a6⟩).keep with
              | nil => have := hst.inv.tipin; rw [e] at this; simp at this
              | cons y l => simp
            obtain ⟨go, co, rfl, hgo, hgl⟩ := hout.form hone
            have hpk := put_keep hrr hout (Nat.le_trans (by omega) hgo)
            have f8 := free_of_cells (j := 8) hrr.blk
            have hstt : offer s (pN : Int) ⟨a0, a1, a2, a3, a4, a5, a6⟩ = { M with keep := os } := by
              unfold offer
              rw [HOE.out, if_pos rfl, Int.toNat_natCast, hos, HTE.out]
            have HFIN := Go.Proofs.YtpaakikgfojplaaGreat.hid (show Offered w (wr.setCell ⟨x, 8, none⟩ (.slice (some ⟨go, 0, none⟩) os.length co)) x gs cs ga gk (offer s (pN : Int) ⟨a0, a1, a2, a3, a4, a5, a6⟩) by
              rw [hstt]
              refine ⟨ga1, ca1, go, co, hpk, ?_, ?_, ?_⟩
              · exact ((HF9.out.trans' (Fr.of_below hbel (fun _ => False) (fun k h1 h2 => by omega)) (by intro i hi h; exact h.elim))).setCell (Or.inl (Or.inl rfl)) _
              · rcases hga1 with h | h
                · exact Or.inl h
                · exact Or.inr (by omega)
              · exact Or.inr (by omega))
            have HID := Go.Proofs.YtpaakikgfojplaaGreat.hid (show offerId s (pN : Int) ⟨a0, a1, a2, a3, a4, a5, a6⟩ = s.all.length by unfold offerId; rw [HOE.out, if_pos rfl])
            clear hpk hstt hst hos HOS hrr hbel hout
            go_wp2
            go_ret2
            exact ⟨by rw [HID.out, HOE.out]; rfl, HFIN.out⟩
  · rw [if_pos (by simpa using hrf)] at hoe
    have HOE := Go.Proofs.YtpaakikgfojplaaGreat.hid hoe
    have hne : offerErr s parent ⟨a0, a1, a2, a3, a4, a5, a6⟩ ≠ 0 := by rw [hoe]; exact hrf
    have HID := Go.Proofs.YtpaakikgfojplaaGreat.hid (show offerId s parent ⟨a0, a1, a2, a3, a4, a5, a6⟩ = 0 by unfold offerId; rw [if_neg hne])
    have HOF := Go.Proofs.YtpaakikgfojplaaGreat.hid (show offer s parent ⟨a0, a1, a2, a3, a4, a5, a6⟩ = s by unfold offer; rw [if_neg hne])
    have hb : (refused s parent ⟨a0, a1, a2, a3, a4, a5, a6⟩ != 0) = true := by simpa using hrf
    clear hoe hr1 hne
    generalize refused s parent ⟨a0, a1, a2, a3, a4, a5, a6⟩ = rf at *
    go_wp2
    go_ret2
    refine ⟨by rw [HOE.out, HID.out]; rfl, ?_⟩
    rw [HOF.out]
    exact offered_same hr hbw
end Go.Proofs.YtpaakikgfojplaaGreat

