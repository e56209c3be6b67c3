import Derived.Test.YtpaakikgfojplaaGreatCLawKeep
/-
  THE WALK of the statements' keep.
-/
namespace Go.Proofs.YtpaakikgfojplaaGreat
open Go.RowKit Num Bk
set_option linter.unusedVariables false

theorem Tryz.info22 : (Tryz.prog.info? 22).map (fun i => (i.zero, i.size, i.bytes)) = some (some (.slice none 0 0), 1, 24) := by kernel_rfl

theorem one_slice (e : Ent) : ∀ u ∈ [entV e], u.oneCell' = true := by
  intro u hu
  simp at hu
  subst hu
  rfl

def appInt (args : Array Value) : Sem Value := Builtin.append_ #[22, 22] 22 args
theorem appInt_eq (args : Array Value) : Builtin.append_ #[22, 22] 22 args = appInt args := rfl
attribute [local go_sem ↓] appInt_eq

/-- What keep leaves. -/
def Kept1 (Rep : World → Nat → (Nat → Prop) → St → Prop) (w w' : World) (wd g : Nat) (x c : Bool → Nat) (F G : Bool → Nat → Prop) (s : Bool → St) (lv mv : Value) (L : List Ent) (e0 : Ent) : Prop :=
  ∃ lv' mv' M', WAt Rep w' wd x c F G s lv' mv' (L ++ [e0]) M' ∧ Fr (fun k => k = g ∨ k = wd ∨ lv.ownBlock = some k ∨ mv.ownBlock = some k) w w' ∧ (∀ k, lv'.ownBlock = some k → lv.ownBlock = some k ∨ w.heap.size ≤ k) ∧ (∀ k, mv'.ownBlock = some k → mv.ownBlock = some k ∨ w.heap.size ≤ k)

/-- Where the second loop stands. -/
structure KMid (Rep : World → Nat → (Nat → Prop) → St → Prop) (w wr : World) (wd g n : Nat) (x c : Bool → Nat) (F G : Bool → Nat → Prop) (s : Bool → St) (lv mv lv' mv' : Value) (L M : List Ent) (e0 : Ent) (Mt : List Ent) (t gc cc : Nat) : Prop where
  mid : WMid Rep wr wd x c F G s lv' mv' (L ++ [e0]) Mt
  len : Mt.length = M.length + t
  ms : MSlice wr gc (n + t) cc (-1000 - (L.length : Int))
  aL : ∀ (i : Nat) (e : Ent), (L ++ [e0])[i]? = some e → e.g = gc → e.n ≤ n + t ∧ i = L.length
  aM : ∀ (i : Nat) (e : Ent), Mt[i]? = some e → e.g = gc → e.n ≤ n + t ∧ M.length ≤ i
  fg : ∀ b k, F b k ∨ G b k → gc ≠ k
  gc0 : gc = g ∨ w.heap.size ≤ gc
  fr : Fr (fun k => k = g ∨ k = wd ∨ lv.ownBlock = some k ∨ mv.ownBlock = some k) w wr
  ol : ∀ k, lv'.ownBlock = some k → lv.ownBlock = some k ∨ w.heap.size ≤ k
  om : ∀ k, mv'.ownBlock = some k → mv.ownBlock = some k ∨ w.heap.size ≤ k

set_option maxHeartbeats 12800000 in
set_option maxRecDepth 1000000 in
theorem keep_any {Rep : World → Nat → (Nat → Prop) → St → Prop} (P : PSpec Rep) {w : World} {wd : Nat} {x c : Bool → Nat} {F G : Bool → Nat → Prop} {s : Bool → St} {lv mv : Value} {L M : List Ent} (h : WAt Rep w wd x c F G s lv mv L M) (g n cap : Nat) (l : List Nat) (hl : l.length = n)
    (hown : w.ownsRow 0 3 1 (.slice (some ⟨g, 0, none⟩) n cap) n (dcells l)) (hn : n ≤ 20001) (hgo : ∀ b k, F b k ∨ G b k → g ≠ k) (hge : ∀ e, e ∈ L ∨ e ∈ M → e.g ≠ g) (hL : L.length ≤ 1499999999999) :
    Calls Tryz.prog 37 #[.pointer (some ⟨wd, 0, none⟩), .slice (some ⟨g, 0, none⟩) n cap] w fun r w' => r = .returned (.tuple #[]) ∧ Kept1 Rep w w' wd g x c F G s lv mv L ⟨g, n, cap⟩ := by
  obtain ⟨i1, hj, hy0, hy1, hy2⟩ := info_parts Tryz.info22
  obtain ⟨al, capl, hlv, hlo⟩ := own_any h.ll
  obtain ⟨cur0, hg0, hcs0, hnc, hcm⟩ : ∃ cur : Array Value, w.heap[g]? = some (.cells cur 3 (0, 0)) ∧ cur.size = cap ∧ n ≤ cap ∧ cap ≤ maxLen := by
    rcases hown.2 with ⟨h', _⟩ | ⟨g', cap', arr, h', _, hg, h1, h2, hs, _⟩
    · simp at h'
    · simp only [Value.slice.injEq, Option.some.injEq, Addr.mk.injEq, and_true, true_and] at h'
      obtain ⟨rfl, rfl⟩ := h'
      exact ⟨arr, hg, by simpa using hs, h1, h2⟩
  have c4 : w.cell? ⟨wd, 4, none⟩ = some (.slice al L.length capl) := by rw [← hlv]; exact cell_of_cells (j := 4) h.blk rfl
  have HH := Go.Proofs.YtpaakikgfojplaaGreat.hid h
  have HGO := Go.Proofs.YtpaakikgfojplaaGreat.hid hgo
  have HGE := Go.Proofs.YtpaakikgfojplaaGreat.hid hge
  have HLV := Go.Proofs.YtpaakikgfojplaaGreat.hid hlv
  have hgw : g ≠ wd := block_ne hg0 h.blk (by decide)
  have HGL : Hid (lv.ownBlock ≠ some g ∧ mv.ownBlock ≠ some g) := by
    refine ⟨fun hk => ?_, fun hk => ?_⟩
    · obtain ⟨cur', hc'⟩ := row_type h.ll hk
      exact (block_ne hg0 hc' (by decide)) rfl
    · obtain ⟨cur', hc'⟩ := row_type h.mm hk
      exact (block_ne hg0 hc' (by decide)) rfl
  clear h hgo hge hown hl hlv hlo
  generalize hnL : L.length = nL at *
  generalize hmk : (-1000 - (nL : Int)) = m at *
  have HMK := Go.Proofs.YtpaakikgfojplaaGreat.hid hmk
  go_enter Tryz.func37, Tryz.ntmps37
  go_wp2
  clear hmk
  go_loopw [5] (fun i wr => ∃ (k : Nat) (cur : Array Value), k ≤ n ∧ i = .int .i64 k ∧ wr.heap[g]? = some (.cells cur 3 (0, 0)) ∧ Hid (cur.size = cap ∧ ∀ j, j < k → cur[j]? = some (.int .i64 m)) ∧ Fr (fun k => k = g) w wr) (fun i _ => n - (intOf i).toNat)
  case atStart => exact ⟨0, cur0, Nat.zero_le _, rfl, hg0, ⟨hcs0, fun j hj => by omega⟩, Fr.refl _ _⟩
  case round =>
    obtain ⟨k, cur, hk, rfl, hgr, HC, hfr⟩ := hrel
    by_cases hlt : k < n
    · have i1' : (0 : Int) ≤ (k : Int) := by omega
      have i2 : (k : Int) < (n : Int) := by omega
      obtain ⟨u0, hu0⟩ : ∃ u, cur[k]? = some u := ⟨cur[k]'(by have := HC.out.1; omega), Array.getElem?_eq_getElem (by have := HC.out.1; omega)⟩
      have x0 : wr.cell? ⟨g, k, none⟩ = some u0 := cell_of_cells hgr hu0
      have y0 := free_of_cells (j := k) hgr
      have HNX : Hid ((wr.setCell ⟨g, k, none⟩ (.int .i64 m)).heap[g]? = some (.cells (cur.setIfInBounds k (.int .i64 m)) 3 (0, 0))) := heap_setCell_same wr g k _ 3 _ hgr
      have HCN : Hid ((cur.setIfInBounds k (.int .i64 m)).size = cap ∧ ∀ j, j < k + 1 → (cur.setIfInBounds k (.int .i64 m))[j]? = some (.int .i64 m)) := ⟨by rw [Array.size_setIfInBounds]; exact HC.out.1, fun j hj => by
        rw [Array.getElem?_setIfInBounds]
        by_cases e : k = j
        · rw [if_pos e, if_pos (by have := HC.out.1; omega)]
        · rw [if_neg e]; exact HC.out.2 j (by omega)⟩
      have HFN : Hid (Fr (fun k => k = g) w (wr.setCell ⟨g, k, none⟩ (.int .i64 m))) := Fr.setCell (F := fun k => k = g) hfr (p := ⟨g, k, none⟩) (Or.inl rfl) _
      clear hgr hfr HC hu0
      go_wp2
      go_roundw
      case rel => exact ⟨k + 1, _, by omega, by go_num, HNX.out, HCN, HFN.out⟩
      case measure => simp [intOf]; omega
    · have hkn : k = n := by omega
      have hMS : MSlice wr g n cap m := ⟨hnc, hcm, cur, hgr, HC.out.1, fun j hj => HC.out.2 j (by omega)⟩
      have hW1 : WMid Rep wr wd x c F G s lv mv L M := HH.out.toWMid.fr P hfr (fun b k hk e => HGO.out b k hk e.symm) (fun e => hgw e.symm) (fun k hk e => HGL.out.1 (by rw [← e]; exact hk)) (fun k hk e => HGL.out.2 (by rw [← e]; exact hk)) (fun i e he hH => absurd hH (HGE.out e (Or.inl (List.mem_of_getElem? he)))) (fun i e he hH => absurd hH (HGE.out e (Or.inr (List.mem_of_getElem? he))))
      have hwl : wd < wr.heap.size := lt_of_block hW1.blk
      have hll := hW1.ll
      rw [hnL] at hll
      have hlvw : ∀ k, lv.ownBlock = some k → k ≠ wd := fun k hk => by
        obtain ⟨cur', hc'⟩ := row_type hW1.ll hk
        exact block_ne hc' hW1.blk (by decide)
      have k4 : wr.cell? ⟨wd, 4, none⟩ = some (.slice al nL capl) := by rw [← HLV.out]; exact cell_of_cells (j := 4) hW1.blk rfl
      have f4 := free_of_cells (j := 4) hW1.blk
      have HW1 := Go.Proofs.YtpaakikgfojplaaGreat.hid hW1
      have HMS := Go.Proofs.YtpaakikgfojplaaGreat.hid hMS
      have HF1 := Go.Proofs.YtpaakikgfojplaaGreat.hid hfr
      clear hgr HC hW1 hMS hfr c4
      rw [HLV.out] at hll
      have hown1 := hll
      go_upto_region 6 with (at_builtin; refine wpList_append_lies _ rfl (.tmp 28) (.tmp 30) 36 rfl 0 22 i1 (.slice none 0 0) 1 24 Tryz.underlying36 hj hy0 hy1 hy2 rfl (by omega) _ nL (L.map entV) rfl (hown1.alloc _) ⟨wr.heap.size, 0, none⟩ 1 1 [entV ⟨g, n, cap⟩] rfl rfl (cell_one_new _ _ _) (one_slice _) (by omega) (by unfold maxLen; omega) (by omega) (by omega) (wr.heap.size + 1) (by simp) ?_)
      intro g7 cap7 w7 hown7 hgrow7 hat7 hlt7
      have hsl : (Value.slice al nL capl).ownBlock = lv.ownBlock := by rw [← HLV.out]
      have k9 := (hgrow7.cell_far ⟨wd, 4, none⟩ (by simp; omega) (fun e => hlvw wd (by rw [← hsl]; exact e.symm) rfl)).trans ((World.cell?_alloc_past _ _ _ hwl).trans k4)
      have kf := (hgrow7.frozen_far ⟨wd, 4, none⟩ (by simp; omega) (fun e => hlvw wd (by rw [← hsl]; exact e.symm) rfl)).trans ((World.frozen?_alloc_past _ _ _ hwl).trans f4)
      rw [hsl] at hgrow7 hat7
      have hown7' : w7.ownsRow 0 22 1 (.slice (some ⟨g7, 0, none⟩) (L.length + 1) cap7) (L.length + 1) (L.map entV ++ [entV ⟨g, n, cap⟩]) := by rw [hnL]; exact hown7
      have hadd := HW1.out.addL P ⟨g, n, cap⟩ _ hgrow7 hown7' hat7 (by rw [hnL, HMK.out]; exact HMS.out.marked) (show n ≤ 1000000 by omega) HGO.out
      rw [hnL] at hadd
      have HAD := Go.Proofs.YtpaakikgfojplaaGreat.hid hadd
      have hgr7 : w7.heap[g]? = wr.heap[g]? := by
        have h1 := hgrow7.block g (by simp; have := lt_of_block HMS.out.2.2.choose_spec.1; omega) (fun e => HGL.out.1 e.symm)
        exact h1.trans (Below.heap_alloc _ _ _ (lt_of_block HMS.out.2.2.choose_spec.1))
      have HMS7 : Hid (MSlice (w7.setCell ⟨wd, 4, none⟩ (.slice (some ⟨g7, 0, none⟩) (nL + 1) cap7)) g n cap m) := by
        obtain ⟨a1, a2, cur', a3, a4, a5⟩ := HMS.out
        exact ⟨a1, a2, cur', ((Below.heap_setCell _ _ _ _ hgw).trans hgr7).trans a3, a4, a5⟩
      clear hadd hown7 hown7' hgrow7 hat7 hown1 hll k4 f4 hgr7 HMS
      go_upto_region 6 with fail
      generalize hlv' : (Value.slice (some ⟨g7, 0, none⟩) (nL + 1) cap7) = lv' at *
      generalize w7.setCell ⟨wd, 4, none⟩ lv' = V at *
      obtain ⟨⟨hW2, hf2⟩, ho2⟩ := HAD.out
      have hV := HF1.out.size
      have hV2 := hf2.size
      have hfV : Fr (fun k => k = g ∨ k = wd ∨ lv.ownBlock = some k ∨ mv.ownBlock = some k) w V := (HF1.out.mono (fun k _ h => Or.inl h)).trans' hf2 (fun i _ h => Or.inr (h.imp id Or.inl))
      have HK0 : Hid (KMid Rep w V wd g n x c F G s lv mv lv' mv L M ⟨g, n, cap⟩ M 0 g cap) := by
        refine ⟨hW2, rfl, by rw [hnL, HMK.out]; exact HMS7.out, ?_, fun i e he hg => absurd hg (HGE.out e (Or.inr (List.mem_of_getElem? he))), HGO.out, Or.inl rfl, hfV, fun k hk => ?_, fun k hk => Or.inl hk⟩
        · intro i e he hg
          by_cases hi : i < L.length
          · rw [List.getElem?_append_left hi] at he
            exact absurd hg (HGE.out e (Or.inl (List.mem_of_getElem? he)))
          · rw [List.getElem?_append_right (by omega)] at he
            have h0 : i - L.length = 0 := by
              have := (List.getElem?_eq_some_iff.1 he).1
              simp at this; omega
            rw [h0] at he
            simp at he
            subst he
            exact ⟨Nat.le_refl _, by omega⟩
        · rw [← hlv'] at hk
          simp [Value.ownBlock] at hk
          subst hk
          rcases ho2 with h | h
          · exact Or.inl h
          · exact Or.inr (by omega)
      have H3 := Go.Proofs.YtpaakikgfojplaaGreat.hid HH.out.three
      clear HAD hW2 hf2 ho2 hfV HW1 HF1 HMS7 HH k9 kf
      go_wp2
      go_loopw [6, 7] (fun v i wq => ∃ (t gc cc : Nat) (mv' : Value) (Mt : List Ent), t ≤ 3 ∧ i = .int .i64 t ∧ v = .slice (some ⟨gc, 0, none⟩) (n + t) cc ∧ Hid (KMid Rep w wq wd g n x c F G s lv mv lv' mv' L M ⟨g, n, cap⟩ Mt t gc cc)) (fun _ i _ => 3 - (intOf i).toNat)
      case atStart => exact ⟨0, g, cap, mv, M, Nat.zero_le _, rfl, rfl, HK0⟩
      case round =>
        clear HK0
        obtain ⟨t, gc, cc, mv', Mt, ht, rfl, rfl, HK⟩ := hrel
        by_cases hlt3 : t < 3
        · have hlt3' : (t : Int) < 3 := by omega
          have hsw := HK.out.fr.size
          obtain ⟨am, capm, hmv, _⟩ := own_any HK.out.mid.mm
          have HMV := Go.Proofs.YtpaakikgfojplaaGreat.hid hmv
          have hmsr := HK.out.ms
          rw [hnL, HMK.out] at hmsr
          have hgcl : gc < wr.heap.size := by
            obtain ⟨_, _, cur', h1, _⟩ := hmsr
            exact lt_of_block h1
          have hgcI : ∃ cur' : Array Value, wr.heap[gc]? = some (Obj.cells cur' 3 (0, 0)) := by
            obtain ⟨_, _, cur', h1, _⟩ := hmsr
            exact ⟨cur', h1⟩
          have hMSA : MSlice (wr.alloc (.cells #[.int .i64 m] 3)) gc (n + t) cc m := by
            obtain ⟨a1, a2, cur', a3, a4, a5⟩ := hmsr
            exact ⟨a1, a2, cur', (Below.heap_alloc _ _ _ hgcl).trans a3, a4, a5⟩
          obtain ⟨g', cap', w', hrun, hMS', hg', hfr', hmk'⟩ := append_mark (wr.alloc (.cells #[.int .i64 m] 3)) gc (n + t) cc m hMSA (by omega) ⟨wr.heap.size, 0, none⟩ (cell_of_cells (heap_alloc_new wr _) rfl)
          have hrun' : (appInt #[.slice (some ⟨gc, 0, none⟩) (n + t) cc, .slice (some ⟨wr.heap.size, 0, none⟩) 1 1]).run Tryz.prog (wr.alloc (.cells #[.int .i64 m] 3)) = .ok (.slice (some ⟨g', 0, none⟩) (n + t + 1) cap') w' := hrun
          have hgcw : gc ≠ wd := by
            obtain ⟨cur', h1⟩ := hgcI
            exact block_ne h1 HK.out.mid.blk (by decide)
          have hgcl' : lv'.ownBlock ≠ some gc := fun hk => by
            obtain ⟨cur', h1⟩ := hgcI
            obtain ⟨cur'', h2⟩ := row_type HK.out.mid.ll hk
            exact (block_ne h1 h2 (by decide)) rfl
          have hgcm' : mv'.ownBlock ≠ some gc := fun hk => by
            obtain ⟨cur', h1⟩ := hgcI
            obtain ⟨cur'', h2⟩ := row_type HK.out.mid.mm hk
            exact (block_ne h1 h2 (by decide)) rfl
          have hWA : WMid Rep (wr.alloc (.cells #[.int .i64 m] 3)) wd x c F G s lv' mv' (L ++ [⟨g, n, cap⟩]) Mt := HK.out.mid.fr P (H := fun _ => False) (Fr.of_below ((Below.refl wr.heap.size wr).alloc (Nat.le_refl _) _) _ (fun k h1 h2 => by omega)) (fun b k _ h => h) (fun h => h) (fun k _ h => h) (fun k _ h => h) (fun i e _ h => h.elim) (fun i e _ h => h.elim)
          have hW' : WMid Rep w' wd x c F G s lv' mv' (L ++ [⟨g, n, cap⟩]) Mt := hWA.fr P hfr' (fun b k hk e => HK.out.fg b k hk e.symm) (fun e => hgcw e.symm) (fun k hk e => hgcl' (by rw [← e]; exact hk)) (fun k hk e => hgcm' (by rw [← e]; exact hk))
            (fun i e he hH => by
              obtain ⟨b1, b2⟩ := HK.out.aL i e he hH
              obtain ⟨cur', h1, h2⟩ := hmk'
              rw [hH, b2, hnL, HMK.out]
              exact ⟨cur', h1, fun j hj => h2 j (by omega)⟩)
            (fun i e he hH => by
              obtain ⟨b1, b2⟩ := HK.out.aM i e he hH
              obtain ⟨cur', h1, h2⟩ := hmk'
              have h3 := H3.out
              have h4 := HK.out.len
              have h5 := (List.getElem?_eq_some_iff.1 he).1
              have h6 : i / 3 = nL := by omega
              rw [hH, h6, HMK.out]
              exact ⟨cur', h1, fun j hj => h2 j (by omega)⟩)
          have hs' := hfr'.size
          have hs'' : wr.heap.size + 1 ≤ w'.heap.size := by simpa using hs'
          have HW' := Go.Proofs.YtpaakikgfojplaaGreat.hid hW'
          have HMS' := Go.Proofs.YtpaakikgfojplaaGreat.hid hMS'
          have HFR' := Go.Proofs.YtpaakikgfojplaaGreat.hid hfr'
          have hwl' : wd < w'.heap.size := lt_of_block hW'.blk
          have hmm := hW'.mm
          have k5 : w'.cell? ⟨wd, 5, none⟩ = some (.slice am Mt.length capm) := by rw [← HMV.out]; exact cell_of_cells (j := 5) hW'.blk rfl
          have f5 := free_of_cells (j := 5) hW'.blk
          have hmvw : ∀ k, mv'.ownBlock = some k → k ≠ wd := fun k hk => by
            obtain ⟨cur', hc'⟩ := row_type hW'.mm hk
            exact block_ne hc' hW'.blk (by decide)
          rw [HMV.out] at hmm
          have hMl : Mt.length ≤ 4600000000000 := by have := HK.out.len; have := H3.out; omega
          clear hrun hmk' hMS' hfr' hWA hW' hMSA hmsr hmv
          go_upto_region 11 with fail
          go_upto_region 9 with (at_builtin; refine wpList_append_lies _ rfl (.tmp 47) (.tmp 49) 36 rfl 0 22 i1 (.slice none 0 0) 1 24 Tryz.underlying36 hj hy0 hy1 hy2 rfl (by omega) _ Mt.length (Mt.map entV) rfl (hmm.alloc _) ⟨w'.heap.size, 0, none⟩ 1 1 [entV ⟨g', n + t + 1, cap'⟩] rfl rfl (cell_one_new _ _ _) (one_slice _) (by omega) (by unfold maxLen; omega) (by omega) (by omega) (w'.heap.size + 1) (by simp) ?_)
          intro g8 cap8 w8 hown8 hgrow8 hat8 hlt8
          have hsl : (Value.slice am Mt.length capm).ownBlock = mv'.ownBlock := by rw [← HMV.out]
          have k9 := (hgrow8.cell_far ⟨wd, 5, none⟩ (by simp; omega) (fun e => hmvw wd (by rw [← hsl]; exact e.symm) rfl)).trans ((World.cell?_alloc_past _ _ _ hwl').trans k5)
          have kf := (hgrow8.frozen_far ⟨wd, 5, none⟩ (by simp; omega) (fun e => hmvw wd (by rw [← hsl]; exact e.symm) rfl)).trans ((World.frozen?_alloc_past _ _ _ hwl').trans f5)
          rw [hsl] at hgrow8 hat8
          have hfgn : ∀ b k, F b k ∨ G b k → g' ≠ k := fun b k hk e => by
            rcases hg' with h' | h'
            · exact HK.out.fg b k hk (h'.symm.trans e)
            · have h1 : k < wr.heap.size := hk.elim (P.lt (HK.out.mid.side b).p k) ((HK.out.mid.side b).r.lt k)
              rw [h'] at e
              simp at e
              omega
          have hadd := HW'.out.addM P ⟨g', n + t + 1, cap'⟩ _ hgrow8 hown8 hat8 (by
            have h3 := H3.out
            have h4 := HK.out.len
            have h6 : Mt.length / 3 = nL := by omega
            rw [h6, HMK.out]
            exact HMS'.out.marked) (show n + t + 1 ≤ 1000000 by omega) hfgn
          have HAD := Go.Proofs.YtpaakikgfojplaaGreat.hid hadd
          have hgl' : g' < w'.heap.size := lt_of_block HMS'.out.2.2.choose_spec.1
          have hgI' : ∃ cur' : Array Value, w'.heap[g']? = some (Obj.cells cur' 3 (0, 0)) := ⟨_, HMS'.out.2.2.choose_spec.1⟩
          have hgm8 : mv'.ownBlock ≠ some g' := fun hk => by
            obtain ⟨cur', h1⟩ := hgI'
            obtain ⟨cur'', h2⟩ := row_type HW'.out.mm hk
            exact (block_ne h1 h2 (by decide)) rfl
          have hgw8 : g' ≠ wd := by
            obtain ⟨cur', h1⟩ := hgI'
            exact block_ne h1 HW'.out.blk (by decide)
          have HMS8 : Hid (MSlice (w8.setCell ⟨wd, 5, none⟩ (.slice (some ⟨g8, 0, none⟩) (Mt.length + 1) cap8)) g' (n + t + 1) cap' m) := by
            obtain ⟨a1, a2, cur', a3, a4, a5⟩ := HMS'.out
            have h1 := hgrow8.block g' (by simp; omega) (fun e => hgm8 e.symm)
            exact ⟨a1, a2, cur', ((Below.heap_setCell _ _ _ _ hgw8).trans (h1.trans (Below.heap_alloc _ _ _ hgl'))).trans a3, a4, a5⟩
          clear hadd hown8 hgrow8 hat8 hmm k5 f5 hrun'
          go_upto_region 9 with fail
          generalize hmv8 : (Value.slice (some ⟨g8, 0, none⟩) (Mt.length + 1) cap8) = mv8 at *
          generalize w8.setCell ⟨wd, 5, none⟩ mv8 = V8 at *
          obtain ⟨⟨hW8, hf8⟩, ho8⟩ := HAD.out
          have HK8 : Hid (KMid Rep w V8 wd g n x c F G s lv mv lv' mv8 L M ⟨g, n, cap⟩ (Mt ++ [⟨g', n + t + 1, cap'⟩]) (t + 1) g' cap') := by
            have hltE : ∀ e, e ∈ L ++ [⟨g, n, cap⟩] ∨ e ∈ Mt → e.g < wr.heap.size := fun e he => (HK.out.mid.lt e he).1
            refine ⟨hW8, by rw [List.length_append, HK.out.len]; simp; omega, by rw [hnL, HMK.out]; exact HMS8.out, ?_, ?_, hfgn, ?_, ?_, HK.out.ol, ?_⟩
            · intro i e he hg
              rcases hg' with h' | h'
              · obtain ⟨b1, b2⟩ := HK.out.aL i e he (hg.trans h')
                exact ⟨by omega, b2⟩
              · have := hltE e (Or.inl (List.mem_of_getElem? he))
                rw [h'] at hg
                simp at hg
                omega
            · intro i e he hg
              by_cases hi : i < Mt.length
              · rw [List.getElem?_append_left hi] at he
                rcases hg' with h' | h'
                · obtain ⟨b1, b2⟩ := HK.out.aM i e he (hg.trans h')
                  exact ⟨by omega, b2⟩
                · have := hltE e (Or.inr (List.mem_of_getElem? he))
                  rw [h'] at hg
                  simp at hg
                  omega
              · rw [List.getElem?_append_right (by omega)] at he
                have h0 : i - Mt.length = 0 := by
                  have := (List.getElem?_eq_some_iff.1 he).1
                  simp at this; omega
                rw [h0] at he
                simp at he
                subst he
                have := HK.out.len
                exact ⟨by show n + t + 1 ≤ n + (t + 1); omega, by omega⟩
            · rcases hg' with h' | h'
              · rw [h']; exact HK.out.gc0
              · right
                rw [h']
                simp
                omega
            · have f1 : Fr (fun k => k = g ∨ k = wd ∨ lv.ownBlock = some k ∨ mv.ownBlock = some k) w (wr.alloc (.cells #[.int .i64 m] 3)) := HK.out.fr.trans' (Fr.of_below ((Below.refl wr.heap.size wr).alloc (Nat.le_refl _) _) (fun _ => False) (fun k h1 h2 => by omega)) (fun i _ h => h.elim)
              have f2 := f1.trans' HFR'.out (fun i hi h => by
                rcases HK.out.gc0 with h' | h'
                · exact Or.inl (h.trans h')
                · omega)
              exact f2.trans' hf8 (fun i hi h => by
                rcases h with h | h
                · exact Or.inr (Or.inl h)
                · rcases HK.out.om i h with h' | h'
                  · exact Or.inr (Or.inr (Or.inr h'))
                  · omega)
            · intro k hk
              rw [← hmv8] at hk
              simp [Value.ownBlock] at hk
              subst hk
              rcases ho8 with h | h
              · exact HK.out.om _ h
              · exact Or.inr (by omega)
          clear HAD hW8 hf8 ho8 HK HMS8 HMS' HFR' HW' k9 kf
          go_wp2
          go_roundw
          case rel => exact ⟨t + 1, g', cap', mv8, _, by omega, by go_num, rfl, HK8⟩
          case measure => simp [intOf]; omega
        · have ht3 : t = 3 := by omega
          have HFIN : Hid (Kept1 Rep w wr wd g x c F G s lv mv L ⟨g, n, cap⟩) := ⟨lv', mv', Mt, ⟨HK.out.mid, by have h1 := HK.out.len; have h2 := H3.out; rw [List.length_append, h1, h2, ht3]; simp; omega, by rw [List.length_append]; simp; omega⟩, HK.out.fr, HK.out.ol, HK.out.om⟩
          clear HK
          go_wp2
          go_end0
          exact ⟨rfl, HFIN.out⟩

end Go.Proofs.YtpaakikgfojplaaGreat

