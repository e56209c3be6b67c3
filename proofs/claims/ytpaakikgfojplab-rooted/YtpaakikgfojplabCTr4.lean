import Derived.Test.YtpaakikgfojplabCM32
/-
  THE WALKS of the program's tree: deepest.
-/
namespace Go.Proofs.Ytpaakikgfojplab
open Go.RowKit Num Bk
set_option linter.unusedVariables false

theorem row_keepB {w w' : World} {base B n e size : Nat} {v : Value} {xs : List Value} (h : w.ownsRow base e size v n xs) (hb : Below B w w') (hB : ∀ k, v.ownBlock = some k → k < B) : w'.ownsRow base e size v n xs := by
  refine ⟨h.1, ?_⟩
  rcases h.2 with hn | ⟨g, cap, cur, hv, hb', hg, r⟩
  · exact Or.inl hn
  · refine Or.inr ⟨g, cap, cur, hv, hb', ?_, r⟩
    rw [hb.block g (hB g (by rw [hv]; rfl))]; exact hg

theorem ChAt.keepB {w w' : World} {x gk ck B : Nat} {pv : Value} {ps : List Nat} {p : Par} {acc : Int} {ns : List Nd} {past : List Nat} (h : ChAt w x gk ck pv ps p acc ns past) (hb : Below B w w') (hx : x < B) (hg : gk < B) (hp : ∀ k, pv.ownBlock = some k → k < B) : ChAt w' x gk ck pv ps p acc ns past :=
  ⟨(hb.block x hx).trans h.blk, row_keepB h.kep hb (by intro k e; simp [Value.ownBlock] at e; subst e; exact hg), row_keepB h.pst hb hp⟩
theorem ChAt.lts {w : World} {x gk ck : Nat} {pv : Value} {ps : List Nat} {p : Par} {acc : Int} {ns : List Nd} {past : List Nat} (h : ChAt w x gk ck pv ps p acc ns past) : x < w.heap.size ∧ gk < w.heap.size ∧ ∀ k, pv.ownBlock = some k → k < w.heap.size :=
  ⟨lt_of_block h.blk, own_lt h.kep, fun k e => (h.pst.lt k e).2⟩

theorem deepN_none {ns : List Nd} {c : Nd} (h : findN ns c.par = none) (m : Nat) : deepN ns m c = c := by
  cases m with
  | zero => rfl
  | succ m => unfold deepN; rw [h]
theorem deepN_some {ns : List Nd} {c q : Nd} (h : findN ns c.par = some q) (m : Nat) : deepN ns (m + 1) c = deepN ns m q := by
  conv => lhs; unfold deepN
  rw [h]

set_option maxHeartbeats 3200000 in
set_option maxRecDepth 1000000 in
theorem deepest_is (x gk ck : Nat) (pv : Value) {ps : List Nat} (p : Par) (acc : Int) (ns : List Nd) (past : List Nat) (w : World) (hr : ChAt w x gk ck pv ps p acc ns past) (hl : ns.length ≤ 100) (hl1 : 1 ≤ ns.length) (hl2 : past.length ≤ 1000000) (hd1 : 1 ≤ p.depth) (hd2 : p.depth ≤ 8) :
    Calls Try.prog 84 #[.pointer (some ⟨x, 5, none⟩)] w fun e w' => e = .returned (ndV (deepN ns p.depth.toNat (tipN ns))) ∧ Below w.heap.size w w' := by
  unfold ndV
  generalize hFV : deepN ns p.depth.toNat (tipN ns) = FV at *
  have HFV := Go.Proofs.Ytpaakikgfojplab.hid hFV
  clear hFV
  go_enter Try.func84, Try.ntmps84
  go_upto_region 1 with fail
  generalize hA : w.alloc (.cells #[.int .i64 0, .int .i64 0, .int .i64 0, .int .i64 0, .int .i64 0, .int .i64 0, .int .i64 0, .int .i64 0, .int .i64 0, .int .i64 0, .int .i64 0, .int .i64 0, .int .i64 0, .int .i64 0, .int .i64 0, .int .i64 0, .int .i64 0, .int .i64 0, .int .i64 0, .int .i64 0, .int .i64 0, .int .i64 0, .int .i64 0, .int .i64 0, .int .i64 0, .int .i64 0, .int .i64 0, .int .i64 0, .int .i64 0, .int .i64 0, .int .i64 0, .int .i64 0, .int .i64 0, .int .i64 0, .int .i64 0, .int .i64 0, .int .i64 0] 89) = A at *
  obtain ⟨hsA, hbA, hAR⟩ := below_of hA
  clear hA
  have hrA := hr.keep hbA
  have HAR : Hid (A.heap[w.heap.size]? = some (.cells (ndA zeroN) 89 (0, 0))) := hAR
  have HBA := Go.Proofs.Ytpaakikgfojplab.hid hbA
  have hxw : w.heap.size < A.heap.size := by omega
  clear hr hAR hbA hsA
  go_wp2_with fail
  refine (ttip_is x gk ck pv p acc ns past A hrA hl hl1).mono ?_
  rintro r w1 ⟨rfl, hb1⟩
  have hr1 := hrA.keep hb1
  have hs1 := hb1.size
  have HAR1 : Hid (w1.heap[w.heap.size]? = some (.cells (ndA zeroN) 89 (0, 0))) := (hb1.block _ hxw).trans HAR.out
  have HB1 := Go.Proofs.Ytpaakikgfojplab.hid (HBA.out.trans (hb1.mono (by omega)))
  clear hrA HAR HBA hb1
  unfold ndV
  generalize hT : tipN ns = T0 at *
  clear hT
  go_upto_region 2 with (refine wpList_store_row rfl 89 _ _ rfl w1.heap.size (ndA T0) rfl rfl 89 (ndA zeroN) (heap_alloc_new w1 _) (info_nodeA _) rfl (nd_one _) ?_)
  generalize hW : (w1.alloc (.cells #[.int .i64 0, .int .i64 0, .int .i64 0, .int .i64 0, .int .i64 0, .int .i64 0, .int .i64 0, .int .i64 0, .int .i64 0, .int .i64 0, .int .i64 0, .int .i64 0, .int .i64 0, .int .i64 0, .int .i64 0, .int .i64 0, .int .i64 0, .int .i64 0, .int .i64 0, .int .i64 0, .int .i64 0, .int .i64 0, .int .i64 0, .int .i64 0, .int .i64 0, .int .i64 0, .int .i64 0, .int .i64 0, .int .i64 0, .int .i64 0, .int .i64 0, .int .i64 0, .int .i64 0, .int .i64 0, .int .i64 0, .int .i64 0, .int .i64 0] 89)).setRow w1.heap.size (ndA T0) = W at *
  obtain ⟨hsW, hbW, hWR⟩ := row_new hW
  clear hW
  have hlt1 := hr1.lts
  generalize hB : w1.heap.size = B at *
  have hrW := hr1.keep (by rw [hB]; exact hbW)
  have hWA : W.heap[w.heap.size]? = some (.cells (ndA zeroN) 89 (0, 0)) := (hbW.block _ (by omega)).trans HAR1.out
  have HBW := Go.Proofs.Ytpaakikgfojplab.hid (HB1.out.trans (hbW.mono (by omega)))
  have hwB : w.heap.size < B := by omega
  clear hr1 HAR1 HB1 hbW hB
  obtain ⟨hxB, hgB, hpB⟩ := hlt1
  go_wp2
  go_loopw [4] (fun i wr => ∃ k : Nat, (k : Int) ≤ p.depth ∧ i = .int .i64 k ∧ ∃ c, Hid (deepN ns (p.depth.toNat - k) c = FV) ∧ wr.heap[B]? = some (.cells (ndA c) 89 (0, 0)) ∧ wr.heap[w.heap.size]? = some (.cells (ndA zeroN) 89 (0, 0)) ∧ Below B W wr) (fun i _ => p.depth.toNat - (intOf i).toNat)
  case atStart => exact ⟨0, by omega, rfl, T0, HFV, hWR, hWA, Below.refl _ _⟩
  case round =>
    obtain ⟨k, hk, rfl, c, HDN, hRB, hRZ, hbel⟩ := hrel
    have hBW : B < W.heap.size := lt_of_block hWR
    have hrr := hrW.keepB hbel hxB hgB hpB
    have c5 := cell_of_cells (j := 5) hrr.blk rfl
    by_cases hlt : (k : Int) < p.depth
    · have cp : wr.cell? ⟨B, 1, none⟩ = some (.int .i64 c.par) := cell_of_cells (j := 1) hRB rfl
      go_wp2_with fail
      refine (find_is x gk ck pv p acc ns past c.par wr hrr hl hl2).mono ?_
      rintro r w2 ⟨rfl, hb2⟩
      have hs2 := hb2.size
      have hR2 : w2.heap[B]? = _ := (hb2.block _ (lt_of_block hRB)).trans hRB
      have hZ2 : w2.heap[w.heap.size]? = _ := (hb2.block _ (lt_of_block hRZ)).trans hRZ
      have hb2' : Below B W w2 := hbel.trans (hb2.mono (Nat.le_of_lt (lt_of_block hRB)))
      have hBw2 : B < w2.heap.size := lt_of_block hR2
      clear hb2 hrr c5 cp hRB hRZ hbel
      unfold ndV
      cases hf : findN ns c.par with
      | none =>
        have hfv : FV = c := by rw [← HDN.out, deepN_none hf]
        have hfe : findErr ns past c.par ≠ 0 := by rw [findN_none hf]; split <;> omega
        have hfb : (findErr ns past c.par != 0) = true := by simp [hfe]
        clear HDN HFV hf
        generalize findErr ns past c.par = FE at *
        subst hfv
        simp only [Option.getD_none]
        go_upto_region 6 with (refine wpList_store_row rfl 89 _ _ rfl w2.heap.size (ndA zeroN) rfl rfl 89 (ndA zeroN) (heap_alloc_new w2 _) (info_nodeA _) rfl (nd_one _) ?_)
        generalize hV : (w2.alloc (.cells #[.int .i64 0, .int .i64 0, .int .i64 0, .int .i64 0, .int .i64 0, .int .i64 0, .int .i64 0, .int .i64 0, .int .i64 0, .int .i64 0, .int .i64 0, .int .i64 0, .int .i64 0, .int .i64 0, .int .i64 0, .int .i64 0, .int .i64 0, .int .i64 0, .int .i64 0, .int .i64 0, .int .i64 0, .int .i64 0, .int .i64 0, .int .i64 0, .int .i64 0, .int .i64 0, .int .i64 0, .int .i64 0, .int .i64 0, .int .i64 0, .int .i64 0, .int .i64 0, .int .i64 0, .int .i64 0, .int .i64 0, .int .i64 0, .int .i64 0] 89)).setRow w2.heap.size (ndA zeroN) = V at *
        obtain ⟨hsV, hbV, hVR⟩ := row_new hV
        have hRV : V.heap[B]? = _ := (hbV.block _ hBw2).trans hR2
        have hZV : V.heap[w.heap.size]? = _ := (hbV.block _ (lt_of_block hZ2)).trans hZ2
        have HBV := Go.Proofs.Ytpaakikgfojplab.hid (HBW.out.trans ((hb2'.trans (hbV.mono (Nat.le_of_lt hBw2))).mono (Nat.le_of_lt hwB)))
        clear hV hbV hVR hR2 hZ2 hb2'
        go_wp2_with (first | refine wpList_load_row rfl 89 _ rfl B rfl 89 (ndA FV) (0, 0) _ hRV Try.underlying89 rfl (info_nodeA _) ?_ | refine wpList_store_row rfl 89 _ _ rfl w.heap.size (ndA FV) rfl rfl 89 (ndA zeroN) hZV (info_nodeA _) rfl (nd_one _) ?_)
        refine bodyPost_ret (results_cell_row rfl _ _ w.heap.size 89 (ndA FV) (0, 0) _ rfl (setRow_heap _ _ _ _ _ _ hZV) Try.underlying89 rfl (info_nodeA _)) rfl ⟨rfl, Below.setRow HBV.out (Nat.le_refl _) _⟩
      | some q =>
        have HD2 : Hid (deepN ns (p.depth.toNat - (k + 1)) q = FV) := by
          show _ = _
          rw [← HDN.out, show p.depth.toNat - k = (p.depth.toNat - (k + 1)) + 1 by omega, deepN_some hf]
        rw [findN_some hf]
        clear HDN HFV hf
        simp only [Option.getD_some]
        go_upto_region 6 with (refine wpList_store_row rfl 89 _ _ rfl w2.heap.size (ndA q) rfl rfl 89 (ndA zeroN) (heap_alloc_new w2 _) (info_nodeA _) rfl (nd_one _) ?_)
        generalize hV : (w2.alloc (.cells #[.int .i64 0, .int .i64 0, .int .i64 0, .int .i64 0, .int .i64 0, .int .i64 0, .int .i64 0, .int .i64 0, .int .i64 0, .int .i64 0, .int .i64 0, .int .i64 0, .int .i64 0, .int .i64 0, .int .i64 0, .int .i64 0, .int .i64 0, .int .i64 0, .int .i64 0, .int .i64 0, .int .i64 0, .int .i64 0, .int .i64 0, .int .i64 0, .int .i64 0, .int .i64 0, .int .i64 0, .int .i64 0, .int .i64 0, .int .i64 0, .int .i64 0, .int .i64 0, .int .i64 0, .int .i64 0, .int .i64 0, .int .i64 0, .int .i64 0] 89)).setRow w2.heap.size (ndA q) = V at *
        obtain ⟨hsV, hbV, hVR⟩ := row_new hV
        have hRV : V.heap[B]? = _ := (hbV.block _ hBw2).trans hR2
        have hZV : V.heap[w.heap.size]? = _ := (hbV.block _ (lt_of_block hZ2)).trans hZ2
        have HBV := Go.Proofs.Ytpaakikgfojplab.hid (hb2'.trans (hbV.mono (Nat.le_of_lt hBw2)))
        have HZV := Go.Proofs.Ytpaakikgfojplab.hid hZV
        have HRV := Go.Proofs.Ytpaakikgfojplab.hid hRV
        clear hV hbV hR2 hZ2 hb2' hRV hZV
        generalize w2.heap.size = B2 at *
        go_wp2_with (first | refine wpList_load_row rfl 89 _ rfl B2 rfl 89 (ndA q) (0, 0) _ hVR Try.underlying89 rfl (info_nodeA _) ?_ | refine wpList_store_row rfl 89 _ _ rfl B (ndA q) rfl rfl 89 (ndA c) HRV.out (info_nodeA _) rfl (nd_one _) ?_)
        go_roundw
        case rel =>
          exact ⟨k + 1, by omega, by go_num, q, HD2, setRow_heap _ _ _ _ _ _ HRV.out, (setRow_other _ _ _ _ (by omega)).trans HZV.out, Below.setRow HBV.out (Nat.le_refl _) _⟩
        case measure => simp [intOf]; omega
    · have hkk : p.depth.toNat - k = 0 := by omega
      have hfv : FV = c := by rw [← HDN.out, hkk]; rfl
      have HRB := Go.Proofs.Ytpaakikgfojplab.hid hRB
      have HRZ := Go.Proofs.Ytpaakikgfojplab.hid hRZ
      have HBL := Go.Proofs.Ytpaakikgfojplab.hid (HBW.out.trans (hbel.mono (Nat.le_of_lt hwB)))
      clear HDN HFV hRB hRZ hbel hrr
      subst hfv
      go_wp2_with (first | refine wpList_load_row rfl 89 _ rfl B rfl 89 (ndA FV) (0, 0) _ HRB.out Try.underlying89 rfl (info_nodeA _) ?_ | refine wpList_store_row rfl 89 _ _ rfl w.heap.size (ndA FV) rfl rfl 89 (ndA zeroN) HRZ.out (info_nodeA _) rfl (nd_one _) ?_)
      refine bodyPost_ret (results_cell_row rfl _ _ w.heap.size 89 (ndA FV) (0, 0) _ rfl (setRow_heap _ _ _ _ _ _ HRZ.out) Try.underlying89 rfl (info_nodeA _)) rfl ⟨rfl, Below.setRow HBL.out (Nat.le_refl _) _⟩

end Go.Proofs.Ytpaakikgfojplab

