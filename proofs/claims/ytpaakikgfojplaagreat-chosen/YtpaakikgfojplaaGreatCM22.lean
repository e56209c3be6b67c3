import Derived.Test.YtpaakikgfojplaaGreatCM21
/-
  THE WALKS of the program's tree: deepest.
-/
namespace Go.Proofs.YtpaakikgfojplaaGreat
open Go.RowKit Num Bk
set_option linter.unusedVariables false

theorem row_keepB {w w' : World} {base B n e size : Nat} {v : Value} {xs : List Value} (h : w.ownsRow base e size v n xs) (hb : Below B w w') (hB : ∀ k, v.ownBlock = some k → k < B) : w'.ownsRow base e size v n xs := by
  refine ⟨h.1, ?_⟩
  rcases h.2 with hn | ⟨g, cap, cur, hv, hb', hg, r⟩
  · exact Or.inl hn
  · refine Or.inr ⟨g, cap, cur, hv, hb', ?_, r⟩
    rw [hb.block g (hB g (by rw [hv]; rfl))]; exact hg

theorem ChAt.keepB {w w' : World} {x gk ck B : Nat} {pv : Value} {ps : List Nat} {p : Par} {acc : Int} {ns : List Nd} {past : List Nat} (h : ChAt w x gk ck pv ps p acc ns past) (hb : Below B w w') (hx : x < B) (hg : gk < B) (hp : ∀ k, pv.ownBlock = some k → k < B) : ChAt w' x gk ck pv ps p acc ns past :=
  ⟨(hb.block x hx).trans h.blk, row_keepB h.kep hb (by intro k e; simp [Value.ownBlock] at e; subst e; exact hg), row_keepB h.pst hb hp⟩
theorem ChAt.lts {w : World} {x gk ck : Nat} {pv : Value} {ps : List Nat} {p : Par} {acc : Int} {ns : List Nd} {past : List Nat} (h : ChAt w x gk ck pv ps p acc ns past) : x < w.heap.size ∧ gk < w.heap.size ∧ ∀ k, pv.ownBlock = some k → k < w.heap.size :=
  ⟨lt_of_block h.blk, own_lt h.kep, fun k e => (h.pst.lt k e).2⟩

theorem deepN_none {ns : List Nd} {c : Nd} (h : findN ns c.par = none) (m : Nat) : deepN ns m c = c := by
  cases m with
  | zero => rfl
  | succ m => unfold deepN; rw [h]
theorem deepN_some {ns : List Nd} {c q : Nd} (h : findN ns c.par = some q) (m : Nat) : deepN ns (m + 1) c = deepN ns m q := by
  conv => lhs; unfold deepN
  rw [h]

set_option maxHeartbeats 3200000 in
set_option maxRecDepth 1000000 in
theorem deepest_is (x gk ck : Nat) (pv : Value) {ps : List Nat} (p : Par) (acc : Int) (ns : List Nd) (past : List Nat) (w : World) (hr : ChAt w x gk ck pv ps p acc ns past) (hl : ns.length ≤ 100) (hl1 : 1 ≤ ns.length) (hl2 : past.length ≤ 1000000) (hd1 : 1 ≤ p.depth) (hd2 : p.depth ≤ 8) :
    Calls Tryz.prog 101 #[.pointer (some ⟨x, 5, none⟩)] w fun e w' => e = .returned (ndV (deepN ns p.depth.toNat (tipN ns))) ∧ Below w.heap.size w w' := by
  unfold ndV
  generalize hFV : deepN ns p.depth.toNat (tipN ns) = FV at *
  have HFV := Go.Proofs.YtpaakikgfojplaaGreat.hid hFV
  clear hFV
  go_enter Tryz.func101, Tryz.ntmps101
  go_upto_region 1 with fail
  generalize hA : w.alloc (.cells #[.int .i64 0, .int .i64 0, .int .i64 0, .int .i64 0, .int .i64 0, .int .i64 0, .int .i64 0, .int .i64 0, .int .i64 0, .int .i64 0, .int .i64 0, .int .i64 0, .int .i64 0, .int .i64 0, .int .i64 0, .int .i64 0, .int .i64 0, .int .i64 0, .int .i64 0, .int .i64 0, .int .i64 0, .int .i64 0, .int .i64 0, .int .i64 0, .int .i64 0, .int .i64 0, .int .i64 0, .int .i64 0, .int .i64 0, .int .i64 0, .int .i64 0, .int .i64 0, .int .i64 0, .int .i64 0, .int .i64 0, .int .i64 0, .int .i64 0] 95) = A at *
  obtain ⟨hsA, hbA, hAR⟩ := below_of hA
  clear hA
  have hrA := hr.keep hbA
  have HAR : Hid (A.heap[w.heap.size]? = some (.cells (ndA zeroN) 95 (0, 0))) := hAR
  have HBA := Go.Proofs.YtpaakikgfojplaaGreat.hid hbA
  have hxw : w.heap.size < A.heap.size := by omega
  clear hr hAR hbA hsA
  go_wp2_with fail
  refine (ttip_is x gk ck pv p acc ns past A hrA hl hl1).mono ?_
  rintro r w1 ⟨rfl, hb1⟩
  have hr1 := hrA.keep hb1
  have hs1 := hb1.size
  have HAR1 : Hid (w1.heap[w.heap.size]? = some (.cells (ndA zeroN) 95 (0, 0))) := (hb1.block _ hxw).trans HAR.out
  have HB1 := Go.Proofs.YtpaakikgfojplaaGreat.hid (HBA.out.trans (hb1.mono (by omega)))
  clear hrA HAR HBA hb1
  unfold ndV
  generalize hT : tipN ns = T0 at *
  clear hT
  go_upto_region 2 with (refine wpList_store_row rfl 95 _ _ rfl w1.heap.size (ndA T0) rfl rfl 95 (ndA zeroN) (heap_alloc_new w1 _) (info_nodeA _) rfl (nd_one _) ?_)
  generalize hW : (w1.alloc (.cells #[.int .i64 0, .int .i64 0, .int .i64 0, .int .i64 0, .int .i64 0, .int .i64 0, .int .i64 0, .int .i64 0, .int .i64 0, .int .i64 0, .int .i64 0, .int .i64 0, .int .i64 0, .int .i64 0, .int .i64 0, .int .i64 0, .int .i64 0, .int .i64 0, .int .i64 0, .int .i64 0, .int .i64 0, .int .i64 0, .int .i64 0, .int .i64 0, .int .i64 0, .int .i64 0, .int .i64 0, .int .i64 0, .int .i64 0, .int .i64 0, .int .i64 0, .int .i64 0, .int .i64 0, .int .i64 0, .int .i64 0, .int .i64 0, .int .i64 0] 95)).setRow w1.heap.size (ndA T0) = W at *
  obtain ⟨hsW, hbW, hWR⟩ := row_new hW
  clear hW
  have hlt1 := hr1.lts
  generalize hB : w1.heap.size = B at *
  have hrW := hr1.keep (by rw [hB]; exact hbW)
  have hWA : W.heap[w.heap.size]? = some (.cells (ndA zeroN) 95 (0, 0)) := (hbW.block _ (by omega)).trans HAR1.out
  have HBW := Go.Proofs.YtpaakikgfojplaaGreat.hid (HB1.out.trans (hbW.mono (by omega)))
  have hwB : w.heap.size < B := by omega
  clear hr1 HAR1 HB1 hbW hB
  obtain ⟨hxB, hgB, hpB⟩ := hlt1
  go_wp2
  go_loopw [4] (fun i wr => ∃ k : Nat, (k : Int) ≤ p.depth ∧ i = .int .i64 k ∧ ∃ c, Hid (deepN ns (p.depth.toNat - k) c = FV) ∧ wr.heap[B]? = some (.cells (ndA c) 95 (0, 0)) ∧ wr.heap[w.heap.size]? = some (.cells (ndA zeroN) 95 (0, 0)) ∧ Below B W wr) (fun i _ => p.depth.toNat - (intOf i).toNat)
  case atStart => exact ⟨0, by omega, rfl, T0, HFV, hWR, hWA, Below.refl _ _⟩
  case round =>
    obtain ⟨k, hk, rfl, c, HDN, hRB, hRZ, hbel⟩ := hrel
    have hBW : B < W.heap.size := lt_of_block hWR
    have hrr := hrW.keepB hbel hxB hgB hpB
    have c5 := cell_of_cells (j := 5) hrr.blk rfl
    by_cases hlt : (k : Int) < p.depth
    · have cp : wr.cell? ⟨B, 1, none⟩ = some (.int .i64 c.par) := cell_of_cells (j := 1) hRB rfl
      go_wp2_with fail
      refine (find_is x gk ck pv p acc ns past c.par wr hrr hl hl2).mono ?_
      rintro r w2 ⟨rfl, hb2⟩
      have hs2 := hb2.size
      have hR2 : w2.heap[B]? = _ := (hb2.block _ (lt_of_block hRB)).trans hRB
      have hZ2 : w2.heap[w.heap.size]? = _ := (hb2.block _ (lt_of_block hRZ)).trans hRZ
      have hb2' : Below B W w2 := hbel.trans (hb2.mono (Nat.le_of_lt (lt_of_block hRB)))
      have hBw2 : B < w2.heap.size := lt_of_block hR2
      clear hb2 hrr c5 cp hRB hRZ hbel
      unfold ndV
      cases hf : findN ns c.par with
      | none =>
        have hfv : FV = c := by rw [← HDN.out, deepN_none hf]
        have hfe : findErr ns past c.par ≠ 0 := by rw [findN_none hf]; split <;> omega
        have hfb : (findErr ns past c.par != 0) = true := by simp [hfe]
        clear HDN HFV hf
        generalize findErr ns past c.par = FE at *
        subst hfv
        simp only [Option.getD_none]
        go_upto_region 6 with (refine wpList_store_row rfl 95 _ _ rfl w2.heap.size (ndA zeroN) rfl rfl 95 (ndA zeroN) (heap_alloc_new w2 _) (info_nodeA _) rfl (nd_one _) ?_)
        generalize hV : (w2.alloc (.cells #[.int .i64 0, .int .i64 0, .int .i64 0, .int .i64 0, .int .i64 0, .int .i64 0, .int .i64 0, .int .i64 0, .int .i64 0, .int .i64 0, .int .i64 0, .int .i64 0, .int .i64 0, .int .i64 0, .int .i64 0, .int .i64 0, .int .i64 0, .int .i64 0, .int .i64 0, .int .i64 0, .int .i64 0, .int .i64 0, .int .i64 0, .int .i64 0, .int .i64 0, .int .i64 0, .int .i64 0, .int .i64 0, .int .i64 0, .int .i64 0, .int .i64 0, .int .i64 0, .int .i64 0, .int .i64 0, .int .i64 0, .int .i64 0, .int .i64 0] 95)).setRow w2.heap.size (ndA zeroN) = V at *
        obtain ⟨hsV, hbV, hVR⟩ := row_new hV
        have hRV : V.heap[B]? = _ := (hbV.block _ hBw2).trans hR2
        have hZV : V.heap[w.heap.size]? = _ := (hbV.block _ (lt_of_block hZ2)).trans hZ2
        have HBV := Go.Proofs.YtpaakikgfojplaaGreat.hid (HBW.out.trans ((hb2'.trans (hbV.mono (Nat.le_of_lt hBw2))).mono (Nat.le_of_lt hwB)))
        clear hV hbV hVR hR2 hZ2 hb2'
        go_wp2_with (first | refine wpList_load_row rfl 95 _ rfl B rfl 95 (ndA FV) (0, 0) _ hRV Tryz.underlying95 rfl (info_nodeA _) ?_ | refine wpList_store_row rfl 95 _ _ rfl w.heap.size (ndA FV) rfl rfl 95 (ndA zeroN) hZV (info_nodeA _) rfl (nd_one _) ?_)
        refine bodyPost_ret (results_cell_row rfl _ _ w.heap.size 95 (ndA FV) (0, 0) _ rfl (setRow_heap _ _ _ _ _ _ hZV) Tryz.underlying95 rfl (info_nodeA _)) rfl ⟨rfl, Below.setRow HBV.out (Nat.le_refl _) _⟩
      | some q =>
        have HD2 : Hid (deepN ns (p.depth.toNat - (k + 1)) q = FV) := by
          show _ = _
          rw [← HDN.out, show p.depth.toNat - k = (p.depth.toNat - (k + 1)) + 1 by omega, deepN_some hf]
        rw [findN_some hf]
        clear HDN HFV hf
        simp only [Option.getD_some]
        go_upto_region 6 with (refine wpList_store_row rfl 95 _ _ rfl w2.heap.size (ndA q) rfl rfl 95 (ndA zeroN) (heap_alloc_new w2 _) (info_nodeA _) rfl (nd_one _) ?_)
        generalize hV : (w2.alloc (.cells #[.int .i64 0, .int .i64 0, .int .i64 0, .int .i64 0, .int .i64 0, .int .i64 0, .int .i64 0, .int .i64 0, .int .i64 0, .int .i64 0, .int .i64 0, .int .i64 0, .int .i64 0, .int .i64 0, .int .i64 0, .int .i64 0, .int .i64 0, .int .i64 0, .int .i64 0, .int .i64 0, .int .i64 0, .int .i64 0, .int .i64 0, .int .i64 0, .int .i64 0, .int .i64 0, .int .i64 0, .int .i64 0, .int .i64 0, .int .i64 0, .int .i64 0, .int .i64 0, .int .i64 0, .int .i64 0, .int .i64 0, .int .i64 0, .int .i64 0] 95)).setRow w2.heap.size (ndA q) = V at *
        obtain ⟨hsV, hbV, hVR⟩ := row_new hV
        have hRV : V.heap[B]? = _ := (hbV.block _ hBw2).trans hR2
        have hZV : V.heap[w.heap.size]? = _ := (hbV.block _ (lt_of_block hZ2)).trans hZ2
        have HBV := Go.Proofs.YtpaakikgfojplaaGreat.hid (hb2'.trans (hbV.mono (Nat.le_of_lt hBw2)))
        have HZV := Go.Proofs.YtpaakikgfojplaaGreat.hid hZV
        have HRV := Go.Proofs.YtpaakikgfojplaaGreat.hid hRV
        clear hV hbV hR2 hZ2 hb2' hRV hZV
        generalize w2.heap.size = B2 at *
        go_wp2_with (first | refine wpList_load_row rfl 95 _ rfl B2 rfl 95 (ndA q) (0, 0) _ hVR Tryz.underlying95 rfl (info_nodeA _) ?_ | refine wpList_store_row rfl 95 _ _ rfl B (ndA q) rfl rfl 95 (ndA c) HRV.out (info_nodeA _) rfl (nd_one _) ?_)
        go_roundw
        case rel =>
          exact ⟨k + 1, by omega, by go_num, q, HD2, setRow_heap _ _ _ _ _ _ HRV.out, (setRow_other _ _ _ _ (by omega)).trans HZV.out, Below.setRow HBV.out (Nat.le_refl _) _⟩
        case measure => simp [intOf]; omega
    · have hkk : p.depth.toNat - k = 0 := by omega
      have hfv : FV = c := by rw [← HDN.out, hkk]; rfl
      have HRB := Go.Proofs.YtpaakikgfojplaaGreat.hid hRB
      have HRZ := Go.Proofs.YtpaakikgfojplaaGreat.hid hRZ
      have HBL := Go.Proofs.YtpaakikgfojplaaGreat.hid (HBW.out.trans (hbel.mono (Nat.le_of_lt hwB)))
      clear HDN HFV hRB hRZ hbel hrr
      subst hfv
      go_wp2_with (first | refine wpList_load_row rfl 95 _ rfl B rfl 95 (ndA FV) (0, 0) _ HRB.out Tryz.underlying95 rfl (info_nodeA _) ?_ | refine wpList_store_row rfl 95 _ _ rfl w.heap.size (ndA FV) rfl rfl 95 (ndA zeroN) HRZ.out (info_nodeA _) rfl (nd_one _) ?_)
      refine bodyPost_ret (results_cell_row rfl _ _ w.heap.size 95 (ndA FV) (0, 0) _ rfl (setRow_heap _ _ _ _ _ _ HRZ.out) Tryz.underlying95 rfl (info_nodeA _)) rfl ⟨rfl, Below.setRow HBL.out (Nat.le_refl _) _⟩

end Go.Proofs.YtpaakikgfojplaaGreat

/-
  THE WALKS of the program's tree: keptWith.
-/
namespace Go.Proofs.YtpaakikgfojplaaGreat
open Go.RowKit Num Bk
set_option linter.unusedVariables false

theorem Tryz.info95 : (Tryz.prog.info? 95).map (fun i => (i.zero, i.size, i.bytes)) = some (some (.agg (ndA zeroN)), 37, 296) := by kernel_rfl

theorem fold_nd (f : Nd) : Array.foldl (fun (cs : Array Value) (x : Value × Nat) => cs.setIfInBounds x.snd x.fst) #[.int .i64 0, .int .i64 0, .int .i64 0, .int .i64 0, .int .i64 0, .int .i64 0, .int .i64 0, .int .i64 0, .int .i64 0, .int .i64 0, .int .i64 0, .int .i64 0, .int .i64 0, .int .i64 0, .int .i64 0, .int .i64 0, .int .i64 0, .int .i64 0, .int .i64 0, .int .i64 0, .int .i64 0, .int .i64 0, .int .i64 0, .int .i64 0, .int .i64 0, .int .i64 0, .int .i64 0, .int .i64 0, .int .i64 0, .int .i64 0, .int .i64 0, .int .i64 0, .int .i64 0, .int .i64 0, .int .i64 0, .int .i64 0, .int .i64 0] (ndA f).zipIdx 0 37 = ndA f := by kernel_rfl

theorem wpList_load_nd {ops : Array Oper} {rest : List Oper} {op : Oper} {a : Act} {w : World} {Q : Exit → Act → World → Prop} (hgd : op.guard = none) (x : Operand) (ho : op.op = .load 95 x)
    (b o : Nat) (hx : a.eval x = .pointer (some ⟨b, o, none⟩)) (n : Nd) (hc : w.rangeAt b o (ndC n)) (h : wpList Tryz.prog ops Q rest (a.put op.dst (.agg (ndA n))) w) : wpList Tryz.prog ops Q (op :: rest) a w :=
  wpList_load_mid hgd 95 x ho b o hx (ndC n) _ hc Tryz.underlying95 rfl (info_node n) h

def keptTo (l : List Nd) (f : Nd) (k : Nat) : List Nd := (l.take k).foldl (fun left n => if amongN left n.par then left ++ [n] else left) [f]
theorem keptTo_step (l : List Nd) (f : Nd) (k : Nat) (h : k < l.length) : keptTo l f (k + 1) = if amongN (keptTo l f k) (l.getD k zeroN).par then keptTo l f k ++ [l.getD k zeroN] else keptTo l f k := by
  have e : l.take (k + 1) = l.take k ++ [l.getD k zeroN] := by
    rw [List.take_succ_eq_append_getElem h]
    simp [List.getD, h]
  unfold keptTo
  rw [e, List.foldl_append]
  rfl
theorem keptTo_end (l : List Nd) (f : Nd) : keptTo l f l.length = keptN l f := by unfold keptTo keptN; rw [List.take_length]

set_option maxHeartbeats 3200000 in
set_option maxRecDepth 1000000 in
theorem keptWith_is (x gk ck : Nat) (pv : Value) {ps : List Nat} (p : Par) (acc : Int) (ns : List Nd) (past : List Nat) (f : Nd) (w : World) (hr : ChAt w x gk ck pv ps p acc ns past) (hl : ns.length ≤ 90) :
    Calls Tryz.prog 102 #[.pointer (some ⟨x, 5, none⟩), ndV f] w fun e w' => ∃ g cap, e = .returned (.slice (some ⟨g, 0, none⟩) (keptN ns f).length cap) ∧ w'.ownsRow w.heap.size 95 37 (.slice (some ⟨g, 0, none⟩) (keptN ns f).length cap) (keptN ns f).length (nsC (keptN ns f)) ∧ Below w.heap.size w w' := by
  obtain ⟨i1, hj, hy0, hy1, hy2⟩ := info_parts Tryz.info95
  unfold ndV
  generalize hFV : keptN ns f = FV at *
  have HFV := Go.Proofs.YtpaakikgfojplaaGreat.hid hFV
  clear hFV
  go_enter Tryz.func102, Tryz.ntmps102
  go_upto_region 1 with fail
  generalize hA : w.alloc (.cells (ndA f) 95) = A at *
  obtain ⟨hsA, hbA, hAR⟩ := below_of hA
  clear hA
  have hrA := hr.keep hbA
  have HBA := Go.Proofs.YtpaakikgfojplaaGreat.hid hbA
  have hxw : w.heap.size < A.heap.size := by omega
  clear hr hbA hsA
  have hszf : (ndA f).size = 37 := rfl
  go_upto_region 2 with (refine wpList_load_row rfl 95 _ rfl w.heap.size rfl 95 (ndA f) (0, 0) _ hAR Tryz.underlying95 rfl (info_nodeA _) ?_)
  rw [fold_nd]
  generalize hW : A.alloc (.cells (ndA f) 95) = W at *
  obtain ⟨hsW, hbW, hWR⟩ := below_of hW
  have hrW := hrA.keep hbW
  have hown : W.ownsRow A.heap.size 95 37 (.slice (some ⟨A.heap.size, 0, none⟩) (keptTo ns f 0).length 1) (keptTo ns f 0).length (nsC (keptTo ns f 0)) := by
    rw [← hW]
    have := World.ownsRow_lit (base := A.heap.size) (e := 95) (size := 37) A (ndA f) 1 (Nat.le_refl _) (by unfold maxLen; omega) rfl
    exact this
  clear hW
  have HBW := Go.Proofs.YtpaakikgfojplaaGreat.hid (HBA.out.trans (hbW.mono (by omega)))
  have hAW : A.heap.size ≤ W.heap.size := by omega
  generalize hBA : A.heap.size = BA at *
  have hxA := hrA.lts
  rw [hBA] at hxA
  clear hrA HBA hbW hWR hsW hAR hszf hBA
  go_wp2
  go_loopw [5, 6] (fun kp i wr => ∃ (k : Nat) (os : List Nd) (g cap : Nat), k ≤ ns.length ∧ i = .int .i64 k ∧ os.length ≤ k + 1 ∧ Hid (os = keptTo ns f k) ∧ kp = .slice (some ⟨g, 0, none⟩) os.length cap ∧ wr.ownsRow BA 95 37 (.slice (some ⟨g, 0, none⟩) os.length cap) os.length (nsC os) ∧ Below BA W wr) (fun _ i _ => ns.length - (intOf i).toNat)
  case atStart => exact ⟨0, keptTo ns f 0, _, 1, Nat.zero_le _, rfl, Nat.le_refl _, rfl, rfl, hown, Below.refl _ _⟩
  case round =>
    obtain ⟨k, os, g, cap, hk, rfl, hosl, HOS, rfl, hout, hbel⟩ := hrel
    have hrr := hrW.keepB hbel hxA.1 hxA.2.1 hxA.2.2
    have c8 := cell_of_cells (j := 8) hrr.blk rfl
    have hsz := hbel.size
    by_cases hlt : k < ns.length
    · have hnr := hrr.node hlt
      have HST := Go.Proofs.YtpaakikgfojplaaGreat.hid (keptTo_step ns f k hlt)
      rw [← HOS.out] at HST
      clear HOS
      generalize ns.getD k zeroN = n at *
      have cn : wr.cell? ⟨gk, k * 37 + 1, none⟩ = some (.int .i64 n.par) := hnr 1 _ rfl
      have HNR := Go.Proofs.YtpaakikgfojplaaGreat.hid hnr
      have q1 : (0 : Int) ≤ (k : Int) := by omega
      have q2 : (k : Int) < ((ns.length : Nat) : Int) := by omega
      clear hnr hrr
      go_wp2_with fail
      refine (among_is BA g cap os n.par wr hout (by omega)).mono ?_
      rintro r w2 ⟨rfl, rfl⟩
      cases hq : amongN os n.par
      · have HN2 : Hid (os = keptTo ns f (k + 1)) := by
          show _ = _
          rw [HST.out, hq]; rfl
        clear HST
        go_wp2
        go_roundw
        case rel => exact ⟨k + 1, os, g, cap, by omega, by go_num, by omega, HN2, rfl, hout, hbel⟩
        case measure => simp [intOf]; omega
      · have HN2 : Hid (os ++ [n] = keptTo ns f (k + 1)) := by
          show _ = _
          rw [HST.out, hq]; rfl
        clear HST hq
        have hszn : (ndA n).size = 37 := rfl
        go_wp2_with (first | refine wpList_load_nd rfl _ rfl gk (k * 37) rfl n HNR.out ?_ | (at_builtin; rw [fold_nd]; refine wpList_append_lies _ rfl (.tmp 28) (.tmp 36) 59 rfl BA 95 i1 (.agg (ndA zeroN)) 37 296 Tryz.underlying59 hj hy0 hy1 hy2 rfl (by omega) _ os.length (nsC os) rfl (hout.alloc _) ⟨wr.heap.size, 0, none⟩ 1 1 (ndC n) rfl rfl (World.news_of_block (heap_alloc_new wr _)) (nd_oneL n) (by omega) (by unfold maxLen; omega) (by omega) (by simp; omega) (wr.heap.size + 1) (by simp) ?_))
        intro gq capq wq hownq hgrowq hatq hltq
        have hrow := fun k (e : Value.ownBlock (.slice (some ⟨g, 0, none⟩) os.length cap) = some k) => (hout.lt k e).1
        have HB := Go.Proofs.YtpaakikgfojplaaGreat.hid ((hbel.alloc (by omega) _).grown hgrowq (by simp; omega) hrow)
        have HO := Go.Proofs.YtpaakikgfojplaaGreat.hid hownq
        clear hownq hgrowq hatq hbel hout hrow hszn
        go_wp2
        go_roundw
        case rel =>
          refine ⟨k + 1, os ++ [n], gq, capq, by omega, by go_num, by simp; omega, HN2, by simp, ?_, HB.out⟩
          rw [List.length_append, nsC_append]
          exact HO.out
        case measure => simp [intOf]; omega
    · have hkk : k = ns.length := by omega
      have hfv : os = FV := by rw [HOS.out, hkk, keptTo_end]; exact HFV.out
      subst hfv
      have HB := Go.Proofs.YtpaakikgfojplaaGreat.hid (HBW.out.trans (hbel.mono (by omega)))
      have HO := Go.Proofs.YtpaakikgfojplaaGreat.hid (row_weak hout (show w.heap.size ≤ BA by omega))
      clear HOS hrr hbel hout HFV
      go_wp2
      go_ret
      exact ⟨g, cap, rfl, HO.out, HB.out⟩

end Go.Proofs.YtpaakikgfojplaaGreat

