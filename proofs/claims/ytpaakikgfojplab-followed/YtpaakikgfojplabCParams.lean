import Derived.Test.YtpaakikgfojplabCM15
/-
  THE WALK of the statements' params.
-/
namespace Go.Proofs.Ytpaakikgfojplab
open Go.RowKit Num Bk
set_option linter.unusedVariables false

theorem RawAt.keep {w W : World} {a : Option Addr} {z : List Int} (h : RawAt w a z) (hb : Below w.heap.size w W) : RawAt W a z := by
  intro j hj
  obtain ⟨x, e, hc, hi⟩ := h j hj
  refine ⟨x, e, ?_, hi⟩
  have hlt : (x.add j).block < w.heap.size := by
    unfold World.cell? at hc
    cases hb : w.heap[(x.add j).block]? with
    | none => rw [hb] at hc; simp at hc
    | some o => exact (Array.getElem?_eq_some_iff.1 hb).1
  rw [hb.cell hlt]; exact hc

theorem par_fin {w W' : World} {g c k : Nat} {xs : List Value} (hb : Below w.heap.size w W') (hown : W'.ownsRow (w.heap.size + 2) 3 1 (.slice (some ⟨g, 0, none⟩) k c) k xs) (hne : g ≠ w.heap.size) (v0 v1 v2 v3 v4 v5 v6 : Value) :
    (((((((W'.setCell ⟨w.heap.size, 0, none⟩ v0).setCell ⟨w.heap.size, 1, none⟩ v1).setCell ⟨w.heap.size, 2, none⟩ v2).setCell ⟨w.heap.size, 3, none⟩ v3).setCell ⟨w.heap.size, 4, none⟩ v4).setCell ⟨w.heap.size, 5, none⟩ v5).setCell ⟨w.heap.size, 6, none⟩ v6).ownsRow w.heap.size 3 1 (.slice (some ⟨g, 0, none⟩) k c) k xs ∧ Below w.heap.size w (((((((W'.setCell ⟨w.heap.size, 0, none⟩ v0).setCell ⟨w.heap.size, 1, none⟩ v1).setCell ⟨w.heap.size, 2, none⟩ v2).setCell ⟨w.heap.size, 3, none⟩ v3).setCell ⟨w.heap.size, 4, none⟩ v4).setCell ⟨w.heap.size, 5, none⟩ v5).setCell ⟨w.heap.size, 6, none⟩ v6) :=
  ⟨row_weak (ownsRow_setCell_other (ownsRow_setCell_other (ownsRow_setCell_other (ownsRow_setCell_other (ownsRow_setCell_other (ownsRow_setCell_other (ownsRow_setCell_other hown (a := ⟨w.heap.size, 0, none⟩) (by simpa [Value.ownBlock] using hne) v0) (a := ⟨w.heap.size, 1, none⟩) (by simpa [Value.ownBlock] using hne) v1) (a := ⟨w.heap.size, 2, none⟩) (by simpa [Value.ownBlock] using hne) v2) (a := ⟨w.heap.size, 3, none⟩) (by simpa [Value.ownBlock] using hne) v3) (a := ⟨w.heap.size, 4, none⟩) (by simpa [Value.ownBlock] using hne) v4) (a := ⟨w.heap.size, 5, none⟩) (by simpa [Value.ownBlock] using hne) v5) (a := ⟨w.heap.size, 6, none⟩) (by simpa [Value.ownBlock] using hne) v6) (by omega), (((((((hb.setCell (p := ⟨w.heap.size, 0, none⟩) (by exact Nat.le_refl _) v0).setCell (p := ⟨w.heap.size, 1, none⟩) (by exact Nat.le_refl _) v1).setCell (p := ⟨w.heap.size, 2, none⟩) (by exact Nat.le_refl _) v2).setCell (p := ⟨w.heap.size, 3, none⟩) (by exact Nat.le_refl _) v3).setCell (p := ⟨w.heap.size, 4, none⟩) (by exact Nat.le_refl _) v4).setCell (p := ⟨w.heap.size, 5, none⟩) (by exact Nat.le_refl _) v5).setCell (p := ⟨w.heap.size, 6, none⟩) (by exact Nat.le_refl _) v6)⟩

theorem par_round {w wr w5 : World} {o : Obj} {v : Value} {k g5 cap5 : Nat} {os : List Int} {x : Int} {cz : Array Value} {c0 c1 c2 c3 c4 c5 : Value} (hzr : wr.heap[w.heap.size]? = some (.cells cz 28 (0, 0))) (hpr : wr.heap[w.heap.size + 1]? = some (.cells #[c0, c1, c2, c3, c4, c5, v] 28 (0, 0)))
    (hown : wr.ownsRow (w.heap.size + 2) 3 1 v k (icells os)) (hbr : Below w.heap.size w wr) (hsr : w.heap.size + 2 ≤ wr.heap.size) (hgrow5 : (wr.drew.alloc o).grownBy w5 v.ownBlock)
    (hown5 : w5.ownsRow (w.heap.size + 2) 3 1 (.slice (some ⟨g5, 0, none⟩) (k + 1) cap5) (k + 1) (icells os ++ [.int .i64 x])) :
    (w5.setCell ⟨w.heap.size + 1, 6, none⟩ (.slice (some ⟨g5, 0, none⟩) (k + 1) cap5)).heap[w.heap.size]? = some (.cells cz 28 (0, 0)) ∧
    (w5.setCell ⟨w.heap.size + 1, 6, none⟩ (.slice (some ⟨g5, 0, none⟩) (k + 1) cap5)).heap[w.heap.size + 1]? = some (.cells #[c0, c1, c2, c3, c4, c5, .slice (some ⟨g5, 0, none⟩) (k + 1) cap5] 28 (0, 0)) ∧
    (w5.setCell ⟨w.heap.size + 1, 6, none⟩ (.slice (some ⟨g5, 0, none⟩) (k + 1) cap5)).ownsRow (w.heap.size + 2) 3 1 (.slice (some ⟨g5, 0, none⟩) (k + 1) cap5) (k + 1) (icells (os ++ [x])) ∧
    Below w.heap.size w (w5.setCell ⟨w.heap.size + 1, 6, none⟩ (.slice (some ⟨g5, 0, none⟩) (k + 1) cap5)) ∧
    w.heap.size + 2 ≤ (w5.setCell ⟨w.heap.size + 1, 6, none⟩ (.slice (some ⟨g5, 0, none⟩) (k + 1) cap5)).heap.size := by
  have hrow := fun b (e : Value.ownBlock v = some b) => hown.lt b e
  have hF : Fr (fun b => v.ownBlock = some b) wr w5 := ((Fr.refl (fun b => v.ownBlock = some b) wr).drew.alloc o).grown hgrow5 (fun b e => Or.inl e)
  have hs5 := hF.size
  have hz5 := (hF.block w.heap.size (by omega) (fun e => by have := (hrow _ e).1; omega)).trans hzr
  have hp5 := (hF.block (w.heap.size + 1) (by omega) (fun e => by have := (hrow _ e).1; omega)).trans hpr
  have hg5 := (hown5.lt g5 (by simp [Value.ownBlock])).1
  refine ⟨(Below.heap_setCell _ _ _ _ (by simp)).trans hz5, ?_, ?_, ?_, by simp [World.setCell]; omega⟩
  · exact (heap_setCell_same w5 (w.heap.size + 1) 6 _ 28 _ hp5).trans rfl
  · have := ownsRow_setCell_other hown5 (a := ⟨w.heap.size + 1, 6, none⟩) (by simp [Value.ownBlock]; omega) (.slice (some ⟨g5, 0, none⟩) (k + 1) cap5)
    rw [show icells (os ++ [x]) = icells os ++ [.int .i64 x] by simp [icells]]
    exact this
  · exact ((hbr.drew.alloc (by exact Nat.le_trans (by omega) hsr) o).grown hgrow5 (by simp; omega) (fun b e => by have := (hrow b e).1; omega)).setCell (by show w.heap.size ≤ w.heap.size + 1; omega) _

theorem rawStakes_succ (z : List Int) (k : Nat) : rawStakes z (k + 1) = rawStakes z k ++ [pickI (z.getD (7 + k) 0) 41] := by
  unfold rawStakes
  rw [List.range_succ, List.map_append]; rfl

set_option maxHeartbeats 12800000 in
set_option maxRecDepth 1000000 in
theorem params_any (a : Option Addr) (cap : Nat) (z : List Int) (w : World) (hz : RawAt w a z) :
    Calls Try.prog 37 #[.slice a z.length cap] w fun e w' => ∃ g c, e = .returned (parV (parOf z) (some ⟨g, 0, none⟩) c) ∧ w'.ownsRow w.heap.size 3 1 (.slice (some ⟨g, 0, none⟩) (parOf z).stakes.length c) (parOf z).stakes.length (icells (parOf z).stakes) ∧ Below w.heap.size w w' := by
  obtain ⟨i0, hi0, hz0, hz1, hz2⟩ := info_parts Try.info3
  have HN := Go.Proofs.Ytpaakikgfojplab.hid (fun (W' : World) (hb : Below w.heap.size w W') (i : Int) (hi : 0 ≤ i) (hi2 : i ≤ 1000) => (show Calls Try.prog 26 #[.slice a z.length cap, .int .i64 i] W' fun e w' => e = .returned (.int .i64 (z.getD i.toNat 0)) ∧ W' = w' by
    have h := nth_any a cap z i.toNat W' (hz.keep hb) (by omega)
    rw [Int.toNat_of_nonneg hi] at h
    exact h))
  obtain ⟨R, hR⟩ : ∃ R : Int → Int, ∀ i, R i = z.getD i.toNat 0 := ⟨_, fun _ => rfl⟩
  have HI := Go.Proofs.Ytpaakikgfojplab.hid (fun i : Int => show I64 (R i) by rw [hR]; exact rawI hz _)
  have HR := Go.Proofs.Ytpaakikgfojplab.hid hR
  have HN' := Go.Proofs.Ytpaakikgfojplab.hid (fun (W' : World) (hb : Below w.heap.size w W') (i : Int) (hi : 0 ≤ i) (hi2 : i ≤ 1000) => (show Calls Try.prog 26 #[.slice a z.length cap, .int .i64 i] W' fun e w' => e = .returned (.int .i64 (R i)) ∧ W' = w' by rw [hR]; exact HN.out W' hb i hi hi2))
  have h0 := pickI_bounds (R 0) 8 (by omega)
  have h1 := pickI_bounds (R 1) 50 (by omega)
  have h2 := pickI_bounds (R 2) 39 (by omega)
  have h3 := pickI_bounds (R 3) 19 (by omega)
  have h5 := pickI_bounds (R 5) 65521 (by omega)
  have h6 := pickI_bounds (R 6) 6 (by omega)
  clear hz HN hR
  generalize z.length = zl at *
  go_enter Try.func37, Try.ntmps37
  go_wp2_with ((first | (go_at_call 26; refine (HN'.out _ (by exact ((Below.refl _ _).alloc (Nat.le_refl _) _).alloc (by simp) _) _ (by omega) (by omega)).mono ?_; rintro e w' ⟨rfl, rfl⟩) | (go_at_call 18; refine (pick_is _ _ _ (HI.out _) (by omega) (by omega)).mono ?_; rintro e w' ⟨rfl, rfl⟩)))
  generalize hA : (w.alloc (.cells #[.int .i64 0, .int .i64 0, .int .i64 0, .int .i64 0, .int .i64 0, .int .i64 0, .slice none 0 0] 28)).alloc (.cells #[.int .i64 (1 + pickI (R 0) 8), .int .i64 (1 + pickI (R 1) 50), .int .i64 (2 + pickI (R 2) 39), .int .i64 0, .int .i64 (2 + pickI (R 3) 19), .int .i64 0, .slice none 0 0] 28) = A at *
  obtain ⟨hsA, hbA, hAz, hAp⟩ := below_two hA
  clear hA
  generalize hB : 2 + pickI (R 3) 19 = B at *
  have hBb : 2 ≤ B ∧ B ≤ 20 := by omega
  have h4 := pickI_bounds (R 4) (B - 1) (by omega)
  have p4 := cell_of_cells (j := 4) hAp rfl
  have p3 := cell_of_cells (j := 3) hAp rfl
  have pf3 := free_of_cells (j := 3) hAp
  have hw1 : IntKind.i64.wrap (B - 1) = B - 1 := IntWalk.i64_in _ ⟨by omega, by omega⟩
  have hw2 : IntKind.i64.wrap (1 + pickI (R 4) (B - 1)) = 1 + pickI (R 4) (B - 1) := IntWalk.i64_in _ ⟨by omega, by omega⟩
  have HRA := Go.Proofs.Ytpaakikgfojplab.hid (fun (W' : World) (hb : Below A.heap.size A W') => HN'.out W' (hbA.trans (hb.mono (by omega))))
  have HREL := Go.Proofs.Ytpaakikgfojplab.hid (show (A.setCell ⟨w.heap.size + 1, 3, none⟩ (.int .i64 (1 + pickI (R 4) (B - 1)))).heap.size = w.heap.size + 2 ∧ Below w.heap.size w (A.setCell ⟨w.heap.size + 1, 3, none⟩ (.int .i64 (1 + pickI (R 4) (B - 1)))) ∧ (A.setCell ⟨w.heap.size + 1, 3, none⟩ (.int .i64 (1 + pickI (R 4) (B - 1)))).heap[w.heap.size]? = some (.cells #[.int .i64 0, .int .i64 0, .int .i64 0, .int .i64 0, .int .i64 0, .int .i64 0, .slice none 0 0] 28 (0, 0)) ∧ (A.setCell ⟨w.heap.size + 1, 3, none⟩ (.int .i64 (1 + pickI (R 4) (B - 1)))).heap[w.heap.size + 1]? = some (.cells #[.int .i64 (1 + pickI (R 0) 8), .int .i64 (1 + pickI (R 1) 50), .int .i64 (2 + pickI (R 2) 39), .int .i64 (1 + pickI (R 4) (B - 1)), .int .i64 B, .int .i64 0, .slice none 0 0] 28 (0, 0)) from
    ⟨by simp [World.setCell]; exact hsA, hbA.setCell (by show w.heap.size ≤ w.heap.size + 1; omega) _, (Below.heap_setCell _ _ _ _ (by simp)).trans hAz, (heap_setCell_same A (w.heap.size + 1) 3 _ 28 _ hAp).trans rfl⟩)
  go_cut [] (fun wx => wx.heap.size = w.heap.size + 2 ∧ Below w.heap.size w wx ∧ wx.heap[w.heap.size]? = some (.cells #[.int .i64 0, .int .i64 0, .int .i64 0, .int .i64 0, .int .i64 0, .int .i64 0, .slice none 0 0] 28 (0, 0)) ∧ wx.heap[w.heap.size + 1]? = some (.cells #[.int .i64 (1 + pickI (R 0) 8), .int .i64 (1 + pickI (R 1) 50), .int .i64 (2 + pickI (R 2) 39), .int .i64 (1 + pickI (R 4) (B - 1)), .int .i64 B, .int .i64 0, .slice none 0 0] 28 (0, 0)))
  case first =>
    go_region_with ((first | (go_at_call 26; refine (HRA.out _ (by first | exact Below.refl _ _ | exact (Below.refl _ _).drew) _ (by omega) (by omega)).mono ?_; rintro e w' ⟨rfl, rfl⟩) | (go_at_call 18; refine (pick_is _ _ _ (HI.out _) (by omega) (by omega)).mono ?_; rintro e w' ⟨rfl, rfl⟩)))
    all_goals
      go_wp2_with fail
      go_meet
      case rel => exact ⟨HREL.out.1, HREL.out.2.1.drew, HREL.out.2.2.1, HREL.out.2.2.2⟩
  case rest =>
    obtain ⟨hs1, hb1, hz1', hp1⟩ := hcut
    clear HREL HRA hAz hAp hbA hsA p3 p4 pf3
    have p5 := cell_of_cells (j := 5) hp1 rfl
    have pf5 := free_of_cells (j := 5) hp1
    have hp2 := heap_setCell_same wc (w.heap.size + 1) 5 _ 28 (.int .i64 (pickI (R 5) 65521)) hp1
    have hb2 : Below w.heap.size w (wc.setCell ⟨w.heap.size + 1, 5, none⟩ (.int .i64 (pickI (R 5) 65521))) := hb1.setCell (by show w.heap.size ≤ w.heap.size + 1; omega) _
    have hz2' : (wc.setCell ⟨w.heap.size + 1, 5, none⟩ (.int .i64 (pickI (R 5) 65521))).heap[w.heap.size]? = _ := (Below.heap_setCell _ _ _ _ (by simp)).trans hz1'
    have HB2 := Go.Proofs.Ytpaakikgfojplab.hid hb2
    have HZ2 := Go.Proofs.Ytpaakikgfojplab.hid hz2'
    have HP2 := Go.Proofs.Ytpaakikgfojplab.hid hp2
    clear hp2 hb2 hz2' hp1 hz1'
    go_wp2_with ((first | (go_at_call 26; refine (HN'.out _ (by first | exact hb1 | exact HB2.out) _ (by omega) (by omega)).mono ?_; rintro e w' ⟨rfl, rfl⟩) | (go_at_call 18; refine (pick_is _ _ _ (HI.out _) (by omega) (by omega)).mono ?_; rintro e w' ⟨rfl, rfl⟩)))
    have hPAR : parOf z = { depth := 1 + pickI (R 0) 8, epoch := 1 + pickI (R 1) 50, room := 2 + pickI (R 2) 39, a := 1 + pickI (R 4) (B - 1), b := B, nonce := pickI (R 5) 65521, stakes := firstUp (rawStakes z (rawN z)) } := by
      rw [← hB]
      simp only [HR.out]
      rfl
    have hRN : 1 + pickI (R 6) 6 = (rawN z : Int) := by
      have e := HR.out 6
      unfold rawN
      rw [show z.getD 6 0 = R 6 from e.symm]
      omega
    have hRS : ∀ i : Nat, pickI (z.getD (7 + i) 0) 41 = pickI (R (7 + (i : Int))) 41 := by
      intro i
      rw [HR.out, show (7 + (i : Int)).toNat = 7 + i by omega]
    have HPAR := Go.Proofs.Ytpaakikgfojplab.hid hPAR
    have HRS := Go.Proofs.Ytpaakikgfojplab.hid hRS
    have hNb := rawN_bounds z
    clear hPAR hRS HR
    rw [hRN]
    have hs2 : w.heap.size + 2 ≤ (wc.setCell ⟨w.heap.size + 1, 5, none⟩ (.int .i64 (pickI (R 5) 65521))).heap.size := by simp [World.setCell]; omega
    have hb2 := HB2.out
    have hp2 := HP2.out
    have hz2' := HZ2.out
    clear HB2 HP2 HZ2 hb1 p5 pf5
    generalize wc.setCell ⟨w.heap.size + 1, 5, none⟩ (.int .i64 (pickI (R 5) 65521)) = W2 at *
    generalize rawN z = N at *
    clear h6 hRN
    generalize 1 + pickI (R 0) 8 = d0 at *
    generalize 1 + pickI (R 1) 50 = d1 at *
    generalize 2 + pickI (R 2) 39 = d2 at *
    generalize 1 + pickI (R 4) (B - 1) = d3 at *
    generalize pickI (R 5) 65521 = d5 at *
    clear h0 h1 h2 h3 h4 h5 hw1 hw2 hBb hB
    have hp3 : W2.heap[w.heap.size + 1]? = some (.cells #[.int .i64 d0, .int .i64 d1, .int .i64 d2, .int .i64 d3, .int .i64 B, .int .i64 d5, .slice none 0 0] 28 (0, 0)) := hp2
    clear hp2
    go_loopw [5] (fun i wr => ∃ (k : Nat) (v : Value) (os : List Int), k ≤ N ∧ i = .int .i64 k ∧ os.length = k ∧ Hid (os = rawStakes z k) ∧ wr.heap[w.heap.size]? = some (.cells #[.int .i64 0, .int .i64 0, .int .i64 0, .int .i64 0, .int .i64 0, .int .i64 0, .slice none 0 0] 28 (0, 0)) ∧ wr.heap[w.heap.size + 1]? = some (.cells #[.int .i64 d0, .int .i64 d1, .int .i64 d2, .int .i64 d3, .int .i64 B, .int .i64 d5, v] 28 (0, 0)) ∧ wr.ownsRow (w.heap.size + 2) 3 1 v k (icells os) ∧ Below w.heap.size w wr ∧ w.heap.size + 2 ≤ wr.heap.size)
      (fun i _ => N - (intOf i).toNat)
    case atStart => exact ⟨0, _, [], Nat.zero_le _, rfl, rfl, rfl, hz2', hp3, World.ownsRow_nil _ _ _ _, hb2, hs2⟩
    case round =>
      obtain ⟨k, v, os, hk, rfl, hol, HOS, hzr, hpr, hown, hbr, hsr⟩ := hrel
      by_cases hlt : k < N
      · have hlt' : (k : Int) < (N : Int) := by omega
        have hpk := pickI_bounds (R (7 + (k : Int))) 41 (by omega)
        have c6 := cell_of_cells (j := 6) hpr rfl
        have f6 := free_of_cells (j := 6) hpr
        have hxW : w.heap.size + 1 < wr.heap.size := by omega
        have hrow := fun b (e : Value.ownBlock v = some b) => hown.lt b e
        have hvn : Value.ownBlock v ≠ some (w.heap.size + 1) := fun e => by have := (hrow _ e).1; omega
        have hvn0 : Value.ownBlock v ≠ some w.heap.size := fun e => by have := (hrow _ e).1; omega
        have HA6 : Hid (∀ o, (wr.drew.alloc o).cell? ⟨w.heap.size + 1, 6, none⟩ = some v) := fun o => by rw [World.cell?_alloc_past _ _ _ (by exact hxW)]; exact c6
        have HF6 : Hid (∀ o, (wr.drew.alloc o).frozen? ⟨w.heap.size + 1, 6, none⟩ = false) := fun o => by rw [World.frozen?_alloc_past _ _ _ (by exact hxW)]; exact f6
        have hownd : wr.drew.ownsRow (w.heap.size + 2) 3 1 v k (icells os) := hown
        have hsd : w.heap.size + 2 ≤ wr.drew.heap.size := hsr
        have HBD := Go.Proofs.Ytpaakikgfojplab.hid hbr.drew
        have hw7 : IntKind.i64.wrap (7 + (k : Int)) = 7 + (k : Int) := IntWalk.i64_in _ ⟨by omega, by omega⟩
        go_wp2
        go_region_law ((first | (refine step_append_lies _ (by rfl) (.tmp 48) (.tmp 54) 22 (by rfl) (w.heap.size + 2) 3 i0 _ 1 8 Try.underlying22 hi0 hz0 hz1 hz2 (by rfl) (by omega) v k (icells os) (by rfl) (by exact hownd.alloc _) ⟨wr.drew.heap.size, 0, none⟩ 1 1 [.int .i64 (pickI (R (7 + (k : Int))) 41)] (by rfl) (by rfl) (by exact cell_one_new _ _ _) (by exact one_int _) (by omega) (by unfold maxLen; omega) (by omega) (by simp; omega) (wr.drew.heap.size + 1) (by simp) ?_; intro g5 cap5 w5 hown5 hgrow5 hat5 hlt5; have k6 := (hgrow5.cell_far ⟨w.heap.size + 1, 6, none⟩ (by simp; omega) (by exact Ne.symm hvn)).trans (by exact HA6.out _); have kf6 := (hgrow5.frozen_far ⟨w.heap.size + 1, 6, none⟩ (by simp; omega) (by exact Ne.symm hvn)).trans (by exact HF6.out _)) | (go_simp; go_wp2_with ((first | (go_at_call 26; refine (HN'.out _ (by exact HBD.out) _ (by omega) (by omega)).mono ?_; rintro e w' ⟨rfl, rfl⟩) | (go_at_call 18; refine (pick_is _ _ _ (HI.out _) (by omega) (by omega)).mono ?_; rintro e w' ⟨rfl, rfl⟩))))))
        all_goals
          have HREL := Go.Proofs.Ytpaakikgfojplab.hid (par_round hzr hpr hown hbr hsr hgrow5 hown5)
          clear hown5 hgrow5 hat5 hown hownd hbr hzr hpr HBD HA6 HF6
          go_wp2
          go_roundw
          case rel => exact ⟨k + 1, _, os ++ [pickI (R (7 + (k : Int))) 41], by omega, by go_num, by simp; omega, by unfold Hid; rw [rawStakes_succ, HRS.out, ← HOS.out], HREL.out.1, HREL.out.2.1, HREL.out.2.2.1, HREL.out.2.2.2.1, HREL.out.2.2.2.2⟩
          case measure => simp [intOf]; omega
      · have hke : k = N := by omega
        subst hke
        have hpos : 0 < k := by omega
        obtain ⟨g, c, rfl, _, _⟩ := hown.form hpos
        have hgl := hown.lt g (by simp [Value.ownBlock])
        obtain ⟨x, l, rfl⟩ : ∃ x l, os = x :: l := by
          cases os with
          | nil => simp at hol; omega
          | cons x l => exact ⟨x, l, rfl⟩
        have ce := (hown.cellAt 0 (by omega)).trans (show (icells (x :: l))[0]? = some (.int .i64 x) from rfl)
        have hgn1 : g ≠ w.heap.size := by omega
        have hgn2 : g ≠ w.heap.size + 1 := by omega
        have p0 := cell_of_cells (j := 0) hpr rfl
        have p1 := cell_of_cells (j := 1) hpr rfl
        have p2 := cell_of_cells (j := 2) hpr rfl
        have p3 := cell_of_cells (j := 3) hpr rfl
        have p4 := cell_of_cells (j := 4) hpr rfl
        have p5 := cell_of_cells (j := 5) hpr rfl
        have p6 := cell_of_cells (j := 6) hpr rfl
        have z0 := cell_of_cells (j := 0) hzr rfl
        have z1 := cell_of_cells (j := 1) hzr rfl
        have z2 := cell_of_cells (j := 2) hzr rfl
        have z3 := cell_of_cells (j := 3) hzr rfl
        have z4 := cell_of_cells (j := 4) hzr rfl
        have z5 := cell_of_cells (j := 5) hzr rfl
        have z6 := cell_of_cells (j := 6) hzr rfl
        have zf0 := free_of_cells (j := 0) hzr
        have zf1 := free_of_cells (j := 1) hzr
        have zf2 := free_of_cells (j := 2) hzr
        have zf3 := free_of_cells (j := 3) hzr
        have zf4 := free_of_cells (j := 4) hzr
        have zf5 := free_of_cells (j := 5) hzr
        have zf6 := free_of_cells (j := 6) hzr
        have HST := Go.Proofs.Ytpaakikgfojplab.hid (show (parOf z).stakes = (if x = 0 then 1 else x) :: l by rw [HPAR.out, ← HOS.out]; rfl)
        have HPV := Go.Proofs.Ytpaakikgfojplab.hid (show parV (parOf z) (some ⟨g, 0, none⟩) c = .agg #[.int .i64 d0, .int .i64 d1, .int .i64 d2, .int .i64 d3, .int .i64 B, .int .i64 d5, .slice (some ⟨g, 0, none⟩) k c] by
          unfold parV
          rw [HST.out, List.length_cons, ← hol, HPAR.out, List.length_cons])
        have HSL := Go.Proofs.Ytpaakikgfojplab.hid (show (parOf z).stakes.length = k by rw [HST.out, List.length_cons, ← hol, List.length_cons])
        clear HPAR HOS HRS
        by_cases hx : x = 0
        · subst hx
          have cf := hown.frozenAt 0
          have ho2 := (hown.stored 0 (.int .i64 1)).1
          have HF := Go.Proofs.Ytpaakikgfojplab.hid (par_fin (hbr.setCell (p := ⟨g, 0, none⟩) (by show w.heap.size ≤ g; omega) (.int .i64 1)) ho2 hgn1 (.int .i64 d0) (.int .i64 d1) (.int .i64 d2) (.int .i64 d3) (.int .i64 B) (.int .i64 d5) (.slice (some ⟨g, 0, none⟩) k c))
          clear hown hbr ho2 hpr hzr
          go_wp2
          refine bodyPost_ret (v := .agg #[.int .i64 d0, .int .i64 d1, .int .i64 d2, .int .i64 d3, .int .i64 B, .int .i64 d5, .slice (some ⟨g, 0, none⟩) k c]) (by simp [results, Try.results37, go_sem, z0, z1, z2, z3, z4, z5, z6]) rfl ⟨g, c, by rw [HPV.out], by rw [HSL.out, HST.out]; exact HF.out.1, HF.out.2⟩
        · have hx' : (x == 0) = false := by rw [beq_eq_false_iff_ne]; exact hx
          have HF := Go.Proofs.Ytpaakikgfojplab.hid (par_fin hbr hown hgn1 (.int .i64 d0) (.int .i64 d1) (.int .i64 d2) (.int .i64 d3) (.int .i64 B) (.int .i64 d5) (.slice (some ⟨g, 0, none⟩) k c))
          clear hown hbr hpr hzr
          go_wp2
          refine bodyPost_ret (v := .agg #[.int .i64 d0, .int .i64 d1, .int .i64 d2, .int .i64 d3, .int .i64 B, .int .i64 d5, .slice (some ⟨g, 0, none⟩) k c]) (by simp [results, Try.results37, go_sem, z0, z1, z2, z3, z4, z5, z6]) rfl ⟨g, c, by rw [HPV.out], by rw [HSL.out, HST.out]; rw [if_neg hx]; exact HF.out.1, HF.out.2⟩
end Go.Proofs.Ytpaakikgfojplab

