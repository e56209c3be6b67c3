import Derived.Test.YtpaakikgfojplaaCM24
import Derived.Test.YtpaakikgfojplaaCStM
/-
  THE WALK of the statements' looks.
-/
namespace Go.Proofs.Ytpaakikgfojplaa
open Go.RowKit Num Bk
set_option linter.unusedVariables false

theorem run_neq_hdr (w : World) (a0 a1 a2 a3 a4 a5 a6 : Int) :
    (binOp .neq 30 (.agg #[.int .i64 a0, .int .i64 a1, .int .i64 a2, .int .i64 a3, .int .i64 a4, .int .i64 a5, .int .i64 a6]) (.agg #[.int .i64 a0, .int .i64 a1, .int .i64 a2, .int .i64 a3, .int .i64 a4, .int .i64 a5, .int .i64 a6])).run Try.prog w =
      .ok (.bool false) w := by
  go_simp
theorem run_neq_blk (w : World) :
    (binOp .neq 102 (.agg #[.int .i64 0, .int .i64 0, .int .i64 0, .int .i64 0, .int .i64 0, .int .i64 0, .int .i64 0, .int .i64 0, .int .i64 0]) (.agg #[.int .i64 0, .int .i64 0, .int .i64 0, .int .i64 0, .int .i64 0, .int .i64 0, .int .i64 0, .int .i64 0, .int .i64 0])).run Try.prog w =
      .ok (.bool false) w := by
  go_simp
attribute [local go_sem] run_neq_hdr run_neq_blk

/-- The three ways in which a header that came is told. -/
theorem look_cases {s : St} (hi : Inv s) {k : Nat} (hk : k < s.all.length) :
    (has s.keep (k : Int) = true ∧ missing s (k : Int) = 0 ∧ ∃ a0 a1 a2 a3 a4 a5 a6, hd s.all k = ⟨a0, a1, a2, a3, a4, a5, a6⟩ ∧ blkV s (k : Int) = .agg #[.int .i64 a0, .int .i64 a1, .int .i64 a2, .int .i64 a3, .int .i64 a4, .int .i64 a5, .int .i64 a6, .int .i64 ((pa s.all k : Nat) : Int), .int .i64 ((height s.all k : Nat) : Int)]) ∨
    (has s.keep (k : Int) = false ∧ has (line s.all (fin s)) (k : Int) = true ∧ missing s (k : Int) = 2 ∧ blkV s (k : Int) = .agg #[.int .i64 0, .int .i64 0, .int .i64 0, .int .i64 0, .int .i64 0, .int .i64 0, .int .i64 0, .int .i64 0, .int .i64 0]) ∨
    (has s.keep (k : Int) = false ∧ has (line s.all (fin s)) (k : Int) = false ∧ missing s (k : Int) = 3 ∧ blkV s (k : Int) = .agg #[.int .i64 0, .int .i64 0, .int .i64 0, .int .i64 0, .int .i64 0, .int .i64 0, .int .i64 0, .int .i64 0, .int .i64 0]) := by
  cases h1 : has s.keep (k : Int)
  · right
    cases h2 : has (line s.all (fin s)) (k : Int)
    · right
      have hm : missing s (k : Int) = 3 := by unfold missing; rw [h1, h2]; rfl
      refine ⟨rfl, rfl, hm, ?_⟩
      unfold blkV
      simp only [hm]
      rfl
    · left
      have hm : missing s (k : Int) = 2 := by unfold missing; rw [h1, h2]; rfl
      refine ⟨rfl, rfl, hm, ?_⟩
      unfold blkV
      simp only [hm]
      rfl
  · left
    have hm : missing s (k : Int) = 0 := by unfold missing; rw [h1]; rfl
    refine ⟨rfl, hm, _, _, _, _, _, _, _, rfl, ?_⟩
    unfold blkV
    simp only [hm, if_true, Int.toNat_natCast]
    rfl

theorem has_rev (l : List Nat) (i : Nat) : has l.reverse (i : Int) = has l (i : Int) := by
  rw [Bool.eq_iff_iff, has_nat, has_nat]; simp

theorem blk_agg (s : St) (id : Int) : ∃ a0 a1 a2 a3 a4 a5 a6 a7 a8, blkV s id = .agg #[.int .i64 a0, .int .i64 a1, .int .i64 a2, .int .i64 a3, .int .i64 a4, .int .i64 a5, .int .i64 a6, .int .i64 a7, .int .i64 a8] := ⟨_, _, _, _, _, _, _, _, _, rfl⟩

theorem cell_set9 {w : World} {q b : Nat} (h : b ≠ q) (v0 v1 v2 v3 v4 v5 v6 v7 v8 : Value) (j : Nat) : (((((((((w.setCell ⟨q, 0, none⟩ v0).setCell ⟨q, 1, none⟩ v1).setCell ⟨q, 2, none⟩ v2).setCell ⟨q, 3, none⟩ v3).setCell ⟨q, 4, none⟩ v4).setCell ⟨q, 5, none⟩ v5).setCell ⟨q, 6, none⟩ v6).setCell ⟨q, 7, none⟩ v7).setCell ⟨q, 8, none⟩ v8).cell? ⟨b, j, none⟩ = w.cell? ⟨b, j, none⟩ := by
  have key : ∀ (W : World) (o : Nat) (v : Value), (W.setCell ⟨q, o, none⟩ v).cell? ⟨b, j, none⟩ = W.cell? ⟨b, j, none⟩ := fun W o v => World.cell?_of_block (Below.heap_setCell _ _ _ _ h)
  simp only [key]

/-- A block of nine noughts that lies ahead of a call. -/
structure Nine (w' : World) (q : Nat) : Prop where
  z0 : w'.cell? ⟨q, 0, none⟩ = some (.int .i64 0)
  z1 : w'.cell? ⟨q, 1, none⟩ = some (.int .i64 0)
  z2 : w'.cell? ⟨q, 2, none⟩ = some (.int .i64 0)
  z3 : w'.cell? ⟨q, 3, none⟩ = some (.int .i64 0)
  z4 : w'.cell? ⟨q, 4, none⟩ = some (.int .i64 0)
  z5 : w'.cell? ⟨q, 5, none⟩ = some (.int .i64 0)
  z6 : w'.cell? ⟨q, 6, none⟩ = some (.int .i64 0)
  z7 : w'.cell? ⟨q, 7, none⟩ = some (.int .i64 0)
  z8 : w'.cell? ⟨q, 8, none⟩ = some (.int .i64 0)
  f : ∀ j, w'.frozen? ⟨q, j, none⟩ = w'.frozen? ⟨q, 0, none⟩
  f0 : w'.frozen? ⟨q, 0, none⟩ = false
theorem nine_of {w' : World} {q : Nat} (h : w'.heap[q]? = some (.cells #[.int .i64 0, .int .i64 0, .int .i64 0, .int .i64 0, .int .i64 0, .int .i64 0, .int .i64 0, .int .i64 0, .int .i64 0] 102 (0, 0))) : Nine w' q :=
  ⟨cell_of_cells (j := 0) h rfl, cell_of_cells (j := 1) h rfl, cell_of_cells (j := 2) h rfl, cell_of_cells (j := 3) h rfl, cell_of_cells (j := 4) h rfl, cell_of_cells (j := 5) h rfl, cell_of_cells (j := 6) h rfl, cell_of_cells (j := 7) h rfl, cell_of_cells (j := 8) h rfl, fun j => (free_of_cells (j := j) h).trans (free_of_cells (j := 0) h).symm, free_of_cells (j := 0) h⟩

theorem below_set9 {W w : World} (_ : Nine w W.heap.size) (hb : Below W.heap.size W w) (v0 v1 v2 v3 v4 v5 v6 v7 v8 : Value) : Below W.heap.size W (((((((((w.setCell ⟨W.heap.size, 0, none⟩ v0).setCell ⟨W.heap.size, 1, none⟩ v1).setCell ⟨W.heap.size, 2, none⟩ v2).setCell ⟨W.heap.size, 3, none⟩ v3).setCell ⟨W.heap.size, 4, none⟩ v4).setCell ⟨W.heap.size, 5, none⟩ v5).setCell ⟨W.heap.size, 6, none⟩ v6).setCell ⟨W.heap.size, 7, none⟩ v7).setCell ⟨W.heap.size, 8, none⟩ v8) :=
  ((((((((hb.setCell (Nat.le_refl _) v0).setCell (Nat.le_refl _) v1).setCell (Nat.le_refl _) v2).setCell (Nat.le_refl _) v3).setCell (Nat.le_refl _) v4).setCell (Nat.le_refl _) v5).setCell (Nat.le_refl _) v6).setCell (Nat.le_refl _) v7).setCell (Nat.le_refl _) v8

set_option maxHeartbeats 12800000 in
set_option maxRecDepth 1000000 in
theorem looks_any {Rep : World → Nat → (Nat → Prop) → St → Prop} (P : PSpec Rep) (b xc gs cs ga ca : Nat) (s : St) (F : Nat → Prop) (w : World) (hb : Both Rep w b xc gs cs ga ca F s) :
    Calls Try.prog 34 #[.pointer (some ⟨b, 0, none⟩)] w fun e w' => e = .returned (.bool true) ∧ Below w.heap.size w w' := by
  have hv := hb.inv
  have hw := hv.wk
  have hkl := hw.kl
  have hsm := hw.small
  have hfl := fin_lt hv
  have hfs : (line s.all (fin s)).reverse.length ≤ 20000 := by
    have h1 := line_length hv.tree (fin s)
    have h2 := height_small hv hfl
    rw [List.length_reverse]; omega
  have HN3 := Go.Proofs.Ytpaakikgfojplaa.hid (never_err hv zeroH).1
  have HM3 := Go.Proofs.Ytpaakikgfojplaa.hid (minus_err hv)
  go_enter Try.func34, Try.ntmps34
  go_wp2_with fail
  refine (bkept_any b xc gs cs ga ca s _ hb.book hv).mono ?_
  rintro e w1 ⟨g1, c1, rfl, ho1, hb1⟩
  have hB1 := hb.keep P hb1
  go_wp2_with fail
  refine (bfinal_any b xc gs cs ga ca s _ hB1.book hv).mono ?_
  rintro e w2 ⟨rfl, hb2⟩
  have hB2 := hB1.keep P hb2
  have ho2 := row_keep ho1 hb2 (Nat.le_refl _)
  have hbw2 := hb1.trans (hb2.mono hb1.size)
  clear hb hB1 hb1 hb2 ho1
  go_wp2_with fail
  refine (bline_any b xc gs cs ga ca s (fin s) _ hB2.book hw hfl).mono ?_
  rintro e w3 ⟨g3, c3, rfl, ho3, hb3⟩
  have hB3 := hB2.keep P hb3
  have ho23 := row_keep ho2 hb3 (Nat.le_refl _)
  have hbw3 := hbw2.trans (hb3.mono hbw2.size)
  clear hB2 hb3 ho2 hbw2
  have HB3 := Go.Proofs.Ytpaakikgfojplaa.hid hB3
  have HK3 := Go.Proofs.Ytpaakikgfojplaa.hid ho23
  have HO3 := Go.Proofs.Ytpaakikgfojplaa.hid ho3
  have HW3 := Go.Proofs.Ytpaakikgfojplaa.hid hbw3
  have HRV := Go.Proofs.Ytpaakikgfojplaa.hid (fun i => has_rev (line s.all (fin s)) i)
  have HLC := Go.Proofs.Ytpaakikgfojplaa.hid (fun k (h : k < s.all.length) => look_cases hv h)
  clear hB3 ho23 ho3 hbw3
  generalize (line s.all (fin s)).reverse = O at *
  go_wp2
  go_loopw [5] (fun i wr => ∃ k : Nat, k ≤ s.all.length ∧ i = .int .i64 k ∧ Below w3.heap.size w3 wr) (fun i _ => s.all.length - (intOf i).toNat)
  case atStart => exact ⟨0, Nat.zero_le _, rfl, Below.refl _ _⟩
  case round =>
    obtain ⟨k, hk, rfl, hbel⟩ := hrel
    have hBr := HB3.out.keep P hbel
    have c8 := cell_of_cells (j := 8) hBr.book.blk rfl
    have c0 := cell_of_cells (j := 0) hBr.book.blk rfl
    by_cases hlt : k < s.all.length
    · have hlt' : (k : Int) < ((s.all.length : Nat) : Int) := by omega
      have hk0 : (0 : Int) ≤ (k : Int) := by omega
      have hhs := height_small hv hlt
      have hll : (line s.all k).reverse.length = height s.all k + 1 := by rw [List.length_reverse, line_length hv.tree]
      have HLL := Go.Proofs.Ytpaakikgfojplaa.hid hll
      clear hll
      go_wp2_with fail
      refine (P.look wr xc F s (k : Int) hBr.rep hv (i64_of (by omega) (by omega))).mono ?_
      rintro e w4 ⟨rfl, hb4⟩
      obtain ⟨a0, a1, a2, a3, a4, a5, a6, a7, a8, hbv⟩ := blk_agg s (k : Int)
      rw [hbv]
      have HBV := Go.Proofs.Ytpaakikgfojplaa.hid hbv
      have hB4 := hBr.keep P hb4
      have hbel4 := hbel.trans (hb4.mono hbel.size)
      clear hbv hBr c8 c0 hb4 hbel
      go_wp2_with fail
      generalize hA : w4.alloc (.cells #[.int .i64 a0, .int .i64 a1, .int .i64 a2, .int .i64 a3, .int .i64 a4, .int .i64 a5, .int .i64 a6, .int .i64 a7, .int .i64 a8] 102) = A at *
      obtain ⟨hsA, hbA, hAR⟩ := below_zero hA
      clear hA
      have hBA := hB4.keep P hbA
      refine (bline_any b xc gs cs ga ca s k _ hBA.book hw hlt).mono ?_
      rintro e w5 ⟨g5, c5, rfl, ho5, hb5⟩
      rw [HLL.out]
      have hB5 := hBA.keep P hb5
      have hR5 := (hb5.block w4.heap.size (by omega)).trans hAR
      have hbel5 := (hbel4.trans (hbA.mono hbel4.size)).trans (hb5.mono (by have := hbel4.size; omega))
      clear hB4 hBA hbA hAR hb5 hbel4 ho5 hsA
      go_wp2_with fail
      refine (bhas_any _ g1 c1 s.keep (k : Int) _ (row_keep HK3.out hbel5 (Nat.le_refl _)) (by omega)).mono ?_
      rintro e wx ⟨rfl, rfl⟩
      go_wp2_with fail
      refine (bhas_any _ g3 c3 O (k : Int) _ (row_keep HO3.out hbel5 (Nat.le_refl _)) (by omega)).mono ?_
      rintro e wx ⟨rfl, rfl⟩
      rw [HRV.out k]
      have x0 := cell_of_cells (j := 0) hR5 rfl
      have x1 := cell_of_cells (j := 1) hR5 rfl
      have x2 := cell_of_cells (j := 2) hR5 rfl
      have x3 := cell_of_cells (j := 3) hR5 rfl
      have x4 := cell_of_cells (j := 4) hR5 rfl
      have x5 := cell_of_cells (j := 5) hR5 rfl
      have x6 := cell_of_cells (j := 6) hR5 rfl
      have x7 := cell_of_cells (j := 7) hR5 rfl
      have x8 := cell_of_cells (j := 8) hR5 rfl
      have hc := hB5.book.hdr_at hlt
      have hp := hB5.book.par_at hlt
      have hh0 := hc.c0
      have hh1 := hc.c1
      have hh2 := hc.c2
      have hh3 := hc.c3
      have hh4 := hc.c4
      have hh5 := hc.c5
      have hh6 := hc.c6
      have c8 := cell_of_cells (j := 8) hB5.book.blk rfl
      have HXW : Hid (∀ n j v, (#[.int .i64 a0, .int .i64 a1, .int .i64 a2, .int .i64 a3, .int .i64 a4, .int .i64 a5, .int .i64 a6, .int .i64 a7, .int .i64 a8] : Array Value)[j]? = some v → (w5.drewN n).cell? ⟨w4.heap.size, j, none⟩ = some v) := fun n j v hj => cell_of_cells (w := w5.drewN n) hR5 hj
      clear hB5 hc hR5
      rcases HLC.out k hlt with ⟨e1, e2, d0, d1, d2, d3, d4, d5, d6, e3, e4⟩ | ⟨e1, e2, e3, e4⟩ | ⟨e1, e2, e3, e4⟩
      · rw [HBV.out] at e4
        simp only [Value.agg.injEq, Array.mk.injEq, List.cons.injEq, Value.int.injEq, true_and, and_true] at e4
        obtain ⟨rfl, rfl, rfl, rfl, rfl, rfl, rfl, rfl, rfl⟩ := e4
        rw [e3] at hh0 hh1 hh2 hh3 hh4 hh5 hh6
        simp only at hh0 hh1 hh2 hh3 hh4 hh5 hh6
        rw [e1, e2]
        clear e1 e2 e3 HXW HBV
        generalize pa s.all k = pk at *
        generalize height s.all k = hk' at *
        go_wp2
        go_quiet (fail)
        go_wp2
        go_roundw
        case rel => exact ⟨k + 1, by omega, by go_num, drawB hbel5 _⟩
        case measure => simp [intOf]; omega
      · rw [HBV.out] at e4
        simp only [Value.agg.injEq, Array.mk.injEq, List.cons.injEq, Value.int.injEq, true_and, and_true] at e4
        obtain ⟨rfl, rfl, rfl, rfl, rfl, rfl, rfl, rfl, rfl⟩ := e4
        rw [e1, e2, e3]
        clear e1 e2 e3 HBV
        go_wp2
        go_quiet (fail)
        have y0 := HXW.out nq 0 _ rfl
        have y1 := HXW.out nq 1 _ rfl
        have y2 := HXW.out nq 2 _ rfl
        have y3 := HXW.out nq 3 _ rfl
        have y4 := HXW.out nq 4 _ rfl
        have y5 := HXW.out nq 5 _ rfl
        have y6 := HXW.out nq 6 _ rfl
        have y7 := HXW.out nq 7 _ rfl
        have y8 := HXW.out nq 8 _ rfl
        go_wp2
        go_roundw
        case rel => exact ⟨k + 1, by omega, by go_num, drawB hbel5 _⟩
        case measure => simp [intOf]; omega
      · rw [HBV.out] at e4
        simp only [Value.agg.injEq, Array.mk.injEq, List.cons.injEq, Value.int.injEq, true_and, and_true] at e4
        obtain ⟨rfl, rfl, rfl, rfl, rfl, rfl, rfl, rfl, rfl⟩ := e4
        rw [e1, e2, e3]
        clear e1 e2 e3 HBV
        go_wp2
        go_quiet (fail)
        have y0 := HXW.out nq 0 _ rfl
        have y1 := HXW.out nq 1 _ rfl
        have y2 := HXW.out nq 2 _ rfl
        have y3 := HXW.out nq 3 _ rfl
        have y4 := HXW.out nq 4 _ rfl
        have y5 := HXW.out nq 5 _ rfl
        have y6 := HXW.out nq 6 _ rfl
        have y7 := HXW.out nq 7 _ rfl
        have y8 := HXW.out nq 8 _ rfl
        go_wp2
        go_roundw
        case rel => exact ⟨k + 1, by omega, by go_num, drawB hbel5 _⟩
        case measure => simp [intOf]; omega
    · obtain ⟨a0, a1, a2, a3, a4, a5, a6, a7, a8, hbv⟩ := blk_agg s ((s.all.length : Nat) : Int)
      obtain ⟨d0, d1, d2, d3, d4, d5, d6, d7, d8, hdv⟩ := blk_agg s (-1)
      have HOF := Go.Proofs.Ytpaakikgfojplaa.hid (fun (W' : World) (hW : Below wr.heap.size wr W') => (P.look W' xc F s ((s.all.length : Nat) : Int) (hBr.keep P hW).rep hv (i64_of (by omega) (by omega))).mono (fun _ w' ⟨h1, h2⟩ => And.intro (h1.trans (by rw [hbv, HN3.out])) (show Below wr.heap.size wr w' from hW.trans (h2.mono hW.size))))
      have HOG := Go.Proofs.Ytpaakikgfojplaa.hid (fun (W' : World) (hW : Below (wr.heap.size + 1) (wr.alloc (.cells #[.int .i64 0, .int .i64 0, .int .i64 0, .int .i64 0, .int .i64 0, .int .i64 0, .int .i64 0, .int .i64 0, .int .i64 0] 102)) W') => (P.look W' xc F s ((s.all.length : Nat) : Int) ((hBr.keep P ((Below.refl _ _).alloc (Nat.le_refl _) _)).keep P (by rw [show (wr.alloc (.cells #[.int .i64 0, .int .i64 0, .int .i64 0, .int .i64 0, .int .i64 0, .int .i64 0, .int .i64 0, .int .i64 0, .int .i64 0] 102)).heap.size = wr.heap.size + 1 by simp]; exact hW)).rep hv (i64_of (by omega) (by omega))).mono (fun _ w' ⟨h1, h2⟩ => And.intro (h1.trans (by rw [hbv, HN3.out])) (show Below wr.heap.size wr w' ∧ Nine w' wr.heap.size from ⟨(((Below.refl _ _).alloc (Nat.le_refl _) _).trans (hW.mono (by omega))).trans (h2.mono (by have := hW.size; simp at this; omega)), nine_of ((h2.block _ (by have := hW.size; simp at this; omega)).trans ((hW.block _ (by omega)).trans (heap_alloc_new wr _)))⟩)))
      have hbl : b < wr.heap.size := lt_of_block hBr.book.blk
      have hbne : b ≠ wr.heap.size := Nat.ne_of_lt hbl
      have d0 : ∀ ob, (wr.alloc ob).cell? ⟨b, 0, none⟩ = some (.pointer (some ⟨xc, 0, none⟩)) := fun ob => (World.cell?_alloc_past _ _ _ hbl).trans c0
      have d8 : ∀ ob, (wr.alloc ob).cell? ⟨b, 8, none⟩ = some (.slice (some ⟨ga, 0, none⟩) s.all.length ca) := fun ob => (World.cell?_alloc_past _ _ _ hbl).trans c8
      have HBR := Go.Proofs.Ytpaakikgfojplaa.hid hBr
      have HDV := Go.Proofs.Ytpaakikgfojplaa.hid hdv
      have HBL := Go.Proofs.Ytpaakikgfojplaa.hid hbel
      clear hbv hdv hBr hbel
      go_wp2_with fail
      go_cut [11, 12] (fun q e wx => (∃ x, q = .pointer (some x)) ∧ e = .int .i64 3 ∧ Below wr.heap.size wr wx)
      case first =>
        go_region_held3 (fun w' => w'.cell? ⟨b, 0, none⟩ = some (.pointer (some ⟨xc, 0, none⟩)) ∧ w'.cell? ⟨b, 8, none⟩ = some (.slice (some ⟨ga, 0, none⟩) s.all.length ca)) (first | go_keep | exact ⟨(cell_set9 hbne _ _ _ _ _ _ _ _ _ _).trans m0, (cell_set9 hbne _ _ _ _ _ _ _ _ _ _).trans m8⟩) ((go_at_call 64; first | (refine (HOF.out _ (by first | exact Below.refl _ _ | exact (Below.refl _ _).drew | exact (Below.refl _ _).drew.drew)).mono ?_; rintro e w6 ⟨rfl, hL6⟩; have m0 := (hL6.cell (p := ⟨b, 0, none⟩) hbl).trans c0; have m8 := (hL6.cell (p := ⟨b, 8, none⟩) hbl).trans c8) | (refine (HOG.out _ (by first | exact Below.refl _ _ | exact (Below.refl _ _).drew | exact (Below.refl _ _).drew.drew)).mono ?_; rintro e w6 ⟨rfl, hL6, hN6⟩; have m0 := (hL6.cell (p := ⟨b, 0, none⟩) hbl).trans c0; have m8 := (hL6.cell (p := ⟨b, 8, none⟩) hbl).trans c8; have hN6' := hN6; obtain ⟨z0, z1, z2, z3, z4, z5, z6, z7, z8, zf, zf0⟩ := hN6'; have y0 := zf0; have y1 := (zf 1).trans zf0; have y2 := (zf 2).trans zf0; have y3 := (zf 3).trans zf0; have y4 := (zf 4).trans zf0; have y5 := (zf 5).trans zf0; have y6 := (zf 6).trans zf0; have y7 := (zf 7).trans zf0; have y8 := (zf 8).trans zf0; clear zf zf0)))
        all_goals
          go_wp2_with fail
          go_meet
          case rel =>
            first
              | exact ⟨⟨_, rfl⟩, rfl, below_set9 hN6 hL6 _ _ _ _ _ _ _ _ _⟩
              | exact ⟨⟨_, rfl⟩, rfl, hL6.alloc hL6.size _⟩
      case rest =>
      obtain ⟨⟨x, rfl⟩, rfl, hbc⟩ := hcut
      have hBc := HBR.out.keep P hbc
      have HBC := Go.Proofs.Ytpaakikgfojplaa.hid (HBL.out.trans (hbc.mono HBL.out.size))
      clear c0 c8 d0 d8
      have c0 := cell_of_cells (j := 0) hBc.book.blk rfl
      go_wp2_with fail
      refine (P.look wc xc F s (-1) hBc.rep hv (i64_of (by omega) (by omega))).mono ?_
      rintro e w7 ⟨rfl, hb7⟩
      rw [HDV.out, HM3.out]
      have HB7 := Go.Proofs.Ytpaakikgfojplaa.hid (HBC.out.trans (hb7.mono HBC.out.size))
      clear hBc hb7 c0
      go_wp2
      go_ret
      exact ⟨rfl, HW3.out.trans ((HB7.out.alloc HB7.out.size _).mono HW3.out.size)⟩

end Go.Proofs.Ytpaakikgfojplaa

