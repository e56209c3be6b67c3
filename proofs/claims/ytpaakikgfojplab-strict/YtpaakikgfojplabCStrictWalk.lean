import Derived.Test.YtpaakikgfojplabCSpoilt
import Derived.Test.YtpaakikgfojplabCMovedWalk
/-
  THE WALK of the law Strict, under what the program's chain owes.
-/
namespace Go.Proofs.Ytpaakikgfojplab
open Go.RowKit Num Bk
set_option linter.unusedVariables false

theorem cell_set7 {w : World} {q b : Nat} (h : b ≠ q) (v0 v1 v2 v3 v4 v5 v6 : Value) (j : Nat) : (((((((w.setCell ⟨q, 0, none⟩ v0).setCell ⟨q, 1, none⟩ v1).setCell ⟨q, 2, none⟩ v2).setCell ⟨q, 3, none⟩ v3).setCell ⟨q, 4, none⟩ v4).setCell ⟨q, 5, none⟩ v5).setCell ⟨q, 6, none⟩ v6).cell? ⟨b, j, none⟩ = w.cell? ⟨b, j, none⟩ := by
  have key : ∀ (W : World) (o : Nat) (v : Value), (W.setCell ⟨q, o, none⟩ v).cell? ⟨b, j, none⟩ = W.cell? ⟨b, j, none⟩ := fun W o v => World.cell?_of_block (Below.heap_setCell _ _ _ _ h)
  simp only [key]
theorem heap_set7 {w : World} {q : Nat} {u0 u1 u2 u3 u4 u5 u6 : Value} {t : TypeId} (h : w.heap[q]? = some (.cells #[u0, u1, u2, u3, u4, u5, u6] t (0, 0))) (v0 v1 v2 v3 v4 v5 v6 : Value) : (((((((w.setCell ⟨q, 0, none⟩ v0).setCell ⟨q, 1, none⟩ v1).setCell ⟨q, 2, none⟩ v2).setCell ⟨q, 3, none⟩ v3).setCell ⟨q, 4, none⟩ v4).setCell ⟨q, 5, none⟩ v5).setCell ⟨q, 6, none⟩ v6).heap[q]? = some (.cells #[v0, v1, v2, v3, v4, v5, v6] t (0, 0)) := by
  have h0 : (w.setCell ⟨q, 0, none⟩ v0).heap[q]? = some (.cells #[v0, u1, u2, u3, u4, u5, u6] t (0, 0)) := by
    rw [heap_setCell_same _ q 0 _ t v0 h]; rfl
  have h1 : ((w.setCell ⟨q, 0, none⟩ v0).setCell ⟨q, 1, none⟩ v1).heap[q]? = some (.cells #[v0, v1, u2, u3, u4, u5, u6] t (0, 0)) := by
    rw [heap_setCell_same _ q 1 _ t v1 h0]; rfl
  have h2 : (((w.setCell ⟨q, 0, none⟩ v0).setCell ⟨q, 1, none⟩ v1).setCell ⟨q, 2, none⟩ v2).heap[q]? = some (.cells #[v0, v1, v2, u3, u4, u5, u6] t (0, 0)) := by
    rw [heap_setCell_same _ q 2 _ t v2 h1]; rfl
  have h3 : ((((w.setCell ⟨q, 0, none⟩ v0).setCell ⟨q, 1, none⟩ v1).setCell ⟨q, 2, none⟩ v2).setCell ⟨q, 3, none⟩ v3).heap[q]? = some (.cells #[v0, v1, v2, v3, u4, u5, u6] t (0, 0)) := by
    rw [heap_setCell_same _ q 3 _ t v3 h2]; rfl
  have h4 : (((((w.setCell ⟨q, 0, none⟩ v0).setCell ⟨q, 1, none⟩ v1).setCell ⟨q, 2, none⟩ v2).setCell ⟨q, 3, none⟩ v3).setCell ⟨q, 4, none⟩ v4).heap[q]? = some (.cells #[v0, v1, v2, v3, v4, u5, u6] t (0, 0)) := by
    rw [heap_setCell_same _ q 4 _ t v4 h3]; rfl
  have h5 : ((((((w.setCell ⟨q, 0, none⟩ v0).setCell ⟨q, 1, none⟩ v1).setCell ⟨q, 2, none⟩ v2).setCell ⟨q, 3, none⟩ v3).setCell ⟨q, 4, none⟩ v4).setCell ⟨q, 5, none⟩ v5).heap[q]? = some (.cells #[v0, v1, v2, v3, v4, v5, u6] t (0, 0)) := by
    rw [heap_setCell_same _ q 5 _ t v5 h4]; rfl
  rw [heap_setCell_same _ q 6 _ t v6 h5]; rfl

/-- A block of seven noughts that lies ahead of a call. -/
structure Seven (w' : World) (q : Nat) : Prop where
  z0 : w'.cell? ⟨q, 0, none⟩ = some (.int .i64 0)
  z1 : w'.cell? ⟨q, 1, none⟩ = some (.int .i64 0)
  z2 : w'.cell? ⟨q, 2, none⟩ = some (.int .i64 0)
  z3 : w'.cell? ⟨q, 3, none⟩ = some (.int .i64 0)
  z4 : w'.cell? ⟨q, 4, none⟩ = some (.int .i64 0)
  z5 : w'.cell? ⟨q, 5, none⟩ = some (.int .i64 0)
  z6 : w'.cell? ⟨q, 6, none⟩ = some (.int .i64 0)
  f : ∀ j, w'.frozen? ⟨q, j, none⟩ = w'.frozen? ⟨q, 0, none⟩
  f0 : w'.frozen? ⟨q, 0, none⟩ = false
  blk : w'.heap[q]? = some (.cells #[.int .i64 0, .int .i64 0, .int .i64 0, .int .i64 0, .int .i64 0, .int .i64 0, .int .i64 0] 42 (0, 0))
theorem seven_of {w' : World} {q : Nat} (h : w'.heap[q]? = some (.cells #[.int .i64 0, .int .i64 0, .int .i64 0, .int .i64 0, .int .i64 0, .int .i64 0, .int .i64 0] 42 (0, 0))) : Seven w' q :=
  ⟨cell_of_cells (j := 0) h rfl, cell_of_cells (j := 1) h rfl, cell_of_cells (j := 2) h rfl, cell_of_cells (j := 3) h rfl, cell_of_cells (j := 4) h rfl, cell_of_cells (j := 5) h rfl, cell_of_cells (j := 6) h rfl, fun j => (free_of_cells (j := j) h).trans (free_of_cells (j := 0) h).symm, free_of_cells (j := 0) h, h⟩

/-- What follows a call ahead of which a block of noughts was made. -/
theorem seven_call {W W' w' : World} (hW : Below (W.heap.size + 1) (W.alloc (.cells #[.int .i64 0, .int .i64 0, .int .i64 0, .int .i64 0, .int .i64 0, .int .i64 0, .int .i64 0] 42)) W') (h2 : Below W'.heap.size W' w') : Below W.heap.size W w' ∧ Seven w' W.heap.size := by
  have hs := hW.size
  simp at hs
  exact ⟨(((Below.refl _ _).alloc (Nat.le_refl _) _).trans (hW.mono (by omega))).trans (h2.mono (by omega)), seven_of ((h2.block _ (by omega)).trans ((hW.block _ (by omega)).trans (heap_alloc_new W _)))⟩

theorem below_set7 {W w : World} (_ : Seven w W.heap.size) (hb : Below W.heap.size W w) (v0 v1 v2 v3 v4 v5 v6 : Value) : Below W.heap.size W (((((((w.setCell ⟨W.heap.size, 0, none⟩ v0).setCell ⟨W.heap.size, 1, none⟩ v1).setCell ⟨W.heap.size, 2, none⟩ v2).setCell ⟨W.heap.size, 3, none⟩ v3).setCell ⟨W.heap.size, 4, none⟩ v4).setCell ⟨W.heap.size, 5, none⟩ v5).setCell ⟨W.heap.size, 6, none⟩ v6) :=
  ((((((hb.setCell (Nat.le_refl _) v0).setCell (Nat.le_refl _) v1).setCell (Nat.le_refl _) v2).setCell (Nat.le_refl _) v3).setCell (Nat.le_refl _) v4).setCell (Nat.le_refl _) v5).setCell (Nat.le_refl _) v6

theorem opt_agg (mh : Option Hdr) : ∃ a0 a1 a2 a3 a4 a5 a6, optV mh = .agg #[.int .i64 a0, .int .i64 a1, .int .i64 a2, .int .i64 a3, .int .i64 a4, .int .i64 a5, .int .i64 a6] ∧ ∀ h, mh = some h → h = ⟨a0, a1, a2, a3, a4, a5, a6⟩ := by
  cases mh with
  | none => exact ⟨_, _, _, _, _, _, _, rfl, fun h e => by cases e⟩
  | some h => exact ⟨_, _, _, _, _, _, _, rfl, fun g e => by cases e; rfl⟩

theorem turn_agg (s : St) (id slot pool : Int) : ∃ a b c d, turnV s id slot pool = .agg #[.int .i64 a, .int .i64 b, .int .i64 c, .bool d] := by
  unfold turnV
  split
  · exact ⟨_, _, _, _, rfl⟩
  · exact ⟨_, _, _, _, rfl⟩

set_option maxHeartbeats 12800000 in
set_option maxRecDepth 1000000 in
theorem strict_any {Rep : World → Nat → (Nat → Prop) → St → Prop} (P : PSpec Rep) (a : Option Addr) (cap : Nat) (z : List Int) (a2 : Option Addr) (cap2 : Nat) (l : List Stp) (o : Stp) (how : Int) (w : World) (hz : RawAt w a z) (hl : StepsAt w a2 l) (hlm : l.length ≤ maxLen) (ho : StpI o) (hh : I64 how) :
    Calls Try.prog 4 #[.slice a z.length cap, .slice a2 l.length cap2, stpV o, .int .i64 how] w fun e w' => e = .returned (.bool true) ∧ Below w.heap.size w w' := by
  obtain ⟨oA, oB, oC, oD⟩ := o
  unfold stpV
  go_enter Try.func4, Try.ntmps4
  go_wp2_with fail
  generalize hA : w.alloc (.cells #[.int .i64 oA, .int .i64 oB, .int .i64 oC, .int .i64 oD] 36) = A at *
  obtain ⟨hsA, hbA, hAo⟩ := below_zero hA
  clear hA
  refine (played_any P a cap z a2 cap2 l A (hz.keep hbA) (hl.keep hbA) hlm).mono ?_
  rintro e w1 ⟨b, xc, gs, cs, ga, ca, F, rfl, hN⟩
  clear hz hl hlm
  generalize playS (Bk.start (parOf z)) l = s at *
  have hv := hN.1.inv
  have hsm := hv.wk.small
  have hkl := hv.wk.kl
  obtain ⟨hpm, hpl⟩ := stepP_mem hv ⟨oA, oB, oC, oD⟩
  have hpp := inv_lt hv hpm
  have hpd : stepP s ⟨oA, oB, oC, oD⟩ = s.keep.getD (pickI oA s.keep.length).toNat 0 := rfl
  have hpb := pickI_bounds oA s.keep.length (by omega)
  obtain ⟨kN, hkN⟩ : ∃ kN : Nat, pickI oA s.keep.length = (kN : Int) := ⟨(pickI oA s.keep.length).toNat, by omega⟩
  have HKN := Go.Proofs.Ytpaakikgfojplab.hid hkN
  have hpl' : kN < s.keep.length := by
    have : (pickI oA s.keep.length).toNat < s.keep.length := hpl
    omega
  rw [hkN, Int.toNat_natCast] at hpd
  clear hpl hkN hpb
  go_wp2_with fail
  refine (bkept_any b xc gs cs ga ca s _ hN.1.book hv).mono ?_
  rintro e w2 ⟨g, capk, rfl, hown, hb2⟩
  have hN2 := hN.below P hb2
  have hAo2 := (hN2.2.1.block w.heap.size (by omega)).trans hAo
  have o0 := cell_of_cells (j := 0) hAo2 rfl
  have o1 := cell_of_cells (j := 1) hAo2 rfl
  have o2 := cell_of_cells (j := 2) hAo2 rfl
  have o3 := cell_of_cells (j := 3) hAo2 rfl
  have ck := (hown.cellAt kN (by omega)).trans (dcells_at s.keep kN hpl')
  rw [← hpd] at ck
  clear hN hb2 hown hAo2 hpd
  go_wp2_with fail
  refine (pick_is oA (s.keep.length : Int) _ ho.a (by omega) (by omega)).mono ?_
  rintro e wx ⟨rfl, rfl⟩
  rw [HKN.out]
  clear HKN
  generalize stepP s ⟨oA, oB, oC, oD⟩ = pid at *
  go_wp2_with fail
  refine (made_any P b xc gs cs ga ca s F pid ⟨oA, oB, oC, oD⟩ _ hN2.1.book hN2.1.rep hv hpm ho hN2.1.n1 hN2.1.n2 hN2.1.n3).mono ?_
  rintro e w3 ⟨rfl, hL3⟩
  obtain ⟨F3, r3, f3, n3⟩ := hL3
  have hN3 := hN2.left r3 f3 n3
  have hF3 := P.lt r3
  clear hN2 r3 f3 n3 o0 o1 o2 o3 ck
  have HMK := Go.Proofs.Ytpaakikgfojplab.hid (fun h => made_ok hv hpm (o := ⟨oA, oB, oC, oD⟩) (h := h))
  generalize madeH s pid ⟨oA, oB, oC, oD⟩ = mh at *
  obtain ⟨a0, a1, a2', a3, a4, a5, a6, hov, hoh⟩ := opt_agg mh
  have HOH := Go.Proofs.Ytpaakikgfojplab.hid hoh
  rw [hov]
  have hsz3 := hN3.2.1.size
  generalize hsm' : mh.isSome = sm at *
  have HSM := Go.Proofs.Ytpaakikgfojplab.hid hsm'
  clear hov hoh hsm'
  go_upto_if 54 with fail
  generalize hH : w3.alloc (.cells #[.int .i64 a0, .int .i64 a1, .int .i64 a2', .int .i64 a3, .int .i64 a4, .int .i64 a5, .int .i64 a6] 42) = H at *
  obtain ⟨hsH, hbH, hHo⟩ := below_zero hH
  clear hH
  have hNH := hN3.below P hbH
  have HNH := Go.Proofs.Ytpaakikgfojplab.hid hNH
  clear hN3 hbH hNH
  go_cut [15] (fun u wx => ∃ F', New Rep A wx b xc gs cs ga ca F' s)
  case first =>
    cases sm
    · go_wp2
      go_meet
      case rel => exact ⟨F3, HNH.out⟩
    · obtain ⟨h, rfl⟩ : ∃ h, mh = some h := Option.isSome_iff_exists.1 HSM.out
      have hmo := HMK.out h rfl
      have hhe := HOH.out h rfl
      subst hhe
      clear HMK HOH HSM
      have hkb := pickI_bounds how 12 (by omega)
      obtain ⟨hse, hsne, hsi⟩ := spoilt_err hv hpm hmo (pickI how 12) hkb.1 hkb.2
      obtain ⟨hso1, hso2⟩ := offer_bad hse hsne
      have HSPF := Go.Proofs.Ytpaakikgfojplab.hid (fun (W' : World) (hW : Below H.heap.size H W') => (spoilt_any P b xc gs cs ga ca s F3 pid ⟨a0, a1, a2', a3, a4, a5, a6⟩ (pickI how 12) W' (HNH.out.below P hW).1 hpm hmo hkb.1 hkb.2).mono (fun _ w' ⟨h1, h2⟩ => And.intro h1 (show Below H.heap.size H w' from hW.trans (h2.mono hW.size))))
      have HSPG := Go.Proofs.Ytpaakikgfojplab.hid (fun (W' : World) (hW : Below (H.heap.size + 1) (H.alloc (.cells #[.int .i64 0, .int .i64 0, .int .i64 0, .int .i64 0, .int .i64 0, .int .i64 0, .int .i64 0] 42)) W') => (spoilt_any P b xc gs cs ga ca s F3 pid ⟨a0, a1, a2', a3, a4, a5, a6⟩ (pickI how 12) W' ((HNH.out.below P ((Below.refl _ _).alloc (Nat.le_refl _) _)).below P (by rw [show (H.alloc (.cells #[.int .i64 0, .int .i64 0, .int .i64 0, .int .i64 0, .int .i64 0, .int .i64 0, .int .i64 0] 42)).heap.size = H.heap.size + 1 by simp]; exact hW)).1 hpm hmo hkb.1 hkb.2).mono (fun _ w' ⟨h1, h2⟩ => And.intro h1 (seven_call hW h2)))
      have HHR : Hid (Calls Try.prog 18 #[.int .i64 how, .int .i64 12] H fun e w' => True) := (pick_is how 12 H hh (by omega) (by omega)).mono (fun _ _ _ => trivial)
      clear HHR
      generalize spoiltH s pid ⟨a0, a1, a2', a3, a4, a5, a6⟩ (pickI how 12) = X at *
      generalize spoiltE (pickI how 12) = E at *
      generalize hpk : pickI how 12 = pk at *
      have HPK := Go.Proofs.Ytpaakikgfojplab.hid hpk
      obtain ⟨x0, x1, x2, x3, x4, x5, x6⟩ := X
      have q0 := cell_of_cells (j := 0) hHo rfl
      have q1 := cell_of_cells (j := 1) hHo rfl
      have q2 := cell_of_cells (j := 2) hHo rfl
      have q3 := cell_of_cells (j := 3) hHo rfl
      have q4 := cell_of_cells (j := 4) hHo rfl
      have q5 := cell_of_cells (j := 5) hHo rfl
      have q6 := cell_of_cells (j := 6) hHo rfl
      have hlH : w3.heap.size < H.heap.size := by omega
      have hneH : w3.heap.size ≠ H.heap.size := by omega
      have hsH' : w3.heap.size + 1 ≤ H.heap.size := by omega
      clear hsH
      have qd0 : ∀ ob, (H.alloc ob).cell? ⟨w3.heap.size, 0, none⟩ = some (.int .i64 a0) := fun ob => (World.cell?_alloc_past _ _ _ hlH).trans q0
      have qd1 : ∀ ob, (H.alloc ob).cell? ⟨w3.heap.size, 1, none⟩ = some (.int .i64 a1) := fun ob => (World.cell?_alloc_past _ _ _ hlH).trans q1
      have qd2 : ∀ ob, (H.alloc ob).cell? ⟨w3.heap.size, 2, none⟩ = some (.int .i64 a2') := fun ob => (World.cell?_alloc_past _ _ _ hlH).trans q2
      have qd3 : ∀ ob, (H.alloc ob).cell? ⟨w3.heap.size, 3, none⟩ = some (.int .i64 a3) := fun ob => (World.cell?_alloc_past _ _ _ hlH).trans q3
      have qd4 : ∀ ob, (H.alloc ob).cell? ⟨w3.heap.size, 4, none⟩ = some (.int .i64 a4) := fun ob => (World.cell?_alloc_past _ _ _ hlH).trans q4
      have qd5 : ∀ ob, (H.alloc ob).cell? ⟨w3.heap.size, 5, none⟩ = some (.int .i64 a5) := fun ob => (World.cell?_alloc_past _ _ _ hlH).trans q5
      have qd6 : ∀ ob, (H.alloc ob).cell? ⟨w3.heap.size, 6, none⟩ = some (.int .i64 a6) := fun ob => (World.cell?_alloc_past _ _ _ hlH).trans q6
      have hse' := Go.Proofs.Ytpaakikgfojplab.hid hse
      have hmi := Go.Proofs.Ytpaakikgfojplab.hid hmo.is
      clear hse hpk hmo
      go_upto_region 10 with fail
      go_cut [15, 16] (fun q e wx => ∃ Y, q = .pointer (some ⟨Y, 0, none⟩) ∧ e = .int .i64 E ∧ wx.heap[Y]? = some (.cells #[.int .i64 x0, .int .i64 x1, .int .i64 x2, .int .i64 x3, .int .i64 x4, .int .i64 x5, .int .i64 x6] 42 (0, 0)) ∧ H.heap.size ≤ Y ∧ Below H.heap.size H wx)
      case first =>
        go_region_held3 (fun w' => w'.cell? ⟨w3.heap.size, 0, none⟩ = some (.int .i64 a0) ∧ w'.cell? ⟨w3.heap.size, 1, none⟩ = some (.int .i64 a1) ∧ w'.cell? ⟨w3.heap.size, 2, none⟩ = some (.int .i64 a2') ∧ w'.cell? ⟨w3.heap.size, 3, none⟩ = some (.int .i64 a3) ∧ w'.cell? ⟨w3.heap.size, 4, none⟩ = some (.int .i64 a4) ∧ w'.cell? ⟨w3.heap.size, 5, none⟩ = some (.int .i64 a5) ∧ w'.cell? ⟨w3.heap.size, 6, none⟩ = some (.int .i64 a6)) (first | go_keep | exact ⟨(cell_set7 hneH _ _ _ _ _ _ _ _).trans m0, (cell_set7 hneH _ _ _ _ _ _ _ _).trans m1, (cell_set7 hneH _ _ _ _ _ _ _ _).trans m2, (cell_set7 hneH _ _ _ _ _ _ _ _).trans m3, (cell_set7 hneH _ _ _ _ _ _ _ _).trans m4, (cell_set7 hneH _ _ _ _ _ _ _ _).trans m5, (cell_set7 hneH _ _ _ _ _ _ _ _).trans m6⟩) ((first | (go_at_call 18; refine (pick_is how 12 _ hh (by omega) (by omega)).mono ?_; rintro e wq ⟨rfl, rfl⟩; rw [HPK.out]) | (go_at_call 20; first | (refine (HSPF.out _ (by first | exact Below.refl _ _ | exact (Below.refl _ _).drew | exact (Below.refl _ _).drew.drew)).mono ?_; rintro e w6 ⟨rfl, hL6⟩; unfold hdrV; have m0 := (hL6.cell (p := ⟨w3.heap.size, 0, none⟩) hlH).trans q0; have m1 := (hL6.cell (p := ⟨w3.heap.size, 1, none⟩) hlH).trans q1; have m2 := (hL6.cell (p := ⟨w3.heap.size, 2, none⟩) hlH).trans q2; have m3 := (hL6.cell (p := ⟨w3.heap.size, 3, none⟩) hlH).trans q3; have m4 := (hL6.cell (p := ⟨w3.heap.size, 4, none⟩) hlH).trans q4; have m5 := (hL6.cell (p := ⟨w3.heap.size, 5, none⟩) hlH).trans q5; have m6 := (hL6.cell (p := ⟨w3.heap.size, 6, none⟩) hlH).trans q6) | (refine (HSPG.out _ (by first | exact Below.refl _ _ | exact (Below.refl _ _).drew | exact (Below.refl _ _).drew.drew)).mono ?_; rintro e w6 ⟨rfl, hL6, hN6⟩; unfold hdrV; have m0 := (hL6.cell (p := ⟨w3.heap.size, 0, none⟩) hlH).trans q0; have m1 := (hL6.cell (p := ⟨w3.heap.size, 1, none⟩) hlH).trans q1; have m2 := (hL6.cell (p := ⟨w3.heap.size, 2, none⟩) hlH).trans q2; have m3 := (hL6.cell (p := ⟨w3.heap.size, 3, none⟩) hlH).trans q3; have m4 := (hL6.cell (p := ⟨w3.heap.size, 4, none⟩) hlH).trans q4; have m5 := (hL6.cell (p := ⟨w3.heap.size, 5, none⟩) hlH).trans q5; have m6 := (hL6.cell (p := ⟨w3.heap.size, 6, none⟩) hlH).trans q6; have hN6' := hN6; obtain ⟨z0, z1, z2, z3, z4, z5, z6, zf, zf0, _⟩ := hN6'; have y0 := zf0; have y1 := (zf 1).trans zf0; have y2 := (zf 2).trans zf0; have y3 := (zf 3).trans zf0; have y4 := (zf 4).trans zf0; have y5 := (zf 5).trans zf0; have y6 := (zf 6).trans zf0; clear zf zf0))))
        all_goals
          go_wp2_with fail
          go_meet
          case rel =>
            first
              | exact ⟨H.heap.size, rfl, rfl, heap_set7 hN6.blk _ _ _ _ _ _ _, Nat.le_refl _, below_set7 hN6 hL6 _ _ _ _ _ _ _⟩
              | exact ⟨w6.heap.size, rfl, rfl, heap_alloc_new _ _, hL6.size, hL6.alloc hL6.size _⟩
      case rest =>
      obtain ⟨Y, rfl, rfl, hY, hYl, hbc⟩ := hcut
      have hNc := HNH.out.below P hbc
      have hHc := (hbc.block w3.heap.size hlH).trans hHo
      clear q0 q1 q2 q3 q4 q5 q6 qd0 qd1 qd2 qd3 qd4 qd5 qd6 HSPF HSPG HNH hHo
      have y0 := cell_of_cells (j := 0) hY rfl
      have y1 := cell_of_cells (j := 1) hY rfl
      have y2 := cell_of_cells (j := 2) hY rfl
      have y3 := cell_of_cells (j := 3) hY rfl
      have y4 := cell_of_cells (j := 4) hY rfl
      have y5 := cell_of_cells (j := 5) hY rfl
      have y6 := cell_of_cells (j := 6) hY rfl
      have c0 := cell_of_cells (j := 0) hNc.1.book.blk rfl
      have HOF := Go.Proofs.Ytpaakikgfojplab.hid (fun (W' : World) (hW : Below wc.heap.size wc W') => (P.offer W' xc F3 s (pid : Int) ⟨x0, x1, x2, x3, x4, x5, x6⟩ (P.keep hNc.1.rep hW) hv (i64_of (by omega) (by omega)) hsi).mono (fun _ w' ⟨h1, h2⟩ => And.intro (h1.trans (by rw [hso2, hse'.out])) (show Left Rep wc w' xc F3 s from by rw [hso1] at h2; exact Left.from h2 hW)))
      have HNC := Go.Proofs.Ytpaakikgfojplab.hid hNc
      clear hNc
      go_wp2_with fail
      go_cut [17, 18] (fun i e wx => i = .int .i64 0 ∧ e = .int .i64 E ∧ Left Rep wc wx xc F3 s)
      case first =>
        go_region_with ((go_at_call 21; refine (HOF.out _ (by first | exact Below.refl _ _ | exact (Below.refl _ _).drew | exact (Below.refl _ _).drew.drew)).mono ?_; rintro e w6 ⟨rfl, hL6⟩))
        all_goals
          go_wp2_with fail
          go_meet
          case rel => exact ⟨rfl, rfl, by first | exact hL6 | exact hL6.below P (Below.refl _ _).drew⟩
      case rest =>
      obtain ⟨rfl, rfl, hL6⟩ := hcut
      have hnF : ¬ F3 w3.heap.size := fun h => by have := hF3 _ h; omega
      have hH6 := (hL6.block (k := w3.heap.size) (by have := hbc.size; omega) hnF).trans hHc
      obtain ⟨F6, r6, f6, n6⟩ := hL6
      have hN6 := HNC.out.left r6 f6 n6
      clear y0 y1 y2 y3 y4 y5 y6 c0 HOF HNC hY hHc r6 f6 n6
      have q0 := cell_of_cells (j := 0) hH6 rfl
      have q1 := cell_of_cells (j := 1) hH6 rfl
      have q2 := cell_of_cells (j := 2) hH6 rfl
      have q3 := cell_of_cells (j := 3) hH6 rfl
      have q4 := cell_of_cells (j := 4) hH6 rfl
      have q5 := cell_of_cells (j := 5) hH6 rfl
      have q6 := cell_of_cells (j := 6) hH6 rfl
      have c0 := cell_of_cells (j := 0) hN6.1.book.blk rfl
      have c8 := cell_of_cells (j := 8) hN6.1.book.blk rfl
      obtain ⟨hnv1, hnv2⟩ := never_err hv ⟨a0, a1, a2', a3, a4, a5, a6⟩
      obtain ⟨hno1, hno2⟩ := offer_bad hnv2 (by decide)
      have HOF := Go.Proofs.Ytpaakikgfojplab.hid (fun (W' : World) (hW : Below wc.heap.size wc W') => (P.offer W' xc F6 s ((s.all.length : Nat) : Int) ⟨a0, a1, a2', a3, a4, a5, a6⟩ (P.keep hN6.1.rep hW) hv (i64_of (by omega) (by omega)) hmi.out).mono (fun _ w' ⟨h1, h2⟩ => And.intro (h1.trans (by rw [hno2, hnv2])) (show Left Rep wc w' xc F6 s from by rw [hno1] at h2; exact Left.from h2 hW)))
      have HN6 := Go.Proofs.Ytpaakikgfojplab.hid hN6
      clear hN6 hnv1 hnv2 hno1 hno2
      go_wp2_with fail
      go_cut [19, 20] (fun i e wx => i = .int .i64 0 ∧ e = .int .i64 3 ∧ Left Rep wc wx xc F6 s)
      case first =>
        go_region_with ((go_at_call 21; refine (HOF.out _ (by first | exact Below.refl _ _ | exact (Below.refl _ _).drew | exact (Below.refl _ _).drew.drew)).mono ?_; rintro e w6 ⟨rfl, hL6⟩))
        all_goals
          go_wp2_with fail
          go_meet
          case rel => exact ⟨rfl, rfl, by first | exact hL6 | exact hL6.below P (Below.refl _ _).drew⟩
      case rest =>
      obtain ⟨rfl, rfl, F7, r7, f7, n7⟩ := hcut
      have HN7 := Go.Proofs.Ytpaakikgfojplab.hid (HN6.out.left r7 f7 n7)
      clear q0 q1 q2 q3 q4 q5 q6 c0 c8 HOF HN6 r7 f7 n7 hH6
      go_wp2
      go_meet
      case rel => exact ⟨F7, HN7.out⟩
  case rest =>
  obtain ⟨F5, hN5⟩ := hcut
  have HN5 := Go.Proofs.Ytpaakikgfojplab.hid hN5
  have HAO := Go.Proofs.Ytpaakikgfojplab.hid hAo
  have hbb := begins_bounds hv hpp
  have hl1 := hv.par.l1
  have hl2 := hv.par.l2
  have HBE := Go.Proofs.Ytpaakikgfojplab.hid (show (if pid = 0 then 0 else (hd s.all pid).slot + 1) = beginsAt s pid from rfl)
  have hAw : w.heap.size < A.heap.size := by omega
  clear HNH HMK HOH HSM hHo hsH hF3 hsz3 hN5 hAo hsA
  by_cases hbig : 10000 < beginsAt s pid
  · go_wp2
    go_loopw [21] (fun i wr => i = .int .i64 0 ∧ ∃ F, Hid (New Rep A wr b xc gs cs ga ca F s)) (fun i _ => 1)
    case atStart => exact ⟨rfl, F5, HN5⟩
    case round =>
      clear HN5
      obtain ⟨rfl, F, HN⟩ := hrel
      have c7 := cell_of_cells (j := 7) HN.out.1.book.blk rfl
      have hn0 : (0 : Int) < ((s.par.stakes.length : Nat) : Int) := by omega
      go_wp2_with fail
      refine (begins_any b xc gs cs ga ca s pid _ HN.out.1.book hv hpp).mono ?_
      rintro e wx ⟨rfl, rfl⟩
      rw [HBE.out]
      have c0 := cell_of_cells (j := 0) HN.out.1.book.blk rfl
      go_wp2_with fail
      refine (P.turn wr xc F s (pid : Int) (beginsAt s pid) 0 HN.out.1.rep hv (i64_of (by omega) (by omega)) (i64_of (by omega) (by omega)) (i64_of (by omega) (by omega))).mono ?_
      rintro e w2 ⟨rfl, F2, r2, f2, n2⟩
      have hN2 := HN.out.left r2 f2 n2
      obtain ⟨t0, t1, t2, t3, htv⟩ := turn_agg s (pid : Int) (beginsAt s pid) 0
      rw [htv]
      clear htv r2 f2 n2 HN c0 c7
      generalize turnErr s (pid : Int) (beginsAt s pid) 0 = te at *
      generalize beginsAt s pid = bg at *
      go_wp2_with fail
      generalize hT : w2.alloc (.cells #[.int .i64 t0, .int .i64 t1, .int .i64 t2, .bool t3] 52) = T at *
      obtain ⟨hsT, hbT, hTo⟩ := below_zero hT
      have hNx := hN2.below P hbT
      clear hT hTo hbT hN2 hsT
      refine (tells_any P b xc gs cs ga ca s F2 _ hNx.1).mono ?_
      rintro e wt ⟨rfl, hbt⟩
      have hNt := hNx.below P hbt
      have hAo2 := (hNt.2.1.block w.heap.size hAw).trans HAO.out
      have o0 := cell_of_cells (j := 0) hAo2 rfl
      have o1 := cell_of_cells (j := 1) hAo2 rfl
      have o2 := cell_of_cells (j := 2) hAo2 rfl
      have o3 := cell_of_cells (j := 3) hAo2 rfl
      clear hNx hbt hAo2
      go_wp2_with fail
      refine (step_any P b xc gs cs ga ca s F2 ⟨oA, oB, oC, oD⟩ _ hNt.1 ho).mono ?_
      rintro e ws ⟨rfl, hW⟩
      obtain ⟨ga', ca', F', hN'⟩ := New.went hNt hW
      clear hNt hW o0 o1 o2 o3
      go_wp2_with fail
      refine (tells_any P b xc gs cs ga' ca' _ F' _ hN'.1).mono ?_
      rintro e wu ⟨rfl, hbu⟩
      have HB := Go.Proofs.Ytpaakikgfojplab.hid (hbA.trans ((hN'.2.1.trans (hbu.mono hN'.2.1.size)).mono (by omega)))
      clear hN' hbu
      go_wp2
      go_ret
      exact ⟨rfl, HB.out⟩
  · go_wp2
    generalize hnn : s.par.stakes.length = n at *
    go_loopw [21] (fun i wr => ∃ (k : Nat) (F : Nat → Prop), k ≤ n ∧ i = .int .i64 k ∧ Hid (New Rep A wr b xc gs cs ga ca F s)) (fun i _ => n - (intOf i).toNat)
    case atStart => exact ⟨0, F5, Nat.zero_le _, rfl, HN5⟩
    case round =>
      clear HN5
      obtain ⟨k, F, hk, rfl, HN⟩ := hrel
      have c7 := cell_of_cells (j := 7) HN.out.1.book.blk rfl
      by_cases hlt : k < n
      · have hlt' : (k : Int) < ((n : Nat) : Int) := by omega
        go_wp2_with fail
        refine (begins_any b xc gs cs ga ca s pid _ HN.out.1.book hv hpp).mono ?_
        rintro e wx ⟨rfl, rfl⟩
        rw [HBE.out]
        have c0 := cell_of_cells (j := 0) HN.out.1.book.blk rfl
        go_wp2_with fail
        refine (P.turn wr xc F s (pid : Int) (beginsAt s pid) (k : Int) HN.out.1.rep hv (i64_of (by omega) (by omega)) (i64_of (by omega) (by omega)) (i64_of (by omega) (by omega))).mono ?_
        rintro e w2 ⟨rfl, F2, r2, f2, n2⟩
        have hN2 := HN.out.left r2 f2 n2
        have hF2 := P.lt r2
        have hte := turn_zero hv hpm (Int.le_refl (beginsAt s pid)) (by omega) (by omega : (0 : Int) ≤ (k : Int)) (by unfold np; omega)
        have htv : turnV s (pid : Int) (beginsAt s pid) (k : Int) = .agg #[.int .i64 (nonceAt s pid (beginsAt s pid)), .int .i64 (proofAt s pid (beginsAt s pid) (k : Int)), .int .i64 (stakeAt s pid (beginsAt s pid) (k : Int)), .bool (leadsAt s pid (beginsAt s pid) (k : Int))] := by
          unfold turnV
          rw [if_pos hte, Int.toNat_natCast]
        rw [htv, hte]
        have HPE := Go.Proofs.Ytpaakikgfojplab.hid (fun h => plain_err hv hpm (pool := k) (by omega) (by omega) h)
        unfold plainH at HPE
        clear htv hte r2 f2 n2 HN c0 c7
        generalize nonceAt s pid (beginsAt s pid) = tn at *
        generalize stakeAt s pid (beginsAt s pid) (k : Int) = ts at *
        generalize proofAt s pid (beginsAt s pid) (k : Int) = tp at *
        generalize hld : leadsAt s pid (beginsAt s pid) (k : Int) = ld at *
        generalize beginsAt s pid = bg at *
        cases ld
        · obtain ⟨_, hpe, hpi⟩ := HPE.out rfl
          obtain ⟨hpo1, hpo2⟩ := offer_bad hpe (by decide)
          clear HPE hld
          have HCN := Go.Proofs.Ytpaakikgfojplab.hid (fun W (hW : Both Rep W b xc gs cs ga ca F2 s) => bcount_any b xc gs cs ga ca s pid (k : Int) W hW.book hv hpp)
          generalize countAt s.all (k : Int) pid = cn at *
          have HPX := Go.Proofs.Ytpaakikgfojplab.hid (show offerErr s (pid : Int) ⟨bg, k, tp, cn, 0, 0, 0⟩ = 9 from hpe)
          have HPI := Go.Proofs.Ytpaakikgfojplab.hid hpi
          clear hpe hpi
          go_upto_region 24 with fail
          generalize hT : w2.alloc (.cells #[.int .i64 tn, .int .i64 tp, .int .i64 ts, .bool false] 52) = T at *
          obtain ⟨hsT, hbT, hTo⟩ := below_zero hT
          have hNT := hN2.below P hbT
          have HNT := Go.Proofs.Ytpaakikgfojplab.hid hNT
          have q1 := cell_of_cells (j := 1) hTo rfl
          have hlT : w2.heap.size < T.heap.size := by omega
          have hneT : w2.heap.size ≠ T.heap.size := by omega
          have qd1 : ∀ ob, (T.alloc ob).cell? ⟨w2.heap.size, 1, none⟩ = some (.int .i64 tp) := fun ob => (World.cell?_alloc_past _ _ _ hlT).trans q1
          have HCF := Go.Proofs.Ytpaakikgfojplab.hid (fun (W' : World) (hW : Below T.heap.size T W') => (HCN.out W' (hNT.below P hW).1).mono (fun _ w' ⟨h1, h2⟩ => And.intro h1 (show Below T.heap.size T w' from hW.trans (h2.mono hW.size))))
          have HCG := Go.Proofs.Ytpaakikgfojplab.hid (fun (W' : World) (hW : Below (T.heap.size + 1) (T.alloc (.cells #[.int .i64 0, .int .i64 0, .int .i64 0, .int .i64 0, .int .i64 0, .int .i64 0, .int .i64 0] 42)) W') => (HCN.out W' ((hNT.below P ((Below.refl _ _).alloc (Nat.le_refl _) _)).below P (by rw [show (T.alloc (.cells #[.int .i64 0, .int .i64 0, .int .i64 0, .int .i64 0, .int .i64 0, .int .i64 0, .int .i64 0] 42)).heap.size = T.heap.size + 1 by simp]; exact hW)).1).mono (fun _ w' ⟨h1, h2⟩ => And.intro h1 (seven_call hW h2)))
          clear hT hTo hbT hN2 hsT hNT HCN
          go_cut [25] (fun q wx => ∃ Y, q = .pointer (some ⟨Y, 0, none⟩) ∧ wx.heap[Y]? = some (.cells #[.int .i64 bg, .int .i64 (k : Int), .int .i64 tp, .int .i64 cn, .int .i64 0, .int .i64 0, .int .i64 0] 42 (0, 0)) ∧ T.heap.size ≤ Y ∧ Below T.heap.size T wx)
          case first =>
            go_region_held3 (fun w' => w'.cell? ⟨w2.heap.size, 1, none⟩ = some (.int .i64 tp)) (first | go_keep | exact (cell_set7 hneT _ _ _ _ _ _ _ _).trans m1) ((go_at_call 24; first | (refine (HCF.out _ (by first | exact Below.refl _ _ | exact (Below.refl _ _).drew | exact (Below.refl _ _).drew.drew)).mono ?_; rintro e w6 ⟨rfl, hL6⟩; have m1 := (hL6.cell (p := ⟨w2.heap.size, 1, none⟩) hlT).trans q1) | (refine (HCG.out _ (by first | exact Below.refl _ _ | exact (Below.refl _ _).drew | exact (Below.refl _ _).drew.drew)).mono ?_; rintro e w6 ⟨rfl, hL6, hN6⟩; have m1 := (hL6.cell (p := ⟨w2.heap.size, 1, none⟩) hlT).trans q1; have hN6' := hN6; obtain ⟨z0, z1, z2, z3, z4, z5, z6, zf, zf0, _⟩ := hN6'; have y0 := zf0; have y1 := (zf 1).trans zf0; have y2 := (zf 2).trans zf0; have y3 := (zf 3).trans zf0; have y4 := (zf 4).trans zf0; have y5 := (zf 5).trans zf0; have y6 := (zf 6).trans zf0; clear zf zf0)))
            all_goals
              go_wp2_with fail
              go_meet
              case rel =>
                first
                  | exact ⟨T.heap.size, rfl, heap_set7 hN6.blk _ _ _ _ _ _ _, Nat.le_refl _, below_set7 hN6 hL6 _ _ _ _ _ _ _⟩
                  | exact ⟨w6.heap.size, rfl, heap_alloc_new _ _, hL6.size, hL6.alloc hL6.size _⟩
          case rest =>
          obtain ⟨Y, rfl, hY, hYl, hbc⟩ := hcut
          have hNc := HNT.out.below P hbc
          clear q1 qd1 HCF HCG HNT
          have y0 := cell_of_cells (j := 0) hY rfl
          have y1 := cell_of_cells (j := 1) hY rfl
          have y2 := cell_of_cells (j := 2) hY rfl
          have y3 := cell_of_cells (j := 3) hY rfl
          have y4 := cell_of_cells (j := 4) hY rfl
          have y5 := cell_of_cells (j := 5) hY rfl
          have y6 := cell_of_cells (j := 6) hY rfl
          have c0 := cell_of_cells (j := 0) hNc.1.book.blk rfl
          have HOF := Go.Proofs.Ytpaakikgfojplab.hid (fun (W' : World) (hW : Below wc.heap.size wc W') => (P.offer W' xc F2 s (pid : Int) ⟨bg, k, tp, cn, 0, 0, 0⟩ (P.keep hNc.1.rep hW) hv (i64_of (by omega) (by omega)) HPI.out).mono (fun _ w' ⟨h1, h2⟩ => And.intro (h1.trans (by rw [hpo2, HPX.out])) (show Left Rep wc w' xc F2 s from by rw [hpo1] at h2; exact Left.from h2 hW)))
          have HNC := Go.Proofs.Ytpaakikgfojplab.hid hNc
          clear hNc hY
          go_wp2_with fail
          go_cut [26, 27] (fun i e wx => i = .int .i64 0 ∧ e = .int .i64 9 ∧ Left Rep wc wx xc F2 s)
          case first =>
            go_region_with ((go_at_call 21; refine (HOF.out _ (by first | exact Below.refl _ _ | exact (Below.refl _ _).drew | exact (Below.refl _ _).drew.drew)).mono ?_; rintro e w6 ⟨rfl, hL6⟩))
            all_goals
              go_wp2_with fail
              go_meet
              case rel => exact ⟨rfl, rfl, by first | exact hL6 | exact hL6.below P (Below.refl _ _).drew⟩
          case rest =>
          obtain ⟨rfl, rfl, F7, r7, f7, n7⟩ := hcut
          have HN7 := Go.Proofs.Ytpaakikgfojplab.hid (HNC.out.left r7 f7 n7)
          clear y0 y1 y2 y3 y4 y5 y6 c0 HOF HNC r7 f7 n7
          go_wp2
          go_roundw
          case rel => first | exact ⟨k + 1, F7, by omega, by go_num, HN7⟩ | ((repeat apply Exists.intro); exact ⟨⟨k + 1, F7, by omega, by go_num, HN7⟩, rfl⟩)
          case measure => simp [intOf]; omega
        · clear HPE hld
          have HN3 := Go.Proofs.Ytpaakikgfojplab.hid (fun cs => hN2.below P ((Below.refl _ _).alloc (Nat.le_refl _) cs))
          clear hN2
          go_wp2
          go_roundw
          case rel => first | exact ⟨k + 1, F2, by omega, by go_num, HN3.out _⟩ | ((repeat apply Exists.intro); exact ⟨⟨k + 1, F2, by omega, by go_num, HN3.out _⟩, rfl⟩)
          case measure => simp [intOf]; omega
      · have hNx := HN.out
        clear HN
        go_wp2_with fail
        refine (tells_any P b xc gs cs ga ca s F _ hNx.1).mono ?_
        rintro e wt ⟨rfl, hbt⟩
        have hNt := hNx.below P hbt
        have hAo2 := (hNt.2.1.block w.heap.size hAw).trans HAO.out
        have o0 := cell_of_cells (j := 0) hAo2 rfl
        have o1 := cell_of_cells (j := 1) hAo2 rfl
        have o2 := cell_of_cells (j := 2) hAo2 rfl
        have o3 := cell_of_cells (j := 3) hAo2 rfl
        clear hNx hbt hAo2
        go_wp2_with fail
        refine (step_any P b xc gs cs ga ca s F ⟨oA, oB, oC, oD⟩ _ hNt.1 ho).mono ?_
        rintro e ws ⟨rfl, hW⟩
        obtain ⟨ga', ca', F', hN'⟩ := New.went hNt hW
        clear hNt hW o0 o1 o2 o3
        go_wp2_with fail
        refine (tells_any P b xc gs cs ga' ca' _ F' _ hN'.1).mono ?_
        rintro e wu ⟨rfl, hbu⟩
        have HB := Go.Proofs.Ytpaakikgfojplab.hid (hbA.trans ((hN'.2.1.trans (hbu.mono hN'.2.1.size)).mono (by omega)))
        clear hN' hbu
        go_wp2
        go_ret
        exact ⟨rfl, HB.out⟩

end Go.Proofs.Ytpaakikgfojplab

