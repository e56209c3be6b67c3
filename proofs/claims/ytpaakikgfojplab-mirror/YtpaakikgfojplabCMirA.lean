import Derived.Test.YtpaakikgfojplabCM23
/-
  THE WALK of the statements' alike.
-/
namespace Go.Proofs.Ytpaakikgfojplab
open Go.RowKit Num Bk
set_option linter.unusedVariables false

theorem mrun_neq_hdr (w : World) (a0 a1 a2 a3 a4 a5 a6 : Int) :
    (binOp .neq 42 (.agg #[.int .i64 a0, .int .i64 a1, .int .i64 a2, .int .i64 a3, .int .i64 a4, .int .i64 a5, .int .i64 a6]) (.agg #[.int .i64 a0, .int .i64 a1, .int .i64 a2, .int .i64 a3, .int .i64 a4, .int .i64 a5, .int .i64 a6])).run Try.prog w =
      .ok (.bool false) w := by
  go_simp
theorem mrun_neq_turn (w : World) (a0 a1 a2 : Int) (a3 : Bool) :
    (binOp .neq 52 (.agg #[.int .i64 a0, .int .i64 a1, .int .i64 a2, .bool a3]) (.agg #[.int .i64 a0, .int .i64 a1, .int .i64 a2, .bool a3])).run Try.prog w =
      .ok (.bool false) w := by
  cases a3 <;> go_simp
attribute [local go_sem] mrun_neq_hdr mrun_neq_turn

/-- Two chains, and a list beside them. -/
structure TwoL (Rep : World → Nat → (Nat → Prop) → St → Prop) (w wr : World) (b xc gs cs ga ca : Nat) (F : Nat → Prop) (s : St) (d xd : Nat) (G : Nat → Prop) (t : St) (g cap : Nat) (l : List Nat) : Prop where
  two : Two Rep w wr b xc gs cs ga ca F s d xd G t
  own : wr.ownsRow 0 3 1 (.slice (some ⟨g, 0, none⟩) l.length cap) l.length (dcells l)
  fo : ¬ F g
  go : ¬ G g

section
variable {Rep : World → Nat → (Nat → Prop) → St → Prop} {w wr w' : World} {b xc gs cs ga ca d xd g cap : Nat} {F G : Nat → Prop} {s t : St} {l : List Nat}

theorem TwoL.below (P : PSpec Rep) (h : TwoL Rep w wr b xc gs cs ga ca F s d xd G t g cap l) (hb : Below wr.heap.size wr w') : TwoL Rep w w' b xc gs cs ga ca F s d xd G t g cap l :=
  ⟨h.two.below P hb, row_keep h.own hb (Nat.le_refl _), h.fo, h.go⟩

theorem TwoL.first (P : PSpec Rep) (h : TwoL Rep w wr b xc gs cs ga ca F s d xd G t g cap l) (hL : Left Rep wr w' xc F s) : ∃ F', TwoL Rep w w' b xc gs cs ga ca F' s d xd G t g cap l := by
  obtain ⟨F', h1, f1, n1⟩ := h.two.first P hL
  have hgl := own_lt h.own
  exact ⟨F', h1, row_fr h.own f1 (by intro k e; simp [Value.ownBlock] at e; subst e; exact h.fo), fun hk => (n1 g hk).elim h.fo (fun h => by omega), h.go⟩

theorem TwoL.second (P : PSpec Rep) {t' : St} (h : TwoL Rep w wr b xc gs cs ga ca F s d xd G t g cap l) (hv : Inv t') (hL : Left Rep wr w' xd G t') : ∃ G', TwoL Rep w w' b xc gs cs ga ca F s d xd G' t' g cap l := by
  obtain ⟨G', h1, f1, n1⟩ := h.two.second P hv hL
  have hgl := own_lt h.own
  exact ⟨G', h1, row_fr h.own f1 (by intro k e; simp [Value.ownBlock] at e; subst e; exact h.go), h.fo, fun hk => (n1 g hk).elim h.go (fun h => by omega)⟩
end

theorem mdrawn {u : World} (n : Nat) : Below u.heap.size u (u.drewN n) := ⟨rfl, rfl, rfl, Nat.le_refl _, fun _ _ => rfl⟩

/-- The same goes with both. -/
structure Like (s t : St) (id o2 : Nat) : Prop where
  m1 : missing s (id : Int) = 0
  m2 : missing t (o2 : Int) = 0
  blk : ∃ a0 a1 a2 a3 a4 a5 a6 p q h, blkV s (id : Int) = .agg #[.int .i64 a0, .int .i64 a1, .int .i64 a2, .int .i64 a3, .int .i64 a4, .int .i64 a5, .int .i64 a6, .int .i64 p, .int .i64 h] ∧ blkV t (o2 : Int) = .agg #[.int .i64 a0, .int .i64 a1, .int .i64 a2, .int .i64 a3, .int .i64 a4, .int .i64 a5, .int .i64 a6, .int .i64 q, .int .i64 h]
  stk : ∀ pool : Nat, pool < s.par.stakes.length → askErr s (id : Int) (pool : Int) = 0 ∧ askErr t (o2 : Int) (pool : Int) = 0 ∧ stakeV t (o2 : Int) (pool : Int) = stakeV s (id : Int) (pool : Int) ∧ countV t (o2 : Int) (pool : Int) = countV s (id : Int) (pool : Int)
  trn : ∀ slot pool, (∃ a0 a1 a2 a3, turnV s (id : Int) slot pool = .agg #[.int .i64 a0, .int .i64 a1, .int .i64 a2, .bool a3] ∧ turnV t (o2 : Int) slot pool = .agg #[.int .i64 a0, .int .i64 a1, .int .i64 a2, .bool a3]) ∧ turnErr t (o2 : Int) slot pool = turnErr s (id : Int) slot pool

set_option maxHeartbeats 12800000 in
set_option maxRecDepth 1000000 in
theorem alike_any {Rep : World → Nat → (Nat → Prop) → St → Prop} (P : PSpec Rep) {w wr : World} {b xc gs cs ga ca d xd g cap : Nat} {F G : Nat → Prop} {s t : St} {l : List Nat} (h : TwoL Rep w wr b xc gs cs ga ca F s d xd G t g cap l) (id o2 : Nat) (hl1 : id < s.all.length) (hl2 : o2 < t.all.length) (L : Like s t id o2) :
    Calls Try.prog 27 #[.pointer (some ⟨b, 0, none⟩), .pointer (some ⟨d, 0, none⟩), .int .i64 (id : Int), .int .i64 (o2 : Int)] wr fun e w' => e = .returned (.bool true) ∧ ∃ F' G', TwoL Rep w w' b xc gs cs ga ca F' s d xd G' t g cap l := by
  have hv := h.two.new.1.inv
  have hvt := h.two.inv
  have hsm := hv.wk.small
  have hsmt := hvt.wk.small
  have hn1 := hv.par.l1
  have hn2 := hv.par.l2
  obtain ⟨a0, a1, a2, a3, a4, a5, a6, p, q, hg, hb1, hb2⟩ := L.blk
  have HB1 := Go.Proofs.Ytpaakikgfojplab.hid hb1
  have HB2 := Go.Proofs.Ytpaakikgfojplab.hid hb2
  have HM1 := Go.Proofs.Ytpaakikgfojplab.hid L.m1
  have HM2 := Go.Proofs.Ytpaakikgfojplab.hid L.m2
  have HSK := Go.Proofs.Ytpaakikgfojplab.hid L.stk
  have HTR := Go.Proofs.Ytpaakikgfojplab.hid L.trn
  have HBG := Go.Proofs.Ytpaakikgfojplab.hid (begins_bounds hv hl1)
  have he1 := hv.par.e1
  have he2 := hv.par.e2
  clear hb1 hb2 L
  go_enter Try.func27, Try.ntmps27
  have c0 := cell_of_cells (j := 0) h.two.new.1.book.blk rfl
  go_wp2_with fail
  refine (P.look wr xc F s (id : Int) h.two.new.1.rep hv (i64_of (by omega) (by omega))).mono ?_
  rintro e w1 ⟨rfl, hb1⟩
  rw [HB1.out, HM1.out]
  have h1 := h.below P hb1
  clear c0 hb1 h
  go_upto_region 2 with fail
  generalize hA : w1.alloc (.cells #[.int .i64 a0, .int .i64 a1, .int .i64 a2, .int .i64 a3, .int .i64 a4, .int .i64 a5, .int .i64 a6, .int .i64 p, .int .i64 hg] 95) = A at *
  obtain ⟨hsA, hbA, hAR⟩ := below_zero hA
  clear hA
  have h2 := h1.below P hbA
  have c0 := h2.two.dat.cell
  clear h1
  go_wp2_with fail
  refine (P.look A xd G t (o2 : Int) h2.two.rep hvt (i64_of (by omega) (by omega))).mono ?_
  rintro e w3 ⟨rfl, hb3⟩
  rw [HB2.out, HM2.out]
  have h3 := h2.below P hb3
  have hR3 := (hb3.block w1.heap.size (by omega)).trans hAR
  clear c0 h2 hAR hbA
  go_upto_region 3 with fail
  generalize hA : w3.alloc (.cells #[.int .i64 a0, .int .i64 a1, .int .i64 a2, .int .i64 a3, .int .i64 a4, .int .i64 a5, .int .i64 a6, .int .i64 q, .int .i64 hg] 95) = A2 at *
  obtain ⟨hsA2, hbA2, hAR2⟩ := below_zero hA
  clear hA
  have h4 := h3.below P hbA2
  have hR4 := (hbA2.block w1.heap.size (by have := hb3.size; omega)).trans hR3
  have x0 := cell_of_cells (j := 0) hR4 rfl
  have x1 := cell_of_cells (j := 1) hR4 rfl
  have x2 := cell_of_cells (j := 2) hR4 rfl
  have x3 := cell_of_cells (j := 3) hR4 rfl
  have x4 := cell_of_cells (j := 4) hR4 rfl
  have x5 := cell_of_cells (j := 5) hR4 rfl
  have x6 := cell_of_cells (j := 6) hR4 rfl
  have x8 := cell_of_cells (j := 8) hR4 rfl
  have y0 := cell_of_cells (j := 0) hAR2 rfl
  have y1 := cell_of_cells (j := 1) hAR2 rfl
  have y2 := cell_of_cells (j := 2) hAR2 rfl
  have y3 := cell_of_cells (j := 3) hAR2 rfl
  have y4 := cell_of_cells (j := 4) hAR2 rfl
  have y5 := cell_of_cells (j := 5) hAR2 rfl
  have y6 := cell_of_cells (j := 6) hAR2 rfl
  have y8 := cell_of_cells (j := 8) hAR2 rfl
  have H4 := Go.Proofs.Ytpaakikgfojplab.hid h4
  clear h3 hR3 hR4 hAR2 h4 hb3 hbA2
  generalize hSL : s.par.stakes.length = n at *
  go_wp2
  go_loopw [13] (fun i wi => ∃ (k : Nat) (F' G' : Nat → Prop), k ≤ n ∧ i = .int .i64 k ∧ Hid (TwoL Rep w wi b xc gs cs ga ca F' s d xd G' t g cap l)) (fun i _ => n - (intOf i).toNat)
  case atStart => exact ⟨0, F, G, Nat.zero_le _, rfl, H4⟩
  case round =>
    clear H4 x0 x1 x2 x3 x4 x5 x6 x8 y0 y1 y2 y3 y4 y5 y6 y8 F G
    obtain ⟨k, F, G, hk, rfl, H⟩ := hrel
    generalize wr = wo at *
    have c7 := cell_of_cells (j := 7) H.out.two.new.1.book.blk rfl
    rw [hSL] at c7
    by_cases hlt : k < n
    · have hlt' : (k : Int) < (n : Int) := by omega
      obtain ⟨hq1, hq2, hq3, hq4⟩ := HSK.out k hlt
      have HQ1 := Go.Proofs.Ytpaakikgfojplab.hid hq1
      have HQ2 := Go.Proofs.Ytpaakikgfojplab.hid hq2
      have HQ3 := Go.Proofs.Ytpaakikgfojplab.hid hq3
      have HQ4 := Go.Proofs.Ytpaakikgfojplab.hid hq4
      clear hq1 hq2 hq3 hq4
      have c0 := cell_of_cells (j := 0) H.out.two.new.1.book.blk rfl
      go_wp2_with fail
      refine (P.stake _ xc F s (id : Int) (k : Int) H.out.two.new.1.rep hv (i64_of (by omega) (by omega)) (i64_of (by omega) (by omega))).mono ?_
      rintro e u1 ⟨rfl, hL⟩
      obtain ⟨F1, h1⟩ := H.out.first P hL
      clear c7 c0 hL H
      have c0 := h1.two.dat.cell
      go_wp2_with fail
      refine (P.stake _ xd G t (o2 : Int) (k : Int) h1.two.rep hvt (i64_of (by omega) (by omega)) (i64_of (by omega) (by omega))).mono ?_
      rintro e u2 ⟨rfl, hL⟩
      obtain ⟨G1, h2⟩ := h1.second P hvt hL
      clear c0 hL h1
      have c0 := cell_of_cells (j := 0) h2.two.new.1.book.blk rfl
      go_wp2_with fail
      refine (P.count _ xc F1 s (id : Int) (k : Int) h2.two.new.1.rep hv (i64_of (by omega) (by omega)) (i64_of (by omega) (by omega))).mono ?_
      rintro e u3 ⟨rfl, hL⟩
      obtain ⟨F2, h3⟩ := h2.first P hL
      clear c0 hL h2
      have c0 := h3.two.dat.cell
      go_wp2_with fail
      refine (P.count _ xd G1 t (o2 : Int) (k : Int) h3.two.rep hvt (i64_of (by omega) (by omega)) (i64_of (by omega) (by omega))).mono ?_
      rintro e u4 ⟨rfl, hL⟩
      obtain ⟨G2, h4⟩ := h3.second P hvt hL
      clear c0 hL h3
      rw [HQ1.out, HQ2.out, HQ3.out, HQ4.out]
      generalize stakeV s (id : Int) (k : Int) = sv at *
      generalize countV s (id : Int) (k : Int) = cv at *
      have hbk := h4.two.new.1.book
      have c2 := cell_of_cells (j := 2) hbk.blk rfl
      have hbb := HBG.out
      have hw2 : IntKind.i64.wrap (beginsAt s id + s.par.epoch) = beginsAt s id + s.par.epoch := IntWalk.i64_in _ ⟨by omega, by omega⟩
      go_wp2
      go_quiet ((go_at_call 22; exact quiet_eq (begins_is b xc gs cs ga ca s id _ (hbk.drewN _) hv hl1)))
      have h5 := h4.below P (mdrawn nq)
      clear c2 hbk h4 hw2
      generalize u4.drewN nq = u5 at *
      have hSB : 0 ≤ beginsAt s id + s.par.epoch ∧ beginsAt s id + s.par.epoch ≤ 10051 := by omega
      clear hbb
      generalize beginsAt s id + s.par.epoch = SL at *
      obtain ⟨⟨t0, t1, t2, t3, ht1, ht2⟩, ht3⟩ := HTR.out SL (k : Int)
      have HT1 := Go.Proofs.Ytpaakikgfojplab.hid ht1
      have HT2 := Go.Proofs.Ytpaakikgfojplab.hid ht2
      have HT3 := Go.Proofs.Ytpaakikgfojplab.hid ht3
      clear ht1 ht2 ht3
      have c0 := cell_of_cells (j := 0) h5.two.new.1.book.blk rfl
      go_wp2_with fail
      refine (P.turn _ xc F2 s (id : Int) SL (k : Int) h5.two.new.1.rep hv (i64_of (by omega) (by omega)) (i64_of (by omega) (by omega)) (i64_of (by omega) (by omega))).mono ?_
      rintro e u6 ⟨rfl, hL⟩
      obtain ⟨F3, h6⟩ := h5.first P hL
      clear c0 hL h5
      rw [HT1.out]
      go_upto_region 16 with fail
      generalize hA : u6.alloc (.cells #[.int .i64 t0, .int .i64 t1, .int .i64 t2, .bool t3] 52) = A at *
      obtain ⟨hsA, hbA, hAR⟩ := below_zero hA
      clear hA
      have h7 := h6.below P hbA
      have hnG : ¬ G2 u6.heap.size := fun hk => by have := P.lt h6.two.rep _ hk; omega
      have c0 := h7.two.dat.cell
      clear h6 hbA
      go_wp2_with fail
      refine (P.turn _ xd G2 t (o2 : Int) SL (k : Int) h7.two.rep hvt (i64_of (by omega) (by omega)) (i64_of (by omega) (by omega)) (i64_of (by omega) (by omega))).mono ?_
      rintro e u8 ⟨rfl, hL⟩
      have hfr := hL.choose_spec.2.1
      have hR8 := (hfr.block u6.heap.size (by omega) hnG).trans hAR
      have hs8 := hfr.size
      obtain ⟨G3, h8⟩ := h7.second P hvt hL
      clear c0 hL h7 hfr hAR hnG
      rw [HT2.out, HT3.out]
      go_upto_region 17 with fail
      generalize hA : u8.alloc (.cells #[.int .i64 t0, .int .i64 t1, .int .i64 t2, .bool t3] 52) = A2 at *
      obtain ⟨hsA2, hbA2, hAR2⟩ := below_zero hA
      clear hA
      have H9 := Go.Proofs.Ytpaakikgfojplab.hid (h8.below P hbA2)
      have hR9 := (hbA2.block u6.heap.size (by omega)).trans hR8
      have x0 := cell_of_cells (j := 0) hR9 rfl
      have x1 := cell_of_cells (j := 1) hR9 rfl
      have x2 := cell_of_cells (j := 2) hR9 rfl
      have x3 := cell_of_cells (j := 3) hR9 rfl
      have y0 := cell_of_cells (j := 0) hAR2 rfl
      have y1 := cell_of_cells (j := 1) hAR2 rfl
      have y2 := cell_of_cells (j := 2) hAR2 rfl
      have y3 := cell_of_cells (j := 3) hAR2 rfl
      clear h8 hR8 hR9 hAR2 hbA2
      generalize turnErr s (id : Int) SL (k : Int) = te at *
      go_wp2
      go_roundw
      case rel => exact ⟨k + 1, _, _, by omega, by go_num, H9⟩
      case measure => simp [intOf]; omega
    · have hke : k = n := by omega
      subst hke
      go_wp2
      go_ret
      exact ⟨rfl, F, G, H.out⟩

end Go.Proofs.Ytpaakikgfojplab

