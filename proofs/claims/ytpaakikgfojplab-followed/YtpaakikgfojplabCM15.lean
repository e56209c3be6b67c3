import Derived.Test.YtpaakikgfojplabCBookStep
/-
  THE WALK of the statements' book: step.
-/
namespace Go.Proofs.Ytpaakikgfojplab
open Go.RowKit Num Bk
set_option linter.unusedVariables false

/-- The book and the program's chain, side by side. -/
structure Both (Rep : World → Nat → (Nat → Prop) → St → Prop) (w : World) (b xc gs cs ga ca : Nat) (F : Nat → Prop) (s : St) : Prop where
  book : BookAt w b xc gs cs ga ca s
  rep : Rep w xc F s
  inv : Inv s
  n1 : ¬ F b
  n2 : ¬ F gs
  n3 : ¬ F ga

def Went (Rep : World → Nat → (Nat → Prop) → St → Prop) (w w' : World) (b xc gs cs ga : Nat) (F : Nat → Prop) (s' : St) : Prop :=
  ∃ F' ga' ca', Both Rep w' b xc gs cs ga' ca' F' s' ∧ Fr (fun k => F k ∨ k = b ∨ k = ga) w w' ∧ (∀ k, F' k → F k ∨ w.heap.size ≤ k) ∧ (ga' = ga ∨ w.heap.size ≤ ga')

theorem Both.of_left {Rep : World → Nat → (Nat → Prop) → St → Prop} {w w' : World} {b xc gs cs ga ca : Nat} {F : Nat → Prop} {s : St} (h : Both Rep w b xc gs cs ga ca F s) (hL : Left Rep w w' xc F s) : Went Rep w w' b xc gs cs ga F s := by
  have hB := hL.book h.book h.n1 h.n2 h.n3
  have hl := h.book.lts
  obtain ⟨F1, r1, f1, n1⟩ := hL
  have hn : ∀ k, ¬ F k → k < w.heap.size → ¬ F1 k := fun k hk hlt h1 => (n1 k h1).elim hk (fun h => by omega)
  exact ⟨F1, ga, ca, ⟨hB, r1, h.inv, hn _ h.n1 hl.1, hn _ h.n2 hl.2.1, hn _ h.n3 hl.2.2⟩, f1.mono (fun k _ h => Or.inl h), n1, Or.inl rfl⟩

/-- Offer answered 0, and the book wrote it down. -/
theorem Both.of_came {Rep : World → Nat → (Nat → Prop) → St → Prop} (P : PSpec Rep) {w w1 w2 : World} {b xc gs cs ga ca : Nat} {F : Nat → Prop} {s : St} {id : Nat} {h : Hdr} (hb : Both Rep w b xc gs cs ga ca F s) (he : offerErr s (id : Int) h = 0)
    (hL : Left Rep w w1 xc F (offer s (id : Int) h)) (hc : Came w1 w2 b xc gs cs ga { s with all := s.all ++ [⟨h, id⟩] }) : Went Rep w w2 b xc gs cs ga F (offer s (id : Int) h) := by
  have hl := hb.book.lts
  have hi := inv_offer hb.inv (id : Int) h
  have hof : offer s (id : Int) h = taken s id h := by unfold offer; rw [if_pos he, Int.toNat_natCast]
  rw [hof] at hL hi ⊢
  obtain ⟨F1, r1, f1, n1⟩ := hL
  obtain ⟨ga', ca', h1, h2, h3⟩ := hc
  have hlt1 := P.lt r1
  have hs1 := f1.size
  have hn : ∀ k, ¬ F k → k < w.heap.size → ¬ F1 k := fun k hk hlt h1 => (n1 k h1).elim hk (fun h => by omega)
  refine ⟨F1, ga', ca', ⟨⟨h1.blk, h1.stk, h1.all⟩, P.fr r1 h2 (fun k hk e => ?_), hi, hn _ hb.n1 hl.1, hn _ hb.n2 hl.2.1, ?_⟩, ?_, n1, h3.imp (fun h => h) (fun h => by omega)⟩
  · rcases e with e | e
    · subst e; exact hn _ hb.n1 hl.1 hk
    · subst e; exact hn _ hb.n3 hl.2.2 hk
  · rcases h3 with e | e
    · subst e; exact hn _ hb.n3 hl.2.2
    · intro hk; have := hlt1 _ hk; omega
  · exact (f1.mono (fun k _ h => Or.inl h)).trans' h2 (fun i _ h => Or.inr h)

theorem Went.from {Rep : World → Nat → (Nat → Prop) → St → Prop} {w W w' : World} {b xc gs cs ga : Nat} {F : Nat → Prop} {s' : St} (h : Went Rep W w' b xc gs cs ga F s') (hb : Below w.heap.size w W) : Went Rep w w' b xc gs cs ga F s' := by
  obtain ⟨F1, ga', ca', h1, h2, h3, h4⟩ := h
  have hs := hb.size
  exact ⟨F1, ga', ca', h1, (Fr.of_below hb _ (fun k h1 h2 => by omega)).trans' h2 (fun i _ h => h), fun k hk => (h3 k hk).imp id (fun h => by omega), h4.imp id (fun h => by omega)⟩

theorem Both.keep {Rep : World → Nat → (Nat → Prop) → St → Prop} (P : PSpec Rep) {w W : World} {b xc gs cs ga ca : Nat} {F : Nat → Prop} {s : St} (h : Both Rep w b xc gs cs ga ca F s) (hb : Below w.heap.size w W) : Both Rep W b xc gs cs ga ca F s :=
  ⟨h.book.keep hb, P.keep h.rep hb, h.inv, h.n1, h.n2, h.n3⟩

theorem Both.left {Rep : World → Nat → (Nat → Prop) → St → Prop} {w w' : World} {b xc gs cs ga ca : Nat} {F F1 : Nat → Prop} {s : St} (h : Both Rep w b xc gs cs ga ca F s) (r1 : Rep w' xc F1 s) (f1 : Fr F w w') (n1 : ∀ k, F1 k → F k ∨ w.heap.size ≤ k) : Both Rep w' b xc gs cs ga ca F1 s := by
  have hl := h.book.lts
  have hn : ∀ k, ¬ F k → k < w.heap.size → ¬ F1 k := fun k hk hlt h1 => (n1 k h1).elim hk (fun h => by omega)
  exact ⟨h.book.fr f1 h.n1 h.n2 h.n3, r1, h.inv, hn _ h.n1 hl.1, hn _ h.n2 hl.2.1, hn _ h.n3 hl.2.2⟩

theorem Went.after {Rep : World → Nat → (Nat → Prop) → St → Prop} {w a c : World} {b xc gs cs ga : Nat} {F F1 : Nat → Prop} {s' : St} (f1 : Fr F w a) (n1 : ∀ k, F1 k → F k ∨ w.heap.size ≤ k) (h : Went Rep a c b xc gs cs ga F1 s') : Went Rep w c b xc gs cs ga F s' := by
  obtain ⟨F2, ga', ca', h1, h2, h3, h4⟩ := h
  have hs := f1.size
  refine ⟨F2, ga', ca', h1, (f1.mono (fun k _ h => Or.inl h)).trans' h2 (fun i hi h => ?_), fun k hk => ?_, h4.imp id (fun h => by omega)⟩
  · rcases h with h | h
    · rcases n1 i h with h' | h'
      · exact Or.inl h'
      · omega
    · exact Or.inr h
  · rcases h3 k hk with h' | h'
    · exact n1 k h'
    · exact Or.inr (by omega)

set_option maxHeartbeats 12800000 in
set_option maxRecDepth 1000000 in
theorem step_any {Rep : World → Nat → (Nat → Prop) → St → Prop} (P : PSpec Rep) (b xc gs cs ga ca : Nat) (s : St) (F : Nat → Prop) (o : Stp) (w : World) (hb : Both Rep w b xc gs cs ga ca F s) (ho : StpI o) :
    Calls Try.prog 12 #[.pointer (some ⟨b, 0, none⟩), stpV o] w fun e w' => e = .returned (.bool true) ∧ Went Rep w w' b xc gs cs ga F (stepS s o) := by
  have hv := hb.inv
  have hsm := hv.wk.small
  have hkl := hv.wk.kl
  obtain ⟨hpm, hpl⟩ := stepP_mem hv o
  have hpp := inv_lt hv hpm
  have hpd : stepP s o = s.keep.getD (pickI o.A s.keep.length).toNat 0 := rfl
  have hpb := pickI_bounds o.A s.keep.length (by omega)
  obtain ⟨kN, hkN⟩ : ∃ kN : Nat, pickI o.A s.keep.length = (kN : Int) := ⟨(pickI o.A s.keep.length).toNat, by omega⟩
  have HKN := Go.Proofs.Ytpaakikgfojplab.hid hkN
  rw [hkN, Int.toNat_natCast] at hpd hpl
  obtain ⟨oA, oB, oC, oD⟩ := o
  unfold stpV
  go_enter Try.func12, Try.ntmps12
  have hlts := hb.book.lts
  go_wp2_with fail
  generalize hA : w.alloc (.cells #[.int .i64 oA, .int .i64 oB, .int .i64 oC, .int .i64 oD] 36) = A at *
  obtain ⟨hsA, hbA, hAo⟩ := below_zero hA
  clear hA
  refine (bkept_any b xc gs cs ga ca s _ (hb.book.keep hbA) hv).mono ?_
  rintro e w1 ⟨g, cap, rfl, hown, hb1⟩
  have hs1 := hb1.size
  have hA1 := (hb1.block w.heap.size (by omega)).trans hAo
  have hbw := hbA.trans (hb1.mono (by omega))
  have o0 := cell_of_cells (j := 0) hA1 rfl
  have o1 := cell_of_cells (j := 1) hA1 rfl
  have o2 := cell_of_cells (j := 2) hA1 rfl
  have o3 := cell_of_cells (j := 3) hA1 rfl
  have ck := (hown.cellAt kN (by omega)).trans (dcells_at s.keep kN hpl)
  clear hb1 hAo hbA hsA hown hA1
  rw [← hpd] at ck
  have hSS : stepS s ⟨oA, oB, oC, oD⟩ = match madeH s (stepP s ⟨oA, oB, oC, oD⟩) ⟨oA, oB, oC, oD⟩ with | none => s | some h => offer s (stepP s ⟨oA, oB, oC, oD⟩ : Int) h := rfl
  have HSS := Go.Proofs.Ytpaakikgfojplab.hid hSS
  have hB1 := hb.keep P hbw
  clear hSS hpd hkN hpb
  go_wp2_with fail
  refine (pick_is oA (s.keep.length : Int) _ ho.a (by omega) (by omega)).mono ?_
  rintro e w2 ⟨rfl, rfl⟩
  rw [HKN.out]
  clear HKN
  generalize stepP s ⟨oA, oB, oC, oD⟩ = pid at *
  go_wp2_with fail
  refine (made_any P b xc gs cs ga ca s F pid ⟨oA, oB, oC, oD⟩ _ hB1.book hB1.rep hv hpm ho hB1.n1 hB1.n2 hB1.n3).mono ?_
  rintro e w3 ⟨rfl, hL3⟩
  have hmk := fun h => made_ok hv hpm (o := ⟨oA, oB, oC, oD⟩) (h := h)
  have HMK := Go.Proofs.Ytpaakikgfojplab.hid hmk
  clear hmk
  generalize madeH s pid ⟨oA, oB, oC, oD⟩ = mh at *
  cases mh with
  | none =>
    have HFIN := Go.Proofs.Ytpaakikgfojplab.hid (fun c (hc : Below w3.heap.size w3 c) => (hB1.of_left (hL3.below P hc)).from hbw)
    clear hL3 hb hB1
    rw [show optV none = .agg #[.int .i64 0, .int .i64 0, .int .i64 0, .int .i64 0, .int .i64 0, .int .i64 0, .int .i64 0] from rfl, show (none : Option Hdr).isSome = false from rfl]
    go_wp2
    go_ret
    exact ⟨rfl, by rw [HSS.out]; exact HFIN.out _ ((Below.refl _ _).alloc (Nat.le_refl _) _)⟩
  | some h =>
    have hmo := HMK.out h rfl
    obtain ⟨a0, a1, a2, a3, a4, a5, a6⟩ := h
    rw [show optV (some ⟨a0, a1, a2, a3, a4, a5, a6⟩) = .agg #[.int .i64 a0, .int .i64 a1, .int .i64 a2, .int .i64 a3, .int .i64 a4, .int .i64 a5, .int .i64 a6] from rfl, show (some (⟨a0, a1, a2, a3, a4, a5, a6⟩ : Hdr)).isSome = true from rfl]
    obtain ⟨F3, r3, f3, n3⟩ := hL3
    have hB3 := hB1.left r3 f3 n3
    go_wp2_with fail
    generalize hA3 : w3.alloc (.cells #[.int .i64 a0, .int .i64 a1, .int .i64 a2, .int .i64 a3, .int .i64 a4, .int .i64 a5, .int .i64 a6] 42) = A3 at *
    obtain ⟨hsA3, hbA3, hAh⟩ := below_zero hA3
    clear hA3
    have hB4 := hB3.keep P hbA3
    refine (wanted_any b xc gs cs ga ca s (pid : Int) ⟨a0, a1, a2, a3, a4, a5, a6⟩ _ hB4.book hv).mono ?_
    rintro e w4 ⟨rfl, hb4⟩
    have hb4s := hb4.size
    have hh4 := (hb4.block w3.heap.size (by omega)).trans hAh
    have hB5 := hB4.keep P hb4
    have hws := hbw.size
    have hfr : Fr F w w4 := ((((Fr.of_below hbw F (fun k h1 h2 => by omega)).trans' f3 (fun i _ h => h)).also hbA3).also hb4)
    have hnn : ∀ k, F3 k → F k ∨ w.heap.size ≤ k := fun k hk => (n3 k hk).imp (fun h => h) (fun h => by omega)
    have g0 := cell_of_cells (j := 0) hh4 rfl
    have g1 := cell_of_cells (j := 1) hh4 rfl
    have g2 := cell_of_cells (j := 2) hh4 rfl
    have g3 := cell_of_cells (j := 3) hh4 rfl
    have g4 := cell_of_cells (j := 4) hh4 rfl
    have g5 := cell_of_cells (j := 5) hh4 rfl
    have g6 := cell_of_cells (j := 6) hh4 rfl
    have c0 := cell_of_cells (j := 0) hB5.book.blk rfl
    have hFl := P.lt r3
    clear hB4 hB3 hB1 hb hb4 hbA3 hAh n3 f3 hbw o0 o1 o2 o3 ck
    have HOF := Go.Proofs.Ytpaakikgfojplab.hid (fun (W' : World) (hW : Below w4.heap.size w4 W') => (P.offer W' xc F3 s (pid : Int) ⟨a0, a1, a2, a3, a4, a5, a6⟩ (P.keep hB5.rep hW) hv (i64_of (by omega) (by omega)) hmo.is).mono (fun _ _ ⟨h1, h2⟩ => And.intro h1 (Left.from h2 hW)))
    go_wp2_with fail
    go_cut [12, 13] (fun i e wx => i = .int .i64 (offerId s (pid : Int) ⟨a0, a1, a2, a3, a4, a5, a6⟩) ∧ e = .int .i64 (offerErr s (pid : Int) ⟨a0, a1, a2, a3, a4, a5, a6⟩) ∧ Left Rep w4 wx xc F3 (offer s (pid : Int) ⟨a0, a1, a2, a3, a4, a5, a6⟩))
    case first =>
      go_region_with ((go_at_call 21; refine (HOF.out _ (by first | exact Below.refl _ _ | exact (Below.refl _ _).drew | exact (Below.refl _ _).drew.drew)).mono ?_; rintro e w6 ⟨rfl, hL6⟩))
      all_goals
        go_wp2_with fail
        go_meet
        case rel => exact ⟨rfl, rfl, by first | exact hL6 | exact hL6.below P (Below.refl _ _).drew⟩
    case rest =>
    obtain ⟨rfl, rfl, hL6⟩ := hcut
    generalize wc = w6 at *
    have hL6s := hL6.size
    have hh6 := (hL6.block (k := w3.heap.size) (by omega) (fun h => by have := hFl _ h; omega)).trans hh4
    have hbk6 := hL6.book hB5.book hB5.n1 hB5.n2 hB5.n3
    rw [hmo.err, hmo.num]
    clear g0 g1 g2 g3 g4 g5 g6 c0 hh4
    have g0 := cell_of_cells (j := 0) hh6 rfl
    have g1 := cell_of_cells (j := 1) hh6 rfl
    have g2 := cell_of_cells (j := 2) hh6 rfl
    have g3 := cell_of_cells (j := 3) hh6 rfl
    have g4 := cell_of_cells (j := 4) hh6 rfl
    have g5 := cell_of_cells (j := 5) hh6 rfl
    have g6 := cell_of_cells (j := 6) hh6 rfl
    have HSO : stepS s ⟨oA, oB, oC, oD⟩ = offer s (pid : Int) ⟨a0, a1, a2, a3, a4, a5, a6⟩ := HSS.out
    have HSO' := Go.Proofs.Ytpaakikgfojplab.hid HSO
    clear HSO HSS HMK
    by_cases he : wantErr s (pid : Int) ⟨a0, a1, a2, a3, a4, a5, a6⟩ = 0
    · have HC := Go.Proofs.Ytpaakikgfojplab.hid (fun w7 hc => (hB5.of_came P (w2 := w7) (hmo.err.trans he) hL6 hc).after hfr hnn)
      rw [he]
      generalize wantId s (pid : Int) ⟨a0, a1, a2, a3, a4, a5, a6⟩ = wi at *
      clear hL6 hB5 hh6 r3 hfr hnn hmo
      go_wp2_with fail
      refine (came_any b xc gs cs ga ca s pid ⟨a0, a1, a2, a3, a4, a5, a6⟩ _ hbk6 hsm).mono ?_
      rintro e w7 ⟨rfl, hc⟩
      go_wp2
      go_ret
      exact ⟨rfl, by rw [HSO'.out]; exact HC.out _ hc⟩
    · have hof : offer s (pid : Int) ⟨a0, a1, a2, a3, a4, a5, a6⟩ = s := by
        unfold offer; rw [if_neg (by rw [hmo.err]; exact he)]
      rw [hof] at hL6 HSO'
      have HC := Go.Proofs.Ytpaakikgfojplab.hid ((hB5.of_left hL6).after hfr hnn)
      have hne : (wantErr s (pid : Int) ⟨a0, a1, a2, a3, a4, a5, a6⟩ == 0) = false := by rw [beq_eq_false_iff_ne]; exact he
      generalize wantErr s (pid : Int) ⟨a0, a1, a2, a3, a4, a5, a6⟩ = we at *
      generalize wantId s (pid : Int) ⟨a0, a1, a2, a3, a4, a5, a6⟩ = wi at *
      clear hL6 hB5 hh6 r3 hfr hnn hmo
      go_wp2
      go_ret
      exact ⟨rfl, by rw [HSO'.out]; exact HC.out⟩
end Go.Proofs.Ytpaakikgfojplab

/-
  Raw numbers: nth; the parameters that are made of them.
-/
namespace Go.Proofs.Ytpaakikgfojplab
open Go.RowKit Num Bk
set_option linter.unusedVariables false

/-- A list of raw numbers that came in. -/
def RawAt (w : World) (a : Option Addr) (z : List Int) : Prop :=
  ∀ j, j < z.length → ∃ x, a = some x ∧ w.cell? (x.add j) = some (.int .i64 (z.getD j 0)) ∧ I64 (z.getD j 0)

theorem rawI {w : World} {a : Option Addr} {z : List Int} (h : RawAt w a z) (j : Nat) : I64 (z.getD j 0) := by
  by_cases hj : j < z.length
  · obtain ⟨_, _, _, hi⟩ := h j hj; exact hi
  · rw [List.getD_eq_getElem?_getD, List.getElem?_eq_none (by omega)]; exact ⟨by simp, by simp⟩

set_option maxHeartbeats 800000 in
theorem nth_any (a : Option Addr) (cap : Nat) (z : List Int) (i : Nat) (w : World) (hz : RawAt w a z) (hi : i ≤ 1000) :
    Calls Try.prog 26 #[.slice a z.length cap, .int .i64 (i : Int)] w fun e w' => e = .returned (.int .i64 (z.getD i 0)) ∧ w = w' := by
  by_cases h : i < z.length
  · have h' : (i : Int) < (z.length : Int) := by omega
    obtain ⟨x, rfl, hc, _⟩ := hz i h
    clear hz
    generalize z.getD i 0 = v at *
    generalize z.length = n at *
    go_enter Try.func26, Try.ntmps26
    go_wp2
    go_ret
    exact ⟨rfl, rfl⟩
  · have h' : ¬ (i : Int) < (z.length : Int) := by omega
    have hd : z.getD i 0 = 0 := by rw [List.getD_eq_getElem?_getD, List.getElem?_eq_none (by omega)]; rfl
    rw [hd]
    clear hd
    go_enter Try.func26, Try.ntmps26
    go_wp2
    go_ret
    exact ⟨rfl, rfl⟩

/-- The stakes that are drawn; the first is above 0. -/
def rawStakes (z : List Int) (n : Nat) : List Int := (List.range n).map fun i => pickI (z.getD (7 + i) 0) 41
def firstUp : List Int → List Int
  | [] => []
  | x :: l => (if x = 0 then 1 else x) :: l
def rawN (z : List Int) : Nat := (1 + pickI (z.getD 6 0) 6).toNat
def parOf (z : List Int) : Par :=
  { depth := 1 + pickI (z.getD 0 0) 8, epoch := 1 + pickI (z.getD 1 0) 50, room := 2 + pickI (z.getD 2 0) 39, a := 1 + pickI (z.getD 4 0) (2 + pickI (z.getD 3 0) 19 - 1), b := 2 + pickI (z.getD 3 0) 19,
    nonce := pickI (z.getD 5 0) 65521, stakes := firstUp (rawStakes z (rawN z)) }

theorem rawN_bounds (z : List Int) : 1 ≤ rawN z ∧ rawN z ≤ 6 := by
  have := pickI_bounds (z.getD 6 0) 6 (by omega)
  unfold rawN; omega
theorem rawStakes_length (z : List Int) (n : Nat) : (rawStakes z n).length = n := by simp [rawStakes]
theorem rawStakes_mem {z : List Int} {n : Nat} {x : Int} (h : x ∈ rawStakes z n) : 0 ≤ x ∧ x ≤ 40 := by
  unfold rawStakes at h
  obtain ⟨i, _, rfl⟩ := List.mem_map.1 h
  have := pickI_bounds (z.getD (7 + i) 0) 41 (by omega)
  omega
theorem firstUp_length (l : List Int) : (firstUp l).length = l.length := by cases l <;> rfl
theorem sum_nonneg : ∀ (l : List Int), (∀ x ∈ l, 0 ≤ x) → 0 ≤ l.sum := by
  intro l
  induction l with
  | nil => intro _; simp
  | cons x l ih => intro h; simp only [List.sum_cons]; have := h x (by simp); have := ih (fun y hy => h y (by simp [hy])); omega

theorem parOf_ok (z : List Int) : ParOk (parOf z) := by
  have h0 := pickI_bounds (z.getD 0 0) 8 (by omega)
  have h1 := pickI_bounds (z.getD 1 0) 50 (by omega)
  have h2 := pickI_bounds (z.getD 2 0) 39 (by omega)
  have h3 := pickI_bounds (z.getD 3 0) 19 (by omega)
  have h4 := pickI_bounds (z.getD 4 0) (2 + pickI (z.getD 3 0) 19 - 1) (by omega)
  have h5 := pickI_bounds (z.getD 5 0) 65521 (by omega)
  have hn := rawN_bounds z
  have hl : (parOf z).stakes.length = rawN z := by show (firstUp (rawStakes z (rawN z))).length = _; rw [firstUp_length, rawStakes_length]
  have hm : ∀ x ∈ rawStakes z (rawN z), 0 ≤ x ∧ x ≤ 40 := fun x h => rawStakes_mem h
  have hlen := rawStakes_length z (rawN z)
  refine ⟨?_, ?_, ?_, ?_, ?_, ?_, ?_, ?_, ?_, h5.1, h5.2, by omega, by omega, ?_, ?_⟩
  · show 1 ≤ 1 + _; omega
  · show 1 + _ ≤ _; omega
  · show 1 ≤ 1 + _; omega
  · show 1 + _ ≤ _; omega
  · show 2 ≤ 2 + _; omega
  · show 2 + _ ≤ _; omega
  · show 2 + _ ≤ _; omega
  · show 1 ≤ 1 + _; omega
  · show 1 + pickI (z.getD 4 0) (2 + pickI (z.getD 3 0) 19 - 1) < 2 + pickI (z.getD 3 0) 19; omega
  · show ∀ x ∈ firstUp (rawStakes z (rawN z)), 0 ≤ x ∧ x ≤ 40
    cases hc : rawStakes z (rawN z) with
    | nil => intro x hx; simp [firstUp] at hx
    | cons y l =>
      rw [hc] at hm
      intro x hx
      simp only [firstUp, List.mem_cons] at hx
      rcases hx with rfl | hx
      · have := hm y (by simp); split <;> omega
      · exact hm x (by simp [hx])
  · show 0 < (firstUp (rawStakes z (rawN z))).sum
    cases hc : rawStakes z (rawN z) with
    | nil => rw [hc] at hlen; simp at hlen; omega
    | cons y l =>
      rw [hc] at hm
      simp only [firstUp, List.sum_cons]
      have h1 := hm y (by simp)
      have h2 := sum_nonneg l (fun x hx => (hm x (by simp [hx])).1)
      split <;> omega

end Go.Proofs.Ytpaakikgfojplab

