import Derived.Test.YtgeihfmhbifleaaCM29
import Derived.Test.YtgeihfmhbifleaaRows
import Derived.WalkKit
import Derived.ProofKit
import Derived.OpenShut
import Derived.ChangeOld
import Derived.Below
import Derived.Carry
import Derived.Deep.Slices
import Derived.Lib.SmallJoins
/-
  THE WALK of the statements' opened.
-/
namespace Go.Proofs.Ytgeihfmhbifleaa
open Go.RowKit Num Bk
set_option linter.unusedVariables false

/-- A chain and its book, made anew. -/
def New (Rep : World → Nat → (Nat → Prop) → St → Prop) (w w' : World) (b xc gs cs ga ca : Nat) (F : Nat → Prop) (s : St) : Prop :=
  Both Rep w' b xc gs cs ga ca F s ∧ Below w.heap.size w w' ∧ (∀ k, F k → w.heap.size ≤ k) ∧ w.heap.size ≤ b ∧ w.heap.size ≤ gs ∧ w.heap.size ≤ ga

set_option maxHeartbeats 12800000 in
set_option maxRecDepth 1000000 in
theorem opened_any {Rep : World → Nat → (Nat → Prop) → St → Prop} (P : PSpec Rep) (a : Option Addr) (cap : Nat) (z : List Int) (w : World) (hz : RawAt w a z) :
    Calls Try.prog 29 #[.slice a z.length cap] w fun e w' => ∃ b xc gs cs ga ca F, e = .returned (.pointer (some ⟨b, 0, none⟩)) ∧ New Rep w w' b xc gs cs ga ca F (Bk.start (parOf z)) := by
  obtain ⟨i1, hj, hy0, hy1, hy2⟩ := info_parts Try.info93
  have hok := parOf_ok z
  go_enter Try.func29, Try.ntmps29
  go_wp2_with fail
  refine (lives_any P _).mono ?_
  rintro e w1 ⟨rfl, hb1⟩
  have hs1 := hb1.size
  have hz1 := hz.keep hb1
  go_wp2_with fail
  refine (params_any a cap z _ hz1).mono ?_
  rintro e w2 ⟨g, c, rfl, hown, hb2⟩
  have hs2 := hb2.size
  have hbw := hb1.trans (hb2.mono hs1)
  clear hz hz1 hb1 hb2
  unfold parV
  generalize hpz : parOf z = p at *
  go_wp2_with fail
  generalize hA : (w2.alloc (.cells #[.int .i64 p.depth, .int .i64 p.epoch, .int .i64 p.room, .int .i64 p.a, .int .i64 p.b, .int .i64 p.nonce, .slice (some ⟨g, 0, none⟩) p.stakes.length c] 31)).alloc (.cells #[.int .i64 p.depth, .int .i64 p.epoch, .int .i64 p.room, .int .i64 p.a, .int .i64 p.b, .int .i64 p.nonce, .slice (some ⟨g, 0, none⟩) p.stakes.length c] 31) = A at *
  obtain ⟨hsA, hbA, hAp, hAq⟩ := below_two hA
  clear hA
  have hownA := row_keep hown hbA (by omega)
  have hl2 := hok.l2
  refine (bcopied_any (some ⟨g, 0, none⟩) p.stakes.length c p.stakes _ rfl (fun h => by cases h) (by
    intro ad e j v hv
    simp at e; subst e
    exact hownA.cells rfl j v hv) (by omega)).mono ?_
  rintro e w3 ⟨g3, rfl, hown3, hb3⟩
  have hs3 := hb3.size
  have hP3 := (hb3.block w2.heap.size (by omega)).trans hAp
  have hQ3 := (hb3.block (w2.heap.size + 1) (by omega)).trans hAq
  have hg3 := hown3.lt g3 (by simp [Value.ownBlock])
  have hown3' := row_keep hownA hb3 (by omega)
  have q0 := cell_of_cells (j := 0) hQ3 rfl
  have q1 := cell_of_cells (j := 1) hQ3 rfl
  have q2 := cell_of_cells (j := 2) hQ3 rfl
  have q3 := cell_of_cells (j := 3) hQ3 rfl
  have q4 := cell_of_cells (j := 4) hQ3 rfl
  have q5 := cell_of_cells (j := 5) hQ3 rfl
  have q6 := cell_of_cells (j := 6) hQ3 rfl
  have qf6 := free_of_cells (j := 6) hQ3
  have hgl := own_lt hown
  clear hown hownA hAp hAq
  go_wp2_with fail
  generalize hA4 : w3.setCell ⟨w2.heap.size + 1, 6, none⟩ (.slice (some ⟨g3, 0, none⟩) p.stakes.length p.stakes.length) = A4 at *
  have hs4 : A4.heap.size = w3.heap.size := by rw [← hA4]; simp [World.setCell]
  have hP4 : A4.heap[w2.heap.size]? = some (.cells #[.int .i64 p.depth, .int .i64 p.epoch, .int .i64 p.room, .int .i64 p.a, .int .i64 p.b, .int .i64 p.nonce, .slice (some ⟨g, 0, none⟩) p.stakes.length c] 31 (0, 0)) := by rw [← hA4]; exact (Below.heap_setCell _ _ _ _ (by simp)).trans hP3
  have hO4 : A4.ownsRow A.heap.size 3 1 (.slice (some ⟨g3, 0, none⟩) p.stakes.length p.stakes.length) p.stakes.length (icells p.stakes) := by
    rw [← hA4]; exact ownsRow_setCell_other hown3 (by simp [Value.ownBlock]; omega) _
  have hO4' : A4.ownsRow w1.heap.size 3 1 (.slice (some ⟨g, 0, none⟩) p.stakes.length c) p.stakes.length (icells p.stakes) := by
    rw [← hA4]; exact ownsRow_setCell_other hown3' (by simp [Value.ownBlock]; omega) _
  have hb4 : Below w.heap.size w A4 := by
    rw [← hA4]; exact ((hbw.trans (hbA.mono (by omega))).trans (hb3.mono (by omega))).setCell (by show w.heap.size ≤ w2.heap.size + 1; omega) _
  clear hA4 hown3 hown3' hP3 hQ3 q0 q1 q2 q3 q4 q5 q6 qf6
  have hst : StkAt A4 (some ⟨g3, 0, none⟩) p.stakes := by
    intro j hj
    refine ⟨g3, 0, rfl, ?_⟩
    have h := hO4.cellAt j (by omega)
    rw [Nat.zero_add]
    rw [h, icells_at p.stakes j hj]
  refine (P.new_yes A4 p (some ⟨g3, 0, none⟩) p.stakes.length hst ((parB_iff _).2 hok)).mono ?_
  rintro e w5 ⟨x, F, rfl, hR, hb5, hF⟩
  have hs5 := hb5.size
  have hP5 := (hb5.block w2.heap.size (by omega)).trans hP4
  have hO5 := row_keep hO4' hb5 (by omega)
  have hbw5 := hb4.trans (hb5.mono (by omega))
  have p0 := cell_of_cells (j := 0) hP5 rfl
  have p1 := cell_of_cells (j := 1) hP5 rfl
  have p2 := cell_of_cells (j := 2) hP5 rfl
  have p3 := cell_of_cells (j := 3) hP5 rfl
  have p4 := cell_of_cells (j := 4) hP5 rfl
  have p5 := cell_of_cells (j := 5) hP5 rfl
  have p6 := cell_of_cells (j := 6) hP5 rfl
  clear hst hO4 hO4' hb4 hb5 hP4
  have HNB : Hid (∀ X cs, ((w5.alloc X).alloc (.cells cs 93)).heap[w5.heap.size + 1]? = some (.cells cs 93 (0, 0))) := fun X cs => by
    have := heap_alloc_new (w5.alloc X) (.cells cs 93)
    simpa using this
  have HNX : Hid (∀ cs Y, ((w5.alloc (.cells cs 44)).alloc Y).heap[w5.heap.size]? = some (.cells cs 44 (0, 0))) := fun cs Y => by
    rw [Below.heap_alloc _ _ _ (by simp)]; exact heap_alloc_new w5 _
  have HNF : Hid (∀ X Y, Below w5.heap.size w5 ((w5.alloc X).alloc Y)) := fun X Y => ((Below.refl _ _).alloc (Nat.le_refl _) X).alloc (by simp) Y
  go_wp2_with (at_builtin; refine wpList_append_lies _ rfl (.tmp 38) (.tmp 40) 42 rfl 0 93 i1 _ 8 64 Try.underlying42 hj hy0 hy1 hy2 rfl (by omega) (.slice none 0 0) 0 [] rfl (World.ownsRow_nil _ _ _ _) ⟨w5.heap.size + 1, 0, none⟩ 1 1 [.int .i64 0, .int .i64 0, .int .i64 0, .int .i64 0, .int .i64 0, .int .i64 0, .int .i64 0, .int .i64 0] rfl rfl (World.news_of_block (HNB.out _ _)) (by intro u hu; simp at hu; subst hu; rfl) (by omega) (by unfold maxLen; omega) (by omega) (by omega) (w5.heap.size + 2) (by simp) ?_)
  intro g6 cap6 w6 hown6 hgrow6 hat6 hlt6
  have hg6 : g6 = w5.heap.size + 2 := by
    rcases hat6 with h | h
    · simp [Value.ownBlock] at h
    · exact h
  have hbk6 := (hgrow6.block w5.heap.size (by simp; omega) (by simp [Value.ownBlock])).trans (HNX.out _ _)
  have hB6 : Below w5.heap.size w5 w6 := (HNF.out _ _).grown hgrow6 (by simp; omega) (fun k e => by simp [Value.ownBlock] at e)
  have c8 := cell_of_cells (j := 8) hbk6 rfl
  have f8 := free_of_cells (j := 8) hbk6
  have hFl := P.lt hR
  have hs6 := hB6.size
  have hN : New Rep w (w6.setCell ⟨w5.heap.size, 8, none⟩ (.slice (some ⟨g6, 0, none⟩) 1 cap6)) w5.heap.size x g c g6 cap6 F (Bk.start p) := by
    refine ⟨⟨⟨?_, ?_, ?_⟩, ?_, inv_start p hok, fun h => by have := hFl _ h; omega, fun h => by have := hF _ h; omega, fun h => by have := hFl _ h; omega⟩, ?_, fun k hk => by have := hF k hk; have := hbw.size; omega, by have := hbw.size; omega, ?_, by have := hbw.size; omega⟩
    · exact (heap_setCell_same w6 w5.heap.size 8 _ 44 _ hbk6).trans rfl
    · exact ownsRow_setCell_other (row_weak (row_keep hO5 hB6 (by omega)) (Nat.zero_le _)) (by simp [Value.ownBlock]; omega) _
    · exact ownsRow_setCell_other hown6 (by simp [Value.ownBlock]; omega) _
    · exact P.fr (P.keep hR hB6) ((Fr.refl (fun k => k = w5.heap.size) w6).setCell (p := ⟨w5.heap.size, 8, none⟩) (Or.inl rfl) _) (fun k hk e => by have := hFl _ hk; omega)
    · exact (hbw5.trans (hB6.mono (by have := hbw5.size; omega))).setCell (by have := hbw5.size; exact this) _
    · have h1 := hO5.lt g (by simp [Value.ownBlock])
      omega
  have HNEW := Go.Proofs.Ytgeihfmhbifleaa.hid hN
  clear hgrow6 hat6 hN hown6 hO5 hR hB6 hbw5
  go_wp2
  go_ret
  exact ⟨w5.heap.size, x, g, c, g6, cap6, F, rfl, by rw [hpz, hg6] at *; exact HNEW.out⟩
end Go.Proofs.Ytgeihfmhbifleaa

/-
  THE WALK of the statements' played.
-/
namespace Go.Proofs.Ytgeihfmhbifleaa
open Go.RowKit Num Bk
set_option linter.unusedVariables false

/-- A list of steps that came in. -/
def StepsAt (w : World) (a : Option Addr) (l : List Stp) : Prop :=
  ∀ j o, l[j]? = some o → ∃ x, a = some x ∧ w.cell? (x.add (j * 4)) = some (.int .i64 o.A) ∧ w.cell? ⟨(x.add (j * 4)).block, (x.add (j * 4)).off + 1, none⟩ = some (.int .i64 o.B) ∧ w.cell? ⟨(x.add (j * 4)).block, (x.add (j * 4)).off + 2, none⟩ = some (.int .i64 o.C) ∧ w.cell? ⟨(x.add (j * 4)).block, (x.add (j * 4)).off + 3, none⟩ = some (.int .i64 o.D) ∧ StpI o

theorem StepsAt.keep {w W : World} {a : Option Addr} {l : List Stp} (h : StepsAt w a l) (hb : Below w.heap.size w W) : StepsAt W a l := by
  intro j o ho
  obtain ⟨x, e, h0, h1, h2, h3, hi⟩ := h j o ho
  have key : ∀ y v, w.cell? y = some v → W.cell? y = some v := by
    intro y v hc
    rw [hb.cell (World.block_lt_of_cell? w _ hc)]; exact hc
  exact ⟨x, e, key _ _ h0, key _ _ h1, key _ _ h2, key _ _ h3, hi⟩

def playS (s : St) (l : List Stp) : St := l.foldl stepS s

theorem playS_take (s : St) (l : List Stp) (k : Nat) (o : Stp) (h : l[k]? = some o) : playS s (l.take (k + 1)) = stepS (playS s (l.take k)) o := by
  unfold playS
  have hk : k < l.length := by
    rw [List.getElem?_eq_some_iff] at h; exact h.1
  rw [List.take_add_one, h, List.foldl_append]
  rfl

theorem New.went {Rep : World → Nat → (Nat → Prop) → St → Prop} {w wr w' : World} {b xc gs cs ga ca : Nat} {F : Nat → Prop} {s s' : St} (h : New Rep w wr b xc gs cs ga ca F s) (hw : Went Rep wr w' b xc gs cs ga F s') : ∃ ga' ca' F', New Rep w w' b xc gs cs ga' ca' F' s' := by
  obtain ⟨hB, hb, hF, h1, h2, h3⟩ := h
  obtain ⟨F', ga', ca', hB', hfr, hn, hg⟩ := hw
  have hs := hb.size
  refine ⟨ga', ca', F', hB', below_fr hb hfr (fun i hi => ?_), fun k hk => ?_, h1, h2, ?_⟩
  · rcases hi with hi | hi | hi
    · exact hF i hi
    · omega
    · omega
  · rcases hn k hk with h | h
    · exact hF k h
    · omega
  · rcases hg with h | h <;> omega

set_option maxHeartbeats 12800000 in
set_option maxRecDepth 1000000 in
theorem played_any {Rep : World → Nat → (Nat → Prop) → St → Prop} (P : PSpec Rep) (a : Option Addr) (cap : Nat) (z : List Int) (a2 : Option Addr) (cap2 : Nat) (l : List Stp) (w : World) (hz : RawAt w a z) (hl : StepsAt w a2 l) (hlm : l.length ≤ maxLen) :
    Calls Try.prog 19 #[.slice a z.length cap, .slice a2 l.length cap2] w fun e w' => ∃ b xc gs cs ga ca F, e = .returned (.pointer (some ⟨b, 0, none⟩)) ∧ New Rep w w' b xc gs cs ga ca F (playS (Bk.start (parOf z)) l) := by
  have hlm' : l.length ≤ 9223372036854775807 := by unfold maxLen at hlm; omega
  clear hlm
  go_enter Try.func19, Try.ntmps19
  go_wp2_with fail
  refine (opened_any P a cap z _ hz).mono ?_
  rintro e w1 ⟨b, xc, gs, cs, ga0, ca0, F0, rfl, hN0⟩
  have HN0 := Go.Proofs.Ytgeihfmhbifleaa.hid hN0
  have HL := Go.Proofs.Ytgeihfmhbifleaa.hid hl
  clear hz hN0 hl
  generalize hlen : l.length = n at *
  generalize hS : Bk.start (parOf z) = s0 at *
  go_wp2
  go_loopw [6] (fun i wr => ∃ (k ga ca : Nat) (F : Nat → Prop), k ≤ n ∧ i = .int .i64 k ∧ Hid (New Rep w wr b xc gs cs ga ca F (playS s0 (l.take k))))
    (fun i _ => n - (intOf i).toNat)
  case atStart => exact ⟨0, ga0, ca0, F0, Nat.zero_le _, rfl, HN0⟩
  case round =>
    obtain ⟨k, ga, ca, F, hk, rfl, HN⟩ := hrel
    by_cases hlt : k < n
    · have hlt' : (k : Int) < (n : Int) := by omega
      obtain ⟨o, ho⟩ : ∃ o, l[k]? = some o := ⟨l[k]'(by omega), List.getElem?_eq_getElem (by omega)⟩
      obtain ⟨x, rfl, q0, q1, q2, q3, hI⟩ := (HL.out.keep HN.out.2.1) k o ho
      have HST := Go.Proofs.Ytgeihfmhbifleaa.hid (playS_take s0 l k o ho)
      clear ho
      go_wp2_with fail
      refine (step_any P b xc gs cs ga ca (playS s0 (l.take k)) F o _ HN.out.1 hI).mono ?_
      rintro e w2 ⟨rfl, hW⟩
      obtain ⟨ga', ca', F', hN'⟩ := New.went HN.out hW
      have HN' := Go.Proofs.Ytgeihfmhbifleaa.hid hN'
      clear hN' hW q0 q1 q2 q3 HN
      go_wp2
      go_roundw
      case rel => exact ⟨k + 1, ga', ca', F', by omega, by go_num, by unfold Hid; rw [HST.out]; exact HN'.out⟩
      case measure => simp [intOf]; omega
    · have hke : k = n := by omega
      have HE := Go.Proofs.Ytgeihfmhbifleaa.hid (show l.take k = l by rw [hke, ← hlen]; simp)
      go_wp2
      go_ret
      exact ⟨b, xc, gs, cs, ga, ca, F, rfl, by rw [hS]; have := HN.out; rw [HE.out] at this; exact this⟩
end Go.Proofs.Ytgeihfmhbifleaa

/-
  What came in, opened: a list of numbers (RawAt), a list of steps (StepsAt).
-/
namespace Go.Proofs.Ytgeihfmhbifleaa
open Go.ChangeShapes Go.WideShapes Go.ChangeAt Go.RowKit Num Bk
set_option linter.unusedVariables false

theorem laidOut : laidOutB Try.prog = true := by kernel_rfl

theorem wf_i64 {n : Int} (h : (Lit.int .i64 n).wf = true) : I64 n := by
  simp only [Lit.wf, Bool.and_eq_true, decide_eq_true_eq] at h
  exact ⟨h.1, h.2⟩

theorem raw_of {H : Type} {enc : TypeId × Value → H} {W : World} {a : Option Addr} {len cap : Nat} {d : DataW H} {ps : List MemPlace} (h : DataW.Trod enc Try.prog W 0 (fun _ => true) true 29 (.slice a len cap) d ps) :
    ∃ z : List Int, z.length = len ∧ RawAt W a z := by
  obtain ⟨fuel, hf⟩ := h
  rcases open_ints Try.underlying29 Try.underlying3 (by kernel_rfl) hf with ⟨hcs, _⟩ | ⟨x, l, c, zs, hcs, _, hl, hm, hz, _, hcell, hwz⟩
  · simp [Value.cells] at hcs
    obtain ⟨rfl, rfl, rfl⟩ := hcs
    exact ⟨[], rfl, fun j hj => by simp at hj⟩
  · simp [Value.cells] at hcs
    obtain ⟨rfl, rfl, rfl⟩ := hcs
    have hz' : zs.length = cap := by simpa using hz
    refine ⟨zs.take len, by rw [List.length_take]; omega, ?_⟩
    intro j hj
    rw [List.length_take] at hj
    have hjz : j < zs.length := by omega
    have e : (zs.take len).getD j 0 = zs.getD j 0 := by
      simp only [List.getD, List.getElem?_take]
      rw [if_pos (by omega)]
    rw [e]
    refine ⟨x, rfl, hcell j hjz, wf_i64 (hwz _ ?_)⟩
    rw [show zs.getD j 0 = zs[j] from by simp [List.getD, hjz]]
    exact List.getElem_mem hjz

theorem cells4 {W : World} {a : Addr} {cs : List Value} (h : W.cells? 0 a 4 = some cs) : ∃ c0 c1 c2 c3, cs = [c0, c1, c2, c3] ∧ W.cell? a = some c0 ∧ W.cell? ⟨a.block, a.off + 1, none⟩ = some c1 ∧ W.cell? ⟨a.block, a.off + 2, none⟩ = some c2 ∧ W.cell? ⟨a.block, a.off + 3, none⟩ = some c3 := by
  unfold World.cells? at h
  rw [if_pos (Nat.zero_le _)] at h
  have e0 : a.add 0 = a := rfl
  have e1 : a.add 1 = ⟨a.block, a.off + 1, none⟩ := rfl
  have e2 : a.add 2 = ⟨a.block, a.off + 2, none⟩ := rfl
  have e3 : a.add 3 = ⟨a.block, a.off + 3, none⟩ := rfl
  have hr : List.range 4 = [0, 1, 2, 3] := rfl
  rw [hr] at h
  simp only [List.mapM_cons, List.mapM_nil, e0, e1, e2, e3, Option.bind_eq_bind, Option.pure_def, Option.bind_eq_some_iff, Option.some.injEq] at h
  obtain ⟨c0, h0, _, ⟨c1, h1, _, ⟨c2, h2, _, ⟨c3, h3, _, rfl, rfl⟩, rfl⟩, rfl⟩, rfl⟩ := h
  exact ⟨c0, c1, c2, c3, rfl, h0, h1, h2, h3⟩

theorem step_of {H : Type} {enc : TypeId × Value → H} {W : World} {a : Addr} {cs : List Value} {n : Nat} {x : DataW H × List MemPlace} (hc : W.cells? 0 a 4 = some cs) (h : DataW.trod enc Try.prog W 0 (fun _ => true) true n 57 cs = some x) :
    ∃ o : Stp, W.cell? a = some (.int .i64 o.A) ∧ W.cell? ⟨a.block, a.off + 1, none⟩ = some (.int .i64 o.B) ∧ W.cell? ⟨a.block, a.off + 2, none⟩ = some (.int .i64 o.C) ∧ W.cell? ⟨a.block, a.off + 3, none⟩ = some (.int .i64 o.D) ∧ StpI o := by
  obtain ⟨c0, c1, c2, c3, rfl, h0, h1, h2, h3⟩ := cells4 hc
  obtain ⟨y0, y1, y2, y3, m, _, _, t0, t1, t2, t3⟩ := Go.Joins.trod_struct4 Try.underlying57 h
  have e : Try.prog.cellsOf 3 = 1 := by kernel_rfl
  simp only [e, List.drop_zero, List.drop_succ_cons, List.take_succ_cons, List.take_zero] at t0 t1 t2 t3
  obtain ⟨n0, q0, _, w0⟩ := DataW.trod_int Try.underlying3 t0
  obtain ⟨n1, q1, _, w1⟩ := DataW.trod_int Try.underlying3 t1
  obtain ⟨n2, q2, _, w2⟩ := DataW.trod_int Try.underlying3 t2
  obtain ⟨n3, q3, _, w3⟩ := DataW.trod_int Try.underlying3 t3
  simp only [List.cons.injEq, and_true] at q0 q1 q2 q3
  subst q0; subst q1; subst q2; subst q3
  exact ⟨⟨n0, n1, n2, n3⟩, h0, h1, h2, h3, ⟨wf_i64 w0, wf_i64 w1, wf_i64 w2, wf_i64 w3⟩⟩

theorem steps_of {H : Type} {enc : TypeId × Value → H} {W : World} {a : Option Addr} {len cap : Nat} {d : DataW H} {ps : List MemPlace} (h : DataW.Trod enc Try.prog W 0 (fun _ => true) true 38 (.slice a len cap) d ps) :
    ∃ l : List Stp, l.length = len ∧ StepsAt W a l ∧ len ≤ maxLen := by
  obtain ⟨fuel, hf⟩ := h
  have e4 : Try.prog.cellsOf 57 = 4 := by kernel_rfl
  rcases Go.Deep.open_slice Try.underlying38 hf with ⟨hcs, _⟩ | ⟨x, l, c, m, n, D, Pl, hcs, _, hl, hmx, hm, _, hel⟩
  · simp [Value.cells] at hcs
    obtain ⟨rfl, rfl, rfl⟩ := hcs
    exact ⟨[], rfl, fun j o ho => by simp at ho, Nat.zero_le _⟩
  · simp [Value.cells] at hcs
    obtain ⟨rfl, rfl, rfl⟩ := hcs
    have hm' : m = cap := by simpa using hm
    have key : ∀ i, i < len → ∃ o : Stp, W.cell? (x.add (i * 4)) = some (.int .i64 o.A) ∧ W.cell? ⟨(x.add (i * 4)).block, (x.add (i * 4)).off + 1, none⟩ = some (.int .i64 o.B) ∧ W.cell? ⟨(x.add (i * 4)).block, (x.add (i * 4)).off + 2, none⟩ = some (.int .i64 o.C) ∧ W.cell? ⟨(x.add (i * 4)).block, (x.add (i * 4)).off + 3, none⟩ = some (.int .i64 o.D) ∧ StpI o := by
      intro i hi
      obtain ⟨cs, hc, ht⟩ := hel i (by omega)
      rw [e4] at hc
      exact step_of hc ht
    haveI : Inhabited Stp := ⟨⟨0, 0, 0, 0⟩⟩
    obtain ⟨f, hfn⟩ := Go.Deep.choose_lt key
    refine ⟨(List.range len).map f, by simp, ?_, by omega⟩
    intro j o ho
    rw [List.getElem?_map] at ho
    have hj : j < len := by
      rcases Nat.lt_or_ge j len with h | h
      · exact h
      · rw [List.getElem?_eq_none (by simpa using h)] at ho; simp at ho
    rw [List.getElem?_range hj] at ho
    simp at ho
    subst ho
    exact ⟨x, rfl, hfn j hj⟩

end Go.Proofs.Ytgeihfmhbifleaa

