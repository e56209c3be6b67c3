import Derived.Test.YtpaakikgfojplabCM17
import Derived.Test.YtpaakikgfojplabRows
import Derived.WalkKit
import Derived.ProofKit
import Derived.OpenShut
import Derived.ChangeOld
import Derived.Below
import Derived.Carry
import Derived.Deep.Slices
import Derived.Lib.SmallJoins
/-
  THE WALK of the statements' played.
-/
namespace Go.Proofs.Ytpaakikgfojplab
open Go.RowKit Num Bk
set_option linter.unusedVariables false

/-- A list of steps that came in. -/
def StepsAt (w : World) (a : Option Addr) (l : List Stp) : Prop :=
  ∀ j o, l[j]? = some o → ∃ x, a = some x ∧ w.cell? (x.add (j * 4)) = some (.int .i64 o.A) ∧ w.cell? ⟨(x.add (j * 4)).block, (x.add (j * 4)).off + 1, none⟩ = some (.int .i64 o.B) ∧ w.cell? ⟨(x.add (j * 4)).block, (x.add (j * 4)).off + 2, none⟩ = some (.int .i64 o.C) ∧ w.cell? ⟨(x.add (j * 4)).block, (x.add (j * 4)).off + 3, none⟩ = some (.int .i64 o.D) ∧ StpI o

theorem StepsAt.keep {w W : World} {a : Option Addr} {l : List Stp} (h : StepsAt w a l) (hb : Below w.heap.size w W) : StepsAt W a l := by
  intro j o ho
  obtain ⟨x, e, h0, h1, h2, h3, hi⟩ := h j o ho
  have key : ∀ y v, w.cell? y = some v → W.cell? y = some v := by
    intro y v hc
    rw [hb.cell (World.block_lt_of_cell? w _ hc)]; exact hc
  exact ⟨x, e, key _ _ h0, key _ _ h1, key _ _ h2, key _ _ h3, hi⟩

def playS (s : St) (l : List Stp) : St := l.foldl stepS s

theorem playS_take (s : St) (l : List Stp) (k : Nat) (o : Stp) (h : l[k]? = some o) : playS s (l.take (k + 1)) = stepS (playS s (l.take k)) o := by
  unfold playS
  have hk : k < l.length := by
    rw [List.getElem?_eq_some_iff] at h; exact h.1
  rw [List.take_add_one, h, List.foldl_append]
  rfl

theorem New.went {Rep : World → Nat → (Nat → Prop) → St → Prop} {w wr w' : World} {b xc gs cs ga ca : Nat} {F : Nat → Prop} {s s' : St} (h : New Rep w wr b xc gs cs ga ca F s) (hw : Went Rep wr w' b xc gs cs ga F s') : ∃ ga' ca' F', New Rep w w' b xc gs cs ga' ca' F' s' := by
  obtain ⟨hB, hb, hF, h1, h2, h3⟩ := h
  obtain ⟨F', ga', ca', hB', hfr, hn, hg⟩ := hw
  have hs := hb.size
  refine ⟨ga', ca', F', hB', below_fr hb hfr (fun i hi => ?_), fun k hk => ?_, h1, h2, ?_⟩
  · rcases hi with hi | hi | hi
    · exact hF i hi
    · omega
    · omega
  · rcases hn k hk with h | h
    · exact hF k h
    · omega
  · rcases hg with h | h <;> omega

set_option maxHeartbeats 12800000 in
set_option maxRecDepth 1000000 in
theorem played_any {Rep : World → Nat → (Nat → Prop) → St → Prop} (P : PSpec Rep) (a : Option Addr) (cap : Nat) (z : List Int) (a2 : Option Addr) (cap2 : Nat) (l : List Stp) (w : World) (hz : RawAt w a z) (hl : StepsAt w a2 l) (hlm : l.length ≤ maxLen) :
    Calls Try.prog 16 #[.slice a z.length cap, .slice a2 l.length cap2] w fun e w' => ∃ b xc gs cs ga ca F, e = .returned (.pointer (some ⟨b, 0, none⟩)) ∧ New Rep w w' b xc gs cs ga ca F (playS (Bk.start (parOf z)) l) := by
  have hlm' : l.length ≤ 9223372036854775807 := by unfold maxLen at hlm; omega
  clear hlm
  go_enter Try.func16, Try.ntmps16
  go_wp2_with fail
  refine (opened_any P a cap z _ hz).mono ?_
  rintro e w1 ⟨b, xc, gs, cs, ga0, ca0, F0, rfl, hN0⟩
  have HN0 := Go.Proofs.Ytpaakikgfojplab.hid hN0
  have HL := Go.Proofs.Ytpaakikgfojplab.hid hl
  clear hz hN0 hl
  generalize hlen : l.length = n at *
  generalize hS : Bk.start (parOf z) = s0 at *
  go_wp2
  go_loopw [6] (fun i wr => ∃ (k ga ca : Nat) (F : Nat → Prop), k ≤ n ∧ i = .int .i64 k ∧ Hid (New Rep w wr b xc gs cs ga ca F (playS s0 (l.take k))))
    (fun i _ => n - (intOf i).toNat)
  case atStart => exact ⟨0, ga0, ca0, F0, Nat.zero_le _, rfl, HN0⟩
  case round =>
    obtain ⟨k, ga, ca, F, hk, rfl, HN⟩ := hrel
    by_cases hlt : k < n
    · have hlt' : (k : Int) < (n : Int) := by omega
      obtain ⟨o, ho⟩ : ∃ o, l[k]? = some o := ⟨l[k]'(by omega), List.getElem?_eq_getElem (by omega)⟩
      obtain ⟨x, rfl, q0, q1, q2, q3, hI⟩ := (HL.out.keep HN.out.2.1) k o ho
      have HST := Go.Proofs.Ytpaakikgfojplab.hid (playS_take s0 l k o ho)
      clear ho
      go_wp2_with fail
      refine (step_any P b xc gs cs ga ca (playS s0 (l.take k)) F o _ HN.out.1 hI).mono ?_
      rintro e w2 ⟨rfl, hW⟩
      obtain ⟨ga', ca', F', hN'⟩ := New.went HN.out hW
      have HN' := Go.Proofs.Ytpaakikgfojplab.hid hN'
      clear hN' hW q0 q1 q2 q3 HN
      go_wp2
      go_roundw
      case rel => exact ⟨k + 1, ga', ca', F', by omega, by go_num, by unfold Hid; rw [HST.out]; exact HN'.out⟩
      case measure => simp [intOf]; omega
    · have hke : k = n := by omega
      have HE := Go.Proofs.Ytpaakikgfojplab.hid (show l.take k = l by rw [hke, ← hlen]; simp)
      go_wp2
      go_ret
      exact ⟨b, xc, gs, cs, ga, ca, F, rfl, by rw [hS]; have := HN.out; rw [HE.out] at this; exact this⟩
end Go.Proofs.Ytpaakikgfojplab

/-
  What came in, opened: a list of numbers (RawAt), a list of steps (StepsAt).
-/
namespace Go.Proofs.Ytpaakikgfojplab
open Go.ChangeShapes Go.WideShapes Go.ChangeAt Go.RowKit Num Bk
set_option linter.unusedVariables false

theorem laidOut : laidOutB Try.prog = true := by kernel_rfl

theorem wf_i64 {n : Int} (h : (Lit.int .i64 n).wf = true) : I64 n := by
  simp only [Lit.wf, Bool.and_eq_true, decide_eq_true_eq] at h
  exact ⟨h.1, h.2⟩

theorem raw_of {H : Type} {enc : TypeId × Value → H} {W : World} {a : Option Addr} {len cap : Nat} {d : DataW H} {ps : List MemPlace} (h : DataW.Trod enc Try.prog W 0 (fun _ => true) true 22 (.slice a len cap) d ps) :
    ∃ z : List Int, z.length = len ∧ RawAt W a z := by
  obtain ⟨fuel, hf⟩ := h
  rcases open_ints Try.underlying22 Try.underlying3 (by kernel_rfl) hf with ⟨hcs, _⟩ | ⟨x, l, c, zs, hcs, _, hl, hm, hz, _, hcell, hwz⟩
  · simp [Value.cells] at hcs
    obtain ⟨rfl, rfl, rfl⟩ := hcs
    exact ⟨[], rfl, fun j hj => by simp at hj⟩
  · simp [Value.cells] at hcs
    obtain ⟨rfl, rfl, rfl⟩ := hcs
    have hz' : zs.length = cap := by simpa using hz
    refine ⟨zs.take len, by rw [List.length_take]; omega, ?_⟩
    intro j hj
    rw [List.length_take] at hj
    have hjz : j < zs.length := by omega
    have e : (zs.take len).getD j 0 = zs.getD j 0 := by
      simp only [List.getD, List.getElem?_take]
      rw [if_pos (by omega)]
    rw [e]
    refine ⟨x, rfl, hcell j hjz, wf_i64 (hwz _ ?_)⟩
    rw [show zs.getD j 0 = zs[j] from by simp [List.getD, hjz]]
    exact List.getElem_mem hjz

theorem cells4 {W : World} {a : Addr} {cs : List Value} (h : W.cells? 0 a 4 = some cs) : ∃ c0 c1 c2 c3, cs = [c0, c1, c2, c3] ∧ W.cell? a = some c0 ∧ W.cell? ⟨a.block, a.off + 1, none⟩ = some c1 ∧ W.cell? ⟨a.block, a.off + 2, none⟩ = some c2 ∧ W.cell? ⟨a.block, a.off + 3, none⟩ = some c3 := by
  unfold World.cells? at h
  rw [if_pos (Nat.zero_le _)] at h
  have e0 : a.add 0 = a := rfl
  have e1 : a.add 1 = ⟨a.block, a.off + 1, none⟩ := rfl
  have e2 : a.add 2 = ⟨a.block, a.off + 2, none⟩ := rfl
  have e3 : a.add 3 = ⟨a.block, a.off + 3, none⟩ := rfl
  have hr : List.range 4 = [0, 1, 2, 3] := rfl
  rw [hr] at h
  simp only [List.mapM_cons, List.mapM_nil, e0, e1, e2, e3, Option.bind_eq_bind, Option.pure_def, Option.bind_eq_some_iff, Option.some.injEq] at h
  obtain ⟨c0, h0, _, ⟨c1, h1, _, ⟨c2, h2, _, ⟨c3, h3, _, rfl, rfl⟩, rfl⟩, rfl⟩, rfl⟩ := h
  exact ⟨c0, c1, c2, c3, rfl, h0, h1, h2, h3⟩

theorem step_of {H : Type} {enc : TypeId × Value → H} {W : World} {a : Addr} {cs : List Value} {n : Nat} {x : DataW H × List MemPlace} (hc : W.cells? 0 a 4 = some cs) (h : DataW.trod enc Try.prog W 0 (fun _ => true) true n 36 cs = some x) :
    ∃ o : Stp, W.cell? a = some (.int .i64 o.A) ∧ W.cell? ⟨a.block, a.off + 1, none⟩ = some (.int .i64 o.B) ∧ W.cell? ⟨a.block, a.off + 2, none⟩ = some (.int .i64 o.C) ∧ W.cell? ⟨a.block, a.off + 3, none⟩ = some (.int .i64 o.D) ∧ StpI o := by
  obtain ⟨c0, c1, c2, c3, rfl, h0, h1, h2, h3⟩ := cells4 hc
  obtain ⟨y0, y1, y2, y3, m, _, _, t0, t1, t2, t3⟩ := Go.Joins.trod_struct4 Try.underlying36 h
  have e : Try.prog.cellsOf 3 = 1 := by kernel_rfl
  simp only [e, List.drop_zero, List.drop_succ_cons, List.take_succ_cons, List.take_zero] at t0 t1 t2 t3
  obtain ⟨n0, q0, _, w0⟩ := DataW.trod_int Try.underlying3 t0
  obtain ⟨n1, q1, _, w1⟩ := DataW.trod_int Try.underlying3 t1
  obtain ⟨n2, q2, _, w2⟩ := DataW.trod_int Try.underlying3 t2
  obtain ⟨n3, q3, _, w3⟩ := DataW.trod_int Try.underlying3 t3
  simp only [List.cons.injEq, and_true] at q0 q1 q2 q3
  subst q0; subst q1; subst q2; subst q3
  exact ⟨⟨n0, n1, n2, n3⟩, h0, h1, h2, h3, ⟨wf_i64 w0, wf_i64 w1, wf_i64 w2, wf_i64 w3⟩⟩

theorem steps_of {H : Type} {enc : TypeId × Value → H} {W : World} {a : Option Addr} {len cap : Nat} {d : DataW H} {ps : List MemPlace} (h : DataW.Trod enc Try.prog W 0 (fun _ => true) true 23 (.slice a len cap) d ps) :
    ∃ l : List Stp, l.length = len ∧ StepsAt W a l ∧ len ≤ maxLen := by
  obtain ⟨fuel, hf⟩ := h
  have e4 : Try.prog.cellsOf 36 = 4 := by kernel_rfl
  rcases Go.Deep.open_slice Try.underlying23 hf with ⟨hcs, _⟩ | ⟨x, l, c, m, n, D, Pl, hcs, _, hl, hmx, hm, _, hel⟩
  · simp [Value.cells] at hcs
    obtain ⟨rfl, rfl, rfl⟩ := hcs
    exact ⟨[], rfl, fun j o ho => by simp at ho, Nat.zero_le _⟩
  · simp [Value.cells] at hcs
    obtain ⟨rfl, rfl, rfl⟩ := hcs
    have hm' : m = cap := by simpa using hm
    have key : ∀ i, i < len → ∃ o : Stp, W.cell? (x.add (i * 4)) = some (.int .i64 o.A) ∧ W.cell? ⟨(x.add (i * 4)).block, (x.add (i * 4)).off + 1, none⟩ = some (.int .i64 o.B) ∧ W.cell? ⟨(x.add (i * 4)).block, (x.add (i * 4)).off + 2, none⟩ = some (.int .i64 o.C) ∧ W.cell? ⟨(x.add (i * 4)).block, (x.add (i * 4)).off + 3, none⟩ = some (.int .i64 o.D) ∧ StpI o := by
      intro i hi
      obtain ⟨cs, hc, ht⟩ := hel i (by omega)
      rw [e4] at hc
      exact step_of hc ht
    haveI : Inhabited Stp := ⟨⟨0, 0, 0, 0⟩⟩
    obtain ⟨f, hfn⟩ := Go.Deep.choose_lt key
    refine ⟨(List.range len).map f, by simp, ?_, by omega⟩
    intro j o ho
    rw [List.getElem?_map] at ho
    have hj : j < len := by
      rcases Nat.lt_or_ge j len with h | h
      · exact h
      · rw [List.getElem?_eq_none (by simpa using h)] at ho; simp at ho
    rw [List.getElem?_range hj] at ho
    simp at ho
    subst ho
    exact ⟨x, rfl, hfn j hj⟩

end Go.Proofs.Ytpaakikgfojplab

/-
  THE WALK of the law Moved, under what the program's chain owes.
-/
namespace Go.Proofs.Ytpaakikgfojplab
open Go.RowKit Num Bk
set_option linter.unusedVariables false

theorem New.below {Rep : World → Nat → (Nat → Prop) → St → Prop} (P : PSpec Rep) {w wr w' : World} {b xc gs cs ga ca : Nat} {F : Nat → Prop} {s : St} (h : New Rep w wr b xc gs cs ga ca F s) (hb : Below wr.heap.size wr w') : New Rep w w' b xc gs cs ga ca F s :=
  ⟨h.1.keep P hb, h.2.1.trans (hb.mono h.2.1.size), h.2.2⟩

theorem New.left {Rep : World → Nat → (Nat → Prop) → St → Prop} {w wr w' : World} {b xc gs cs ga ca : Nat} {F F1 : Nat → Prop} {s : St} (h : New Rep w wr b xc gs cs ga ca F s) (r1 : Rep w' xc F1 s) (f1 : Fr F wr w') (n1 : ∀ k, F1 k → F k ∨ wr.heap.size ≤ k) : New Rep w w' b xc gs cs ga ca F1 s := by
  obtain ⟨hB, hb, hF, h3⟩ := h
  have hs := hb.size
  refine ⟨hB.left r1 f1 n1, below_fr hb f1 hF, fun k hk => ?_, h3⟩
  rcases n1 k hk with h | h
  · exact hF k h
  · omega

/-- The book, the chain, and a list of its own beside them. -/
structure Mid (Rep : World → Nat → (Nat → Prop) → St → Prop) (w wr : World) (b xc gs cs ga ca : Nat) (F : Nat → Prop) (s : St) (g cap : Nat) (l : List Nat) : Prop where
  new : New Rep w wr b xc gs cs ga ca F s
  own : wr.ownsRow 0 3 1 (.slice (some ⟨g, 0, none⟩) l.length cap) l.length (dcells l)
  out : ¬ F g

theorem Mid.below {Rep : World → Nat → (Nat → Prop) → St → Prop} (P : PSpec Rep) {w wr w' : World} {b xc gs cs ga ca g cap : Nat} {F : Nat → Prop} {s : St} {l : List Nat} (h : Mid Rep w wr b xc gs cs ga ca F s g cap l) (hb : Below wr.heap.size wr w') : Mid Rep w w' b xc gs cs ga ca F s g cap l :=
  ⟨h.new.below P hb, row_keep h.own hb (Nat.le_refl _), h.out⟩

theorem Mid.left {Rep : World → Nat → (Nat → Prop) → St → Prop} {w wr w' : World} {b xc gs cs ga ca g cap : Nat} {F : Nat → Prop} {s : St} {l : List Nat} (h : Mid Rep w wr b xc gs cs ga ca F s g cap l) (hL : Left Rep wr w' xc F s) : ∃ F', Mid Rep w w' b xc gs cs ga ca F' s g cap l := by
  obtain ⟨F1, r1, f1, n1⟩ := hL
  have hgl := own_lt h.own
  exact ⟨F1, h.new.left r1 f1 n1, row_fr h.own f1 (by intro k e; simp [Value.ownBlock] at e; subst e; exact h.out), fun h1 => (n1 g h1).elim h.out (fun h => by omega)⟩

theorem ask_zero {s : St} {id : Nat} (hk : id ∈ s.keep) {pool : Nat} (hp : pool < s.par.stakes.length) : askErr s (id : Int) (pool : Int) = 0 := by
  unfold askErr
  rw [if_neg (by simp [missing_keep hk]), if_neg]
  have : poolOk s (pool : Int) = true := by simp [poolOk]; omega
  simp [this]
theorem ask_five {s : St} {id : Nat} (hk : id ∈ s.keep) {pool : Int} (hp : pool < 0 ∨ (s.par.stakes.length : Int) ≤ pool) : askErr s (id : Int) pool = 5 := by
  unfold askErr
  rw [if_neg (by simp [missing_keep hk]), if_pos]
  simp only [poolOk, Bool.and_eq_false_iff, decide_eq_false_iff_not]
  omega
theorem stakeV_is {s : St} {id : Nat} (hk : id ∈ s.keep) {pool : Nat} (hp : pool < s.par.stakes.length) : stakeV s (id : Int) (pool : Int) = stakeOf s id pool := by
  unfold stakeV stakeOf
  rw [if_pos (ask_zero hk hp), Int.toNat_natCast, Int.toNat_natCast]
theorem countV_is {s : St} {id : Nat} (hk : id ∈ s.keep) {pool : Nat} (hp : pool < s.par.stakes.length) : countV s (id : Int) (pool : Int) = countAt s.all (pool : Int) id := by
  unfold countV
  rw [if_pos (ask_zero hk hp), Int.toNat_natCast]

/-- The sum of the first k. -/
def sumTo (l : List Int) (k : Nat) : Int := (l.take k).sum
theorem sumTo_succ (l : List Int) (k : Nat) (h : k < l.length) : sumTo l (k + 1) = sumTo l k + l.getD k 0 := by
  unfold sumTo
  rw [List.take_add_one, List.sum_append, List.getElem?_eq_getElem h]
  simp [List.getD, h]
theorem sumTo_all (l : List Int) : sumTo l l.length = l.sum := by unfold sumTo; simp
theorem sumTo_bounds (l : List Int) (h : ∀ x ∈ l, 0 ≤ x) (k : Nat) : 0 ≤ sumTo l k ∧ sumTo l k ≤ l.sum := by
  unfold sumTo
  have e := List.take_append_drop k l
  have h1 : l.sum = (l.take k).sum + (l.drop k).sum := by rw [← List.sum_append, e]
  have h2 := sum_nonneg (l.take k) (fun x hx => h x (List.mem_of_mem_take hx))
  have h3 := sum_nonneg (l.drop k) (fun x hx => h x (List.mem_of_mem_drop hx))
  omega

theorem mid_stake {Rep : World → Nat → (Nat → Prop) → St → Prop} (P : PSpec Rep) {w wr W : World} {b xc gs cs ga ca g cap : Nat} {F : Nat → Prop} {s : St} {l : List Nat} (h : Mid Rep w wr b xc gs cs ga ca F s g cap l) (hb : Below wr.heap.size wr W) (id pool : Int) (h1 : I64 id) (h2 : I64 pool) :
    Calls Try.prog 52 #[.pointer (some ⟨xc, 0, none⟩), .int .i64 id, .int .i64 pool] W fun e w' => e = .returned (.tuple #[.int .i64 (stakeV s id pool), .int .i64 (askErr s id pool)]) ∧ ∃ F', Mid Rep w w' b xc gs cs ga ca F' s g cap l :=
  (P.stake W xc F s id pool (h.below P hb).new.1.rep h.new.1.inv h1 h2).mono (fun _ _ ⟨e, hL⟩ => ⟨e, (h.below P hb).left hL⟩)

theorem mid_count {Rep : World → Nat → (Nat → Prop) → St → Prop} (P : PSpec Rep) {w wr W : World} {b xc gs cs ga ca g cap : Nat} {F : Nat → Prop} {s : St} {l : List Nat} (h : Mid Rep w wr b xc gs cs ga ca F s g cap l) (hb : Below wr.heap.size wr W) (id pool : Int) (h1 : I64 id) (h2 : I64 pool) :
    Calls Try.prog 53 #[.pointer (some ⟨xc, 0, none⟩), .int .i64 id, .int .i64 pool] W fun e w' => e = .returned (.tuple #[.int .i64 (countV s id pool), .int .i64 (askErr s id pool)]) ∧ ∃ F', Mid Rep w w' b xc gs cs ga ca F' s g cap l :=
  (P.count W xc F s id pool (h.below P hb).new.1.rep h.new.1.inv h1 h2).mono (fun _ _ ⟨e, hL⟩ => ⟨e, (h.below P hb).left hL⟩)

end Go.Proofs.Ytpaakikgfojplab

