import Derived.Test.YtpaakikgfojplaaGreatCM24
import Derived.Test.YtpaakikgfojplaaGreatRows
import Derived.WalkKit
import Derived.ProofKit
import Derived.OpenShut
import Derived.ChangeOld
import Derived.Below
import Derived.Carry
import Derived.Deep.Slices
import Derived.Lib.SmallJoins
import Derived.Test.YtpaakikgfojplaaGreatCPlays
/-
  THE WALK of the statements' opened.
-/
namespace Go.Proofs.YtpaakikgfojplaaGreat
open Go.RowKit Num Bk
set_option linter.unusedVariables false

end Go.Proofs.YtpaakikgfojplaaGreat

/-
  THE WALK of the statements' played.
-/
namespace Go.Proofs.YtpaakikgfojplaaGreat
open Go.RowKit Num Bk
set_option linter.unusedVariables false

/-- A list of steps that came in. -/
def StepsAt (w : World) (a : Option Addr) (l : List Stp) : Prop :=
  ∀ j o, l[j]? = some o → ∃ x, a = some x ∧ w.cell? (x.add (j * 4)) = some (.int .i64 o.A) ∧ w.cell? ⟨(x.add (j * 4)).block, (x.add (j * 4)).off + 1, none⟩ = some (.int .i64 o.B) ∧ w.cell? ⟨(x.add (j * 4)).block, (x.add (j * 4)).off + 2, none⟩ = some (.int .i64 o.C) ∧ w.cell? ⟨(x.add (j * 4)).block, (x.add (j * 4)).off + 3, none⟩ = some (.int .i64 o.D) ∧ StpI o

theorem StepsAt.keep {w W : World} {a : Option Addr} {l : List Stp} (h : StepsAt w a l) (hb : Below w.heap.size w W) : StepsAt W a l := by
  intro j o ho
  obtain ⟨x, e, h0, h1, h2, h3, hi⟩ := h j o ho
  have key : ∀ y v, w.cell? y = some v → W.cell? y = some v := by
    intro y v hc
    rw [hb.cell (World.block_lt_of_cell? w _ hc)]; exact hc
  exact ⟨x, e, key _ _ h0, key _ _ h1, key _ _ h2, key _ _ h3, hi⟩

def playS (s : St) (l : List Stp) : St := l.foldl stepS s

theorem playS_take (s : St) (l : List Stp) (k : Nat) (o : Stp) (h : l[k]? = some o) : playS s (l.take (k + 1)) = stepS (playS s (l.take k)) o := by
  unfold playS
  have hk : k < l.length := by
    rw [List.getElem?_eq_some_iff] at h; exact h.1
  rw [List.take_add_one, h, List.foldl_append]
  rfl

end Go.Proofs.YtpaakikgfojplaaGreat

/-
  What came in, opened: a list of numbers (RawAt), a list of steps (StepsAt).
-/
namespace Go.Proofs.YtpaakikgfojplaaGreat
open Go.ChangeShapes Go.WideShapes Go.ChangeAt Go.RowKit Num Bk
set_option linter.unusedVariables false

theorem laidOut : laidOutB Tryz.prog = true := by kernel_rfl

theorem wf_i64 {n : Int} (h : (Lit.int .i64 n).wf = true) : I64 n := by
  simp only [Lit.wf, Bool.and_eq_true, decide_eq_true_eq] at h
  exact ⟨h.1, h.2⟩

theorem raw_of {H : Type} {enc : TypeId × Value → H} {W : World} {a : Option Addr} {len cap : Nat} {d : DataW H} {ps : List MemPlace} (h : DataW.Trod enc Tryz.prog W 0 (fun _ => true) true 22 (.slice a len cap) d ps) :
    ∃ z : List Int, z.length = len ∧ RawAt W a z := by
  obtain ⟨fuel, hf⟩ := h
  rcases open_ints Tryz.underlying22 Tryz.underlying3 (by kernel_rfl) hf with ⟨hcs, _⟩ | ⟨x, l, c, zs, hcs, _, hl, hm, hz, _, hcell, hwz⟩
  · simp [Value.cells] at hcs
    obtain ⟨rfl, rfl, rfl⟩ := hcs
    exact ⟨[], rfl, fun j hj => by simp at hj⟩
  · simp [Value.cells] at hcs
    obtain ⟨rfl, rfl, rfl⟩ := hcs
    have hz' : zs.length = cap := by simpa using hz
    refine ⟨zs.take len, by rw [List.length_take]; omega, ?_⟩
    intro j hj
    rw [List.length_take] at hj
    have hjz : j < zs.length := by omega
    have e : (zs.take len).getD j 0 = zs.getD j 0 := by
      simp only [List.getD, List.getElem?_take]
      rw [if_pos (by omega)]
    rw [e]
    refine ⟨x, rfl, hcell j hjz, wf_i64 (hwz _ ?_)⟩
    rw [show zs.getD j 0 = zs[j] from by simp [List.getD, hjz]]
    exact List.getElem_mem hjz

theorem cells4 {W : World} {a : Addr} {cs : List Value} (h : W.cells? 0 a 4 = some cs) : ∃ c0 c1 c2 c3, cs = [c0, c1, c2, c3] ∧ W.cell? a = some c0 ∧ W.cell? ⟨a.block, a.off + 1, none⟩ = some c1 ∧ W.cell? ⟨a.block, a.off + 2, none⟩ = some c2 ∧ W.cell? ⟨a.block, a.off + 3, none⟩ = some c3 := by
  unfold World.cells? at h
  rw [if_pos (Nat.zero_le _)] at h
  have e0 : a.add 0 = a := rfl
  have e1 : a.add 1 = ⟨a.block, a.off + 1, none⟩ := rfl
  have e2 : a.add 2 = ⟨a.block, a.off + 2, none⟩ := rfl
  have e3 : a.add 3 = ⟨a.block, a.off + 3, none⟩ := rfl
  have hr : List.range 4 = [0, 1, 2, 3] := rfl
  rw [hr] at h
  simp only [List.mapM_cons, List.mapM_nil, e0, e1, e2, e3, Option.bind_eq_bind, Option.pure_def, Option.bind_eq_some_iff, Option.some.injEq] at h
  obtain ⟨c0, h0, _, ⟨c1, h1, _, ⟨c2, h2, _, ⟨c3, h3, _, rfl, rfl⟩, rfl⟩, rfl⟩, rfl⟩ := h
  exact ⟨c0, c1, c2, c3, rfl, h0, h1, h2, h3⟩

end Go.Proofs.YtpaakikgfojplaaGreat

/-
  What came in, opened: parameters, a script.
-/
namespace Go.Proofs.YtpaakikgfojplaaGreat
open Go.ChangeShapes Go.WideShapes Go.ChangeAt Go.RowKit Num Bk
set_option linter.unusedVariables false

/-! ### What the bound gives -/
theorem bulk_pos {H : Type} (d : DataW H) : 1 ≤ Rows.uptoBulk d := by
  cases d with
  | lit l => cases l <;> simp [Rows.uptoBulk]
  | _ => simp [Rows.uptoBulk]
theorem bulk_mem {H : Type} {d : DataW H} : ∀ {l : List (DataW H)}, d ∈ l → Rows.uptoBulk d ≤ Rows.uptoBulkAll l := by
  intro l
  induction l with
  | nil => intro h; cases h
  | cons x r ih =>
    intro h
    rw [Rows.uptoBulkAll]
    rcases List.mem_cons.1 h with e | e
    · subst e; omega
    · have := ih e; omega
theorem bulk_len {H : Type} : ∀ (l : List (DataW H)), l.length ≤ Rows.uptoBulkAll l := by
  intro l
  induction l with
  | nil => simp
  | cons x r ih =>
    have := bulk_pos x
    rw [Rows.uptoBulkAll, List.length_cons]
    omega
theorem bulk_slice {H : Type} (e sp : List (DataW H)) : e.length + 1 ≤ Rows.uptoBulk (.slice e sp) := by
  have := bulk_len e
  rw [Rows.uptoBulk]
  omega
theorem bulk_part {H : Type} {d : DataW H} {l : List (DataW H)} (h : d ∈ l) : Rows.uptoBulk d ≤ Rows.uptoBulk (.agg l) := by
  have := bulk_mem h
  rw [Rows.uptoBulk]
  omega

theorem bulk_append {H : Type} (l r : List (DataW H)) : Rows.uptoBulkAll (l ++ r) = Rows.uptoBulkAll l + Rows.uptoBulkAll r := by
  induction l with
  | nil => simp [Rows.uptoBulkAll]
  | cons x l ih => rw [List.cons_append, Rows.uptoBulkAll, Rows.uptoBulkAll, ih]; omega
theorem bulk_all {H : Type} (D : Nat → DataW H) (n : Nat) (h : ∀ i, i < n → 8 ≤ Rows.uptoBulk (D i)) : 8 * n ≤ Rows.uptoBulkAll ((List.range n).map D) := by
  induction n with
  | zero => simp
  | succ n ih =>
    rw [List.range_succ, List.map_append, bulk_append]
    have h1 := ih (fun i hi => h i (by omega))
    have h2 := h n (by omega)
    simp only [List.map_cons, List.map_nil, Rows.uptoBulkAll]
    omega

theorem spot_none {w : World} {a : Addr} {v : Value} (h : w.cell? a = some v) : a = ⟨a.block, a.off, none⟩ := by
  obtain ⟨b, o, s⟩ := a
  cases s with
  | none => rfl
  | some k =>
    exfalso
    unfold World.cell? at h
    simp only at h
    split at h
    · simp at h
    · simp at h

theorem stakes_of {H : Type} {enc : TypeId × Value → H} {W : World} {n : Nat} {cs : List Value} {x : DataW H × List MemPlace} (h : DataW.trod enc Tryz.prog W 0 (fun _ => true) true n 22 cs = some x) :
    ∃ (z : List Int) (so : Option Addr) (c : Nat), cs = [.slice so z.length c] ∧ StkAt W so z ∧ (so = none → c = 0) ∧ z.length ≤ Rows.uptoBulk x.1 := by
  rcases open_ints Tryz.underlying22 Tryz.underlying3 (by kernel_rfl) h with ⟨rfl, rfl⟩ | ⟨a, l, c, zs, rfl, _, hl, hm, hz, rfl, hcell, hwz⟩
  · exact ⟨[], none, 0, rfl, fun j hj => by simp at hj, fun _ => rfl, by simp⟩
  · have hz' : zs.length = c := by simpa using hz
    have hlen : (zs.take l).length = l := by rw [List.length_take]; omega
    refine ⟨zs.take l, some a, c, by rw [hlen], ?_, fun e => by simp at e, ?_⟩
    · intro j hj
      rw [hlen] at hj
      have hc := hcell j (by omega)
      have e : (zs.take l).getD j 0 = zs.getD j 0 := by
        simp only [List.getD, List.getElem?_take]
        rw [if_pos (by omega)]
      have h0 := hcell 0 (by omega)
      have ha : a = ⟨a.block, a.off, none⟩ := spot_none (by simpa [Addr.add] using h0)
      refine ⟨a.block, a.off, by rw [← ha], ?_⟩
      rw [e]
      have e2 : a.add j = ⟨a.block, a.off + j, none⟩ := by rw [ha]; exact Addr.add_lit ..
      rw [← e2]
      exact hc
    · rw [hlen]
      have := bulk_slice (lits .i64 (zs.take l) : List (DataW H)) (lits .i64 (zs.drop l))
      have e : (lits .i64 (zs.take l) : List (DataW H)).length = l := by simp only [lits, List.length_map]; exact hlen
      rw [e] at this
      show l ≤ Rows.uptoBulk (.slice (lits .i64 (zs.take l)) (lits .i64 (zs.drop l)))
      omega

theorem int_one {H : Type} {enc : TypeId × Value → H} {W : World} {n : Nat} {cs : List Value} {x : DataW H × List MemPlace} (h : DataW.trod enc Tryz.prog W 0 (fun _ => true) true n 3 cs = some x) : ∃ k, cs = [.int .i64 k] ∧ I64 k := by
  obtain ⟨k, q, _, w⟩ := DataW.trod_int Tryz.underlying3 h
  exact ⟨k, q, wf_i64 w⟩

theorem trod_struct7 {H : Type} {enc : TypeId × Value → H} {W : World} {t : TypeId} {f0 f1 f2 f3 f4 f5 f6 : Field} {fuel : Nat} {cs : List Value} {x : DataW H × List MemPlace} (ht : Tryz.prog.underlying t = some (.struct #[f0, f1, f2, f3, f4, f5, f6])) (h : DataW.trod enc Tryz.prog W 0 (fun _ => true) true fuel t cs = some x) :
    ∃ y0 y1 y2 y3 y4 y5 y6 n, x.1 = .agg [y0.1, y1.1, y2.1, y3.1, y4.1, y5.1, y6.1] ∧ DataW.trod enc Tryz.prog W 0 (fun _ => true) true n f0.type ((cs.drop f0.offset).take (Tryz.prog.cellsOf f0.type)) = some y0 ∧ DataW.trod enc Tryz.prog W 0 (fun _ => true) true n f1.type ((cs.drop f1.offset).take (Tryz.prog.cellsOf f1.type)) = some y1 ∧ DataW.trod enc Tryz.prog W 0 (fun _ => true) true n f2.type ((cs.drop f2.offset).take (Tryz.prog.cellsOf f2.type)) = some y2 ∧ DataW.trod enc Tryz.prog W 0 (fun _ => true) true n f3.type ((cs.drop f3.offset).take (Tryz.prog.cellsOf f3.type)) = some y3 ∧ DataW.trod enc Tryz.prog W 0 (fun _ => true) true n f4.type ((cs.drop f4.offset).take (Tryz.prog.cellsOf f4.type)) = some y4 ∧ DataW.trod enc Tryz.prog W 0 (fun _ => true) true n f5.type ((cs.drop f5.offset).take (Tryz.prog.cellsOf f5.type)) = some y5 ∧ DataW.trod enc Tryz.prog W 0 (fun _ => true) true n f6.type ((cs.drop f6.offset).take (Tryz.prog.cellsOf f6.type)) = some y6 := by
  obtain ⟨xs, n, _, rfl, hl, hlen, hf⟩ := DataW.trod_struct ht h
  match xs, hlen with
  | [y0, y1, y2, y3, y4, y5, y6], _ => exact ⟨y0, y1, y2, y3, y4, y5, y6, n, by simp, by simpa using hf 0 f0 rfl, by simpa using hf 1 f1 rfl, by simpa using hf 2 f2 rfl, by simpa using hf 3 f3 rfl, by simpa using hf 4 f4 rfl, by simpa using hf 5 f5 rfl, by simpa using hf 6 f6 rfl⟩

theorem par_arg {H : Type} {enc : TypeId × Value → H} {W : World} {cs : Array Value} {d : DataW H} {ps : List MemPlace} (hs : cs.size = 7) (h : DataW.Trod enc Tryz.prog W 0 (fun _ => true) true 24 (.agg cs) d ps) :
    ∃ (p : Par) (so : Option Addr) (c : Nat), Value.agg cs = parV p so c ∧ StkAt W so p.stakes ∧ (so = none → c = 0) ∧ p.stakes.length ≤ Rows.uptoBulk d := by
  obtain ⟨l⟩ := cs
  obtain ⟨c0, c1, c2, c3, c4, c5, c6, rfl⟩ : ∃ c0 c1 c2 c3 c4 c5 c6, l = [c0, c1, c2, c3, c4, c5, c6] := by
    have hs' : l.length = 7 := by simpa using hs
    match l, hs' with
    | [a, b, c, d, e, f, g], _ => exact ⟨a, b, c, d, e, f, g, rfl⟩
  obtain ⟨fuel, hf⟩ := h
  have hf' : DataW.trod enc Tryz.prog W 0 (fun _ => true) true fuel 24 [c0, c1, c2, c3, c4, c5, c6] = some (d, ps) := hf
  obtain ⟨y0, y1, y2, y3, y4, y5, y6, nn, hx, t0, t1, t2, t3, t4, t5, t6⟩ := trod_struct7 Tryz.underlying24 hf'
  have e1 : Tryz.prog.cellsOf 3 = 1 := by kernel_rfl
  have e2 : Tryz.prog.cellsOf 22 = 1 := by kernel_rfl
  simp only [e1, e2, List.drop_zero, List.drop_succ_cons, List.take_succ_cons, List.take_zero] at t0 t1 t2 t3 t4 t5 t6
  obtain ⟨k0, q0, _⟩ := int_one t0
  obtain ⟨k1, q1, _⟩ := int_one t1
  obtain ⟨k2, q2, _⟩ := int_one t2
  obtain ⟨k3, q3, _⟩ := int_one t3
  obtain ⟨k4, q4, _⟩ := int_one t4
  obtain ⟨k5, q5, _⟩ := int_one t5
  obtain ⟨z, so, c, q6, hst, hso, hzl⟩ := stakes_of t6
  simp only [List.cons.injEq, and_true] at q0 q1 q2 q3 q4 q5 q6
  subst q0; subst q1; subst q2; subst q3; subst q4; subst q5; subst q6
  refine ⟨⟨k0, k1, k2, k3, k4, k5, z⟩, so, c, rfl, hst, hso, Nat.le_trans hzl ?_⟩
  have hx' : d = .agg [y0.1, y1.1, y2.1, y3.1, y4.1, y5.1, y6.1] := hx
  rw [hx']
  exact bulk_part (by simp)

theorem hdr_one {H : Type} {enc : TypeId × Value → H} {W : World} {n : Nat} {c0 c1 c2 c3 c4 c5 c6 : Value} {x : DataW H × List MemPlace} (h : DataW.trod enc Tryz.prog W 0 (fun _ => true) true n 40 [c0, c1, c2, c3, c4, c5, c6] = some x) :
    ∃ g : Hdr, [c0, c1, c2, c3, c4, c5, c6] = [.int .i64 g.slot, .int .i64 g.pool, .int .i64 g.proof, .int .i64 g.count, .int .i64 g.frm, .int .i64 g.dst, .int .i64 g.amount] ∧ HdrI g := by
  obtain ⟨y0, y1, y2, y3, y4, y5, y6, nn, hx, t0, t1, t2, t3, t4, t5, t6⟩ := trod_struct7 Tryz.underlying40 h
  have e1 : Tryz.prog.cellsOf 3 = 1 := by kernel_rfl
  simp only [e1, List.drop_zero, List.drop_succ_cons, List.take_succ_cons, List.take_zero] at t0 t1 t2 t3 t4 t5 t6
  obtain ⟨k0, q0, i0⟩ := int_one t0
  obtain ⟨k1, q1, i1⟩ := int_one t1
  obtain ⟨k2, q2, i2⟩ := int_one t2
  obtain ⟨k3, q3, i3⟩ := int_one t3
  obtain ⟨k4, q4, i4⟩ := int_one t4
  obtain ⟨k5, q5, i5⟩ := int_one t5
  obtain ⟨k6, q6, i6⟩ := int_one t6
  simp only [List.cons.injEq, and_true] at q0 q1 q2 q3 q4 q5 q6
  subst q0; subst q1; subst q2; subst q3; subst q4; subst q5; subst q6
  exact ⟨⟨k0, k1, k2, k3, k4, k5, k6⟩, rfl, ⟨i0, i1, i2, i3, i4, i5, i6⟩⟩

theorem op_of {H : Type} {enc : TypeId × Value → H} {W : World} {a : Addr} {cs : List Value} {n : Nat} {x : DataW H × List MemPlace} (hc : W.cells? 0 a 13 = some cs) (h : DataW.trod enc Tryz.prog W 0 (fun _ => true) true n 42 cs = some x) :
    ∃ o : OpS, (OpAt W a o ∧ OpI o) ∧ 8 ≤ Rows.uptoBulk x.1 := by
  obtain ⟨_, hcl, hcell⟩ := World.cells?_some hc
  obtain ⟨c0, c1, c2, c3, c4, c5, c6, c7, c8, c9, c10, c11, c12, rfl⟩ : ∃ c0 c1 c2 c3 c4 c5 c6 c7 c8 c9 c10 c11 c12, cs = [c0, c1, c2, c3, c4, c5, c6, c7, c8, c9, c10, c11, c12] := by
    match cs, hcl with
    | [a, b, c, d, e, f, g, h, i, j, k, l, m], _ => exact ⟨a, b, c, d, e, f, g, h, i, j, k, l, m, rfl⟩
  obtain ⟨y0, y1, y2, y3, y4, y5, y6, nn, hx, t0, t1, t2, t3, t4, t5, t6⟩ := trod_struct7 Tryz.underlying42 h
  have e1 : Tryz.prog.cellsOf 3 = 1 := by kernel_rfl
  have e2 : Tryz.prog.cellsOf 4 = 1 := by kernel_rfl
  have e3 : Tryz.prog.cellsOf 40 = 7 := by kernel_rfl
  have e4 : Tryz.prog.cellsOf 9 = 1 := by kernel_rfl
  simp only [e1, e2, e3, e4, List.drop_zero, List.drop_succ_cons, List.take_succ_cons, List.take_zero] at t0 t1 t2 t3 t4 t5 t6
  obtain ⟨k0, q0, i0⟩ := int_one t0
  obtain ⟨k1, q1, _⟩ := DataW.trod_bool Tryz.underlying4 t1
  obtain ⟨k2, q2, i2⟩ := int_one t2
  obtain ⟨k3, q3, i3⟩ := int_one t3
  obtain ⟨k4, q4, i4⟩ := int_one t4
  obtain ⟨g, q5, i5⟩ := hdr_one t5
  obtain ⟨st, q6, _, hst⟩ := DataW.trod_string Tryz.underlying9 t6
  simp only [List.cons.injEq, and_true] at q0 q1 q2 q3 q4 q5 q6
  obtain ⟨r0, r1, r2, r3, r4, r5, r6⟩ := q5
  subst q0; subst q1; subst q2; subst q3; subst q4; subst q6; subst r0; subst r1; subst r2; subst r3; subst r4; subst r5; subst r6
  have hb8 : 8 ≤ Rows.uptoBulk x.1 := by
    rw [hx, Rows.uptoBulk]
    have := bulk_len [y0.1, y1.1, y2.1, y3.1, y4.1, y5.1, y6.1]
    simp only [List.length_cons, List.length_nil] at this
    omega
  exact ⟨⟨k0, k1, k2, k3, k4, g, st⟩, ⟨⟨hcell 0 (by omega), hcell 1 (by omega), hcell 2 (by omega), hcell 3 (by omega), hcell 4 (by omega), hcell 5 (by omega), hcell 6 (by omega), hcell 7 (by omega), hcell 8 (by omega), hcell 9 (by omega), hcell 10 (by omega), hcell 11 (by omega), hcell 12 (by omega)⟩, ⟨i0, i2, i3, i4, i5, hst⟩⟩, hb8⟩

theorem ops_of {H : Type} {enc : TypeId × Value → H} {W : World} {a : Option Addr} {len cap : Nat} {d : DataW H} {ps : List MemPlace} (h : DataW.Trod enc Tryz.prog W 0 (fun _ => true) true 25 (.slice a len cap) d ps) :
    ∃ l : List OpS, l.length = len ∧ OpsAt W a l ∧ 8 * len ≤ Rows.uptoBulk d := by
  obtain ⟨fuel, hf⟩ := h
  have e4 : Tryz.prog.cellsOf 42 = 13 := by kernel_rfl
  rcases Go.Deep.open_slice Tryz.underlying25 hf with ⟨hcs, hx⟩ | ⟨x, l, c, m, n, D, Pl, hcs, _, hl, hmx, hm, hx, hel⟩
  · simp [Value.cells] at hcs
    obtain ⟨rfl, rfl, rfl⟩ := hcs
    exact ⟨[], rfl, fun j o ho => by simp at ho, Nat.zero_le _⟩
  · simp [Value.cells] at hcs
    obtain ⟨rfl, rfl, rfl⟩ := hcs
    have hm' : m = cap := by simpa using hm
    have key : ∀ i, i < len → ∃ o : OpS, (OpAt W (x.add (i * 13)) o ∧ OpI o) ∧ 8 ≤ Rows.uptoBulk (D i) := by
      intro i hi
      obtain ⟨cs, hc, ht⟩ := hel i (by omega)
      rw [e4] at hc
      exact op_of hc ht
    haveI : Inhabited OpS := ⟨⟨0, false, 0, 0, 0, zeroH, .empty⟩⟩
    obtain ⟨f, hfn⟩ := Go.Deep.choose_lt key
    refine ⟨(List.range len).map f, by simp, ?_, ?_⟩
    · intro j o ho
      rw [List.getElem?_map] at ho
      have hj : j < len := by
        rcases Nat.lt_or_ge j len with h | h
        · exact h
        · rw [List.getElem?_eq_none (by simpa using h)] at ho; simp at ho
      rw [List.getElem?_range hj] at ho
      simp at ho
      subst ho
      exact ⟨x, rfl, (hfn j hj).1⟩
    · simp only [Prod.mk.injEq] at hx
      rw [hx.1, Rows.uptoBulk]
      have := bulk_all D len (fun i hi => (hfn i hi).2)
      omega

end Go.Proofs.YtpaakikgfojplaaGreat

