import Derived.Test.YtpaakikgfojplaaCTxP
import Derived.Test.YtpaakikgfojplaaRows
import Derived.WalkKit
import Derived.ProofKit
import Derived.OpenShut
import Derived.ChangeOld
import Derived.Below
import Derived.Carry
import Derived.Deep.Slices
import Derived.Lib.SmallJoins
/-
  What came in, opened: a text, a header.
-/
namespace Go.Proofs.Ytpaakikgfojplaa
open Go.ChangeShapes Go.WideShapes Go.ChangeAt Go.RowKit Num Bk Tx
set_option linter.unusedVariables false

theorem laidTx : laidOutB Try.prog = true := by kernel_rfl

theorem int_tx {H : Type} {enc : TypeId × Value → H} {W : World} {n : Nat} {cs : List Value} {x : DataW H × List MemPlace} (h : DataW.trod enc Try.prog W 0 (fun _ => true) true n 3 cs = some x) : ∃ k : Int, cs = [.int .i64 k] ∧ k ≤ 9223372036854775807 := by
  obtain ⟨k, q, _, w⟩ := DataW.trod_int Try.underlying3 h
  refine ⟨k, q, ?_⟩
  simp only [Lit.wf, Bool.and_eq_true, decide_eq_true_eq] at w
  exact w.2

theorem trod_seven {H : Type} {enc : TypeId × Value → H} {W : World} {t : TypeId} {f0 f1 f2 f3 f4 f5 f6 : Field} {fuel : Nat} {cs : List Value} {x : DataW H × List MemPlace} (ht : Try.prog.underlying t = some (.struct #[f0, f1, f2, f3, f4, f5, f6])) (h : DataW.trod enc Try.prog W 0 (fun _ => true) true fuel t cs = some x) :
    ∃ y0 y1 y2 y3 y4 y5 y6 n, x.1 = .agg [y0.1, y1.1, y2.1, y3.1, y4.1, y5.1, y6.1] ∧ DataW.trod enc Try.prog W 0 (fun _ => true) true n f0.type ((cs.drop f0.offset).take (Try.prog.cellsOf f0.type)) = some y0 ∧ DataW.trod enc Try.prog W 0 (fun _ => true) true n f1.type ((cs.drop f1.offset).take (Try.prog.cellsOf f1.type)) = some y1 ∧ DataW.trod enc Try.prog W 0 (fun _ => true) true n f2.type ((cs.drop f2.offset).take (Try.prog.cellsOf f2.type)) = some y2 ∧ DataW.trod enc Try.prog W 0 (fun _ => true) true n f3.type ((cs.drop f3.offset).take (Try.prog.cellsOf f3.type)) = some y3 ∧ DataW.trod enc Try.prog W 0 (fun _ => true) true n f4.type ((cs.drop f4.offset).take (Try.prog.cellsOf f4.type)) = some y4 ∧ DataW.trod enc Try.prog W 0 (fun _ => true) true n f5.type ((cs.drop f5.offset).take (Try.prog.cellsOf f5.type)) = some y5 ∧ DataW.trod enc Try.prog W 0 (fun _ => true) true n f6.type ((cs.drop f6.offset).take (Try.prog.cellsOf f6.type)) = some y6 := by
  obtain ⟨xs, n, _, rfl, hl, hlen, hf⟩ := DataW.trod_struct ht h
  match xs, hlen with
  | [y0, y1, y2, y3, y4, y5, y6], _ => exact ⟨y0, y1, y2, y3, y4, y5, y6, n, by simp, by simpa using hf 0 f0 rfl, by simpa using hf 1 f1 rfl, by simpa using hf 2 f2 rfl, by simpa using hf 3 f3 rfl, by simpa using hf 4 f4 rfl, by simpa using hf 5 f5 rfl, by simpa using hf 6 f6 rfl⟩


theorem hdr_arg {H : Type} {enc : TypeId × Value → H} {W : World} {cs : Array Value} {d : DataW H} {ps : List MemPlace} (hs : cs.size = 7) (h : DataW.Trod enc Try.prog W 0 (fun _ => true) true 30 (.agg cs) d ps) :
    ∃ g : Hdr, Value.agg cs = hdrV g ∧ Fits g := by
  obtain ⟨l⟩ := cs
  obtain ⟨c0, c1, c2, c3, c4, c5, c6, rfl⟩ : ∃ c0 c1 c2 c3 c4 c5 c6, l = [c0, c1, c2, c3, c4, c5, c6] := by
    have hs' : l.length = 7 := by simpa using hs
    match l, hs' with
    | [a, b, c, d, e, f, g], _ => exact ⟨a, b, c, d, e, f, g, rfl⟩
  obtain ⟨fuel, hf⟩ := h
  have hf' : DataW.trod enc Try.prog W 0 (fun _ => true) true fuel 30 [c0, c1, c2, c3, c4, c5, c6] = some (d, ps) := hf
  obtain ⟨y0, y1, y2, y3, y4, y5, y6, nn, hx, t0, t1, t2, t3, t4, t5, t6⟩ := trod_seven Try.underlying30 hf'
  have e1 : Try.prog.cellsOf 3 = 1 := by kernel_rfl
  simp only [e1, List.drop_zero, List.drop_succ_cons, List.take_succ_cons, List.take_zero] at t0 t1 t2 t3 t4 t5 t6
  obtain ⟨k0, q0, i0⟩ := int_tx t0
  obtain ⟨k1, q1, i1⟩ := int_tx t1
  obtain ⟨k2, q2, i2⟩ := int_tx t2
  obtain ⟨k3, q3, i3⟩ := int_tx t3
  obtain ⟨k4, q4, i4⟩ := int_tx t4
  obtain ⟨k5, q5, i5⟩ := int_tx t5
  obtain ⟨k6, q6, i6⟩ := int_tx t6
  simp only [List.cons.injEq, and_true] at q0 q1 q2 q3 q4 q5 q6
  subst q0; subst q1; subst q2; subst q3; subst q4; subst q5; subst q6
  refine ⟨⟨k0, k1, k2, k3, k4, k5, k6⟩, rfl, ?_⟩
  intro x hx
  simp only [flds, List.mem_cons, List.not_mem_nil, or_false] at hx
  rcases hx with rfl | rfl | rfl | rfl | rfl | rfl | rfl <;> assumption

end Go.Proofs.Ytpaakikgfojplaa

