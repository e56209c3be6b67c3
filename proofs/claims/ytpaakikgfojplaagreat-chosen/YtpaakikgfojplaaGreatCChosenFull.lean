import Derived.Test.YtpaakikgfojplaaGreatCM28
import Derived.Test.YtpaakikgfojplaaGreatCNw5
import Derived.Test.YtpaakikgfojplaaGreatCLawStep9
/-
  The row of 'Chosen': what came in opened, the walk, what came in read again.
-/
namespace Go.Proofs.YtpaakikgfojplaaGreat
open Go.RowKit Num Bk
set_option linter.unusedVariables false

set_option maxHeartbeats 1600000 in
set_option maxRecDepth 1000000 in
theorem chosen_full {Rep : World → Nat → (Nat → Prop) → St → Prop} (P : PSpec Rep) (hstep : StepOwes Rep 9) (p : Par) (so : Option Addr) (cp : Nat) (q : Par) (sq : Option Addr) (cq : Nat) (a : Option Addr) (l : List OpS) (cap : Nat) (w : World)
    (hp : StkAt w so p.stakes) (hp0 : so = none → cp = 0) (hpn : p.stakes.length ≤ 17592186044416) (hq : StkAt w sq q.stakes) (hq0 : sq = none → cq = 0) (hqn : q.stakes.length ≤ 17592186044416) (hl : OpsAt w a l) (hln : l.length ≤ 1300000000000) :
    Calls Tryz.prog 4 #[parV p so cp, parV q sq cq, .slice a l.length cap] w fun r w' => r = .returned (.bool true) ∧ Below w.heap.size w w' := by
  unfold parV
  go_enter Tryz.func4, Tryz.ntmps4
  go_wp2_with fail
  generalize hA : (w.alloc (.cells #[.int .i64 p.depth, .int .i64 p.epoch, .int .i64 p.room, .int .i64 p.a, .int .i64 p.b, .int .i64 p.nonce, .slice so p.stakes.length cp] 24)).alloc (.cells #[.int .i64 q.depth, .int .i64 q.epoch, .int .i64 q.room, .int .i64 q.a, .int .i64 q.b, .int .i64 q.nonce, .slice sq q.stakes.length cq] 24) = A at *
  obtain ⟨hsA, hbA, hAp, hAq⟩ := below_two hA
  clear hA
  have hc := plays_any P 9 hstep p so cp q sq cq a l cap A (hp.keep hbA) hp0 hpn (hq.keep hbA) hq0 hqn (hl.keep hbA) hln
  unfold parV at hc
  refine hc.mono ?_
  rintro r w1 ⟨rfl, hb1⟩
  have HB := Go.Proofs.YtpaakikgfojplaaGreat.hid (hbA.trans (hb1.mono hbA.size))
  clear hc hb1 hbA hAp hAq hp hq hl
  go_wp2
  go_ret
  exact ⟨rfl, HB.out⟩

end Go.Proofs.YtpaakikgfojplaaGreat

namespace Go.Proofs.YtpaakikgfojplaaGreat.chosenf
open Go.Proofs.YtpaakikgfojplaaGreat Go.ChangeShapes Go.WideShapes Go.ChangeAt Go.RowKit
set_option linter.unusedVariables false

theorem own : ownKnob Tryz.prog.godebug = none := by kernel_rfl

theorem owes : StepOwes RepP 9 := fun w wd x c F G s lv mv L M o h ho hk hL => step9_any paid h o ho hk hL

set_option maxRecDepth 100000 in
theorem lifted (os : Os) (started : os.Started) (H : Type) (enc : TypeId × Value → H) :
    ReturnsInHanded {} Tryz.checked os 4 .any (Rows.chosenSpec.pre6 enc Tryz.prog Tryz.f4 Rows.chosenRow.domain false) (Rows.chosenSpec.post enc Tryz.prog Tryz.f4 false true false false) := by
  refine returnsInHanded_of_change_sized (C := Tryz.checked) own started (by kernel_rfl) Tryz.func4
    (ChangeSpec.witness6 (enc := enc) (C := Tryz.checked) false ⟨#[], #[.agg #[.int .i64 0, .int .i64 0, .int .i64 0, .int .i64 0, .int .i64 0, .int .i64 0, .slice none 0 0], .agg #[.int .i64 0, .int .i64 0, .int .i64 0, .int .i64 0, .int .i64 0, .int .i64 0, .slice none 0 0], .slice none 0 0], []⟩ 8 (by kernel_rfl) (by kernel_rfl) (by kernel_rfl) (by kernel_rfl)) ?_
  intro W base args ds gs before hval0 hW hcnd hsz0 _
  have hval : ∀ (j : Nat) t v, Tryz.f4.params[j]? = some t → args[j]? = some v → Value.okWide Tryz.prog W .any base t v := hval0
  have hsz : (DataW.weightsEach Tryz.prog (Tryz.f4.params.toList ++ Rows.chosenSpec.plain.varTypes Tryz.prog) (ds ++ gs)).all (· ≤ reachBytes) = true := hsz0
  have hW' := hW
  obtain ⟨p, q, hA0, hV, rfl, hfz, hnd⟩ := hW
  have hA : DataW.TrodAll enc Tryz.prog W 0 (fun _ => true) true Tryz.f4.params.toList args.toList ds p := hA0
  rw [Tryz.params4] at hA hval hsz
  obtain ⟨v0, vs0, d0, ds0, p0, q0, hargs, rfl, rfl, h0, r0⟩ := trodAll_cons hA
  obtain ⟨v1, vs1, d1, ds1, p1, q1, rfl, rfl, rfl, h1, r1⟩ := trodAll_cons r0
  obtain ⟨v2, vs2, d2, ds2, p2, q2, rfl, rfl, rfl, h2, r2⟩ := trodAll_cons r1
  obtain ⟨rfl, rfl, rfl⟩ := trodAll_nil r2
  obtain rfl : args = #[v0, v1, v2] := by cases args; simp_all
  obtain ⟨rfl, rfl⟩ := trodVars_none hV
  obtain ⟨cs0, rfl, hs0⟩ := okWide_struct Tryz.underlying24 (hval 0 24 v0 rfl rfl)
  obtain ⟨cs1, rfl, hs1⟩ := okWide_struct Tryz.underlying24 (hval 1 24 v1 rfl rfl)
  obtain ⟨a2, len2, cap2, rfl⟩ := okWide_slice Tryz.underlying25 (hval 2 25 v2 rfl rfl)
  have k0 := h0
  have k1 := h1
  have k2 := h2
  have lt0 : ∀ x ∈ p0, x.block < W.heap.size := by obtain ⟨m, hm⟩ := k0; exact DataW.trod_lt m _ _ _ hm
  have lt1 : ∀ x ∈ p1, x.block < W.heap.size := by obtain ⟨m, hm⟩ := k1; exact DataW.trod_lt m _ _ _ hm
  have lt2 : ∀ x ∈ p2, x.block < W.heap.size := by obtain ⟨m, hm⟩ := k2; exact DataW.trod_lt m _ _ _ hm
  obtain ⟨P0, so, cp, e0, st0, so0, _⟩ := par_arg (hs0.trans (by kernel_rfl)) h0
  obtain ⟨P1, sq, cq, e1, st1, sq0, _⟩ := par_arg (hs1.trans (by kernel_rfl)) h1
  have n2 := ops_len h2 (weight_arg hsz (j := 2) rfl rfl)
  obtain ⟨l, rfl, hl, _⟩ := ops_of h2
  have n0 := stk_len (by rw [← e0]; exact k0) (weight_arg hsz (j := 0) rfl rfl)
  have n1 := stk_len (by rw [← e1]; exact k1) (weight_arg hsz (j := 1) rfl rfl)
  clear hA0 hval0 hsz0
  have hcall := chosen_full paid owes P0 so cp P1 sq cq a2 l cap2 W st0 so0 n0 st1 sq0 n1 hl n2
  rw [← e0, ← e1] at hcall
  refine hcall.mono fun e W' ⟨he, bel⟩ => ?_
  subst he
  exact ⟨_, rfl, _, _, _, [], _, [], hW', trodAll_mk1 (shut_bool Tryz.underlying4 _), (trodAll_cons_mk (Below.trod laidOut (by kernel_rfl) (of_decide_eq_true (by kernel_rfl)) k0 bel lt0) (trodAll_cons_mk (Below.trod laidOut (by kernel_rfl) (of_decide_eq_true (by kernel_rfl)) k1 bel lt1) (trodAll_cons_mk (Below.trod laidOut (by kernel_rfl) (of_decide_eq_true (by kernel_rfl)) k2 bel lt2) trodAll_mk0))), rfl, bel.frame _, fun h => by cases h⟩

theorem over : Rows.chosenRow.holds Tryz.pinned (OpenSpec.ofChange Rows.chosenSpec) :=
  OpenClaim.holds_of_wide 4 Tryz.f4 rfl rfl rfl rfl rfl rfl rfl ⟨rfl, rfl, rfl, rfl, rfl⟩ rfl rfl rfl rfl rfl (by kernel_rfl) Tryz.func4 (by kernel_rfl)
    (of_decide_eq_true (by kernel_rfl)) (by unfold Func.isWrapper; first | (rw [if_pos (by decide +kernel)]; kernel_rfl) | (rw [if_neg (by decide +kernel)]; exact ⟨rfl, rfl⟩))
    (fun os started H enc _ => lifted os started H enc)

/-- ████ THE STATEMENT ████ -/
theorem proved : Rows.ChosenSaid :=
  over
#print axioms proved
end Go.Proofs.YtpaakikgfojplaaGreat.chosenf

