import Derived.Test.YtpaakikgfojplabCNw1
/-
  THE WALKS of the program's New: ledger.Begin.
-/
namespace Go.Proofs.Ytpaakikgfojplab
open Go.RowKit Num Bk
set_option linter.unusedVariables false

def zeroR : Array Value := #[.int .i64 0, .int .i64 0, .int .i64 0, .int .i64 0, .int .i64 0]
def rulA (p : Par) : Array Value := #[.int .i64 p.epoch, .int .i64 p.a, .int .i64 p.b, .int .i64 (p.stakes.length : Int), .int .i64 (total p)]
theorem rul_one0 : zeroR.all (·.oneCell') = true := by simp [zeroR, Value.oneCell']
theorem rul_one (p : Par) : (rulA p).all (·.oneCell') = true := by simp [rulA, Value.oneCell']
def firstP (p : Par) : Pg := ⟨-1, fun j => p.stakes.getD j 0, zeroF, p.nonce, 0, zeroF, zeroF⟩

theorem results_cct {fn : Func} {p q u : Tmp} {ty tz : TypeId} (h : fn.results = #[.cell p ty, .cell q tz, .tmp u]) (tmps : Array Value) (P : Program) (w : World)
    (g : Nat) (t : TypeId) (cs : Array Value) (fr : Nat × Nat) (d : TypeDesc) (g' : Nat) (t' : TypeId) (cs' : Array Value) (fr' : Nat × Nat) (d' : TypeDesc)
    (hp : tmps.getD p undef = .pointer (some ⟨g, 0, none⟩)) (hq : tmps.getD q undef = .pointer (some ⟨g', 0, none⟩)) (hg : w.heap[g]? = some (.cells cs t fr)) (hg' : w.heap[g']? = some (.cells cs' t' fr'))
    (hd : (match d with | .struct _ | .array _ _ => true | _ => false) = true) (hd' : (match d' with | .struct _ | .array _ _ => true | _ => false) = true) (hu : P.underlying ty = some d) (hu' : P.underlying tz = some d') (hi : (P.info? ty).map (·.size) = some cs.size) (hi' : (P.info? tz).map (·.size) = some cs'.size) :
    (results fn tmps).run P w = .ok (.tuple #[.agg cs, .agg cs', tmps.getD u undef]) w := by
  have hl := run_loadVar_row (P := P) w g t ty cs fr d hg hu (by revert hd; cases d <;> simp) hi
  have hl' := run_loadVar_row (P := P) w g' t' tz cs' fr' d' hg' hu' (by revert hd'; cases d' <;> simp) hi'
  simp only [results, h]
  have hp' : tmps[p]?.getD undef = .pointer (some ⟨g, 0, none⟩) := by simpa using hp
  have hq' : tmps[q]?.getD undef = .pointer (some ⟨g', 0, none⟩) := by simpa using hq
  simp [hp', hq', asAddr, hl, hl']

def rgOk (p : Par) : Prop := 1 ≤ p.epoch ∧ p.epoch ≤ 50 ∧ 2 ≤ p.b ∧ p.b ≤ 20 ∧ 1 ≤ p.a ∧ p.a < p.b ∧ 0 ≤ p.nonce ∧ p.nonce < 65521
def bgOk (p : Par) : Prop := 1 ≤ p.epoch ∧ p.epoch ≤ 50 ∧ 2 ≤ p.b ∧ p.b ≤ 20 ∧ 1 ≤ p.a ∧ p.a < p.b ∧ 0 ≤ p.nonce ∧ p.nonce < 65521 ∧ stOk p.stakes
instance (p : Par) : Decidable (bgOk p) := by unfold bgOk; exact inferInstance

/-! One name each for what the last statement does. -/
def loadAr (v : Value) : Sem Value := Instr.loadAt 85 v
theorem loadAr_eq (v : Value) : Instr.loadAt 85 v = loadAr v := rfl
theorem run_loadAr (w : World) (b o : Nat) (h : okP w b o 6 = true) : (loadAr (.pointer (some ⟨b, o, none⟩))).run Try.prog w = .ok (.agg (rdP w b o 6)) w := by
  have := run_loadAt_mid (P := Try.prog) w b o 85 (rdP w b o 6).toList _ (range_rd h) Try.underlying85 rfl (by
    rw [Array.length_toList, rd_size]; exact info_arr)
  simpa [loadAr] using this
def buildPg (parts : Array (Nat × Value)) : Sem Value := Instr.build 87 parts
theorem buildPg_eq (parts : Array (Nat × Value)) : Instr.build 87 parts = buildPg parts := rfl
theorem run_buildPg (w : World) (a n : Int) (f : Nat → Int) : (buildPg #[(0, .int .i64 a), (1, .agg (arA f)), (3, .int .i64 n)]).run Try.prog w = .ok (.agg (pgA ⟨a, f, zeroF, n, 0, zeroF, zeroF⟩)) w := by
  unfold buildPg
  exact run_build w 87 _ (pgA ⟨a, f, zeroF, n, 0, zeroF, zeroF⟩) (by kernel_rfl)
def storeRl (p v : Value) : Sem Unit := Instr.storeAt 77 p v
theorem storeRl_eq (p v : Value) : Instr.storeAt 77 p v = storeRl p v := rfl
def isRl (w : World) (b : Nat) : Bool := match w.heap[b]? with
  | some (.cells cs _ fr) => decide (cs.size = 5) && decide (fr = (0, 0))
  | _ => false
theorem isRl_of {w : World} {b : Nat} {cs : Array Value} {t : TypeId} (h : w.heap[b]? = some (.cells cs t (0, 0))) (hs : cs.size = 5) : isRl w b = true := by
  unfold isRl; rw [h]; simp [hs]
theorem run_storeRl (w : World) (b : Nat) (a0 a1 a2 a3 a4 : Int) (h : isRl w b = true) : (storeRl (.pointer (some ⟨b, 0, none⟩)) (.agg #[.int .i64 a0, .int .i64 a1, .int .i64 a2, .int .i64 a3, .int .i64 a4])).run Try.prog w = .ok () (w.setRow b #[.int .i64 a0, .int .i64 a1, .int .i64 a2, .int .i64 a3, .int .i64 a4]) := by
  unfold isRl at h
  split at h
  · rename_i cs t fr hc
    simp only [Bool.and_eq_true, decide_eq_true_eq] at h
    obtain ⟨h1, h2⟩ := h
    subst h2
    unfold storeRl
    simp only [Instr.storeAt, Instr.sureAddr, Sem.run_bind, Sem.run_pure, Result.andThen_ok]
    exact run_storeVar_row w b t 77 cs _ hc info_rul h1 (by simp [Value.oneCell'])
  · simp at h

set_option maxHeartbeats 6400000 in
set_option maxRecDepth 1000000 in
theorem begin_no (p : Par) (so : Option Addr) (c : Nat) (w : World) (hall : ¬ rgOk p) :
    Calls Try.prog 57 #[parV p so c] w fun e w' => e = .returned (.tuple #[.agg (if bgOk p then rulA p else zeroR), .agg (pgA (if bgOk p then firstP p else zeroP)), .int .i64 (if bgOk p then 0 else 1)]) ∧ Below w.heap.size w w' := by
  generalize hRV : (if bgOk p then rulA p else zeroR) = RV at *
  generalize hPV : (if bgOk p then firstP p else zeroP) = PV at *
  generalize hEV : (if bgOk p then (0 : Int) else 1) = EV at *
  have HRV := Go.Proofs.Ytpaakikgfojplab.hid hRV
  have HPV := Go.Proofs.Ytpaakikgfojplab.hid hPV
  have HEV := Go.Proofs.Ytpaakikgfojplab.hid hEV
  clear hRV hPV hEV
  unfold parV
  go_enter Try.func57, Try.ntmps57
  go_upto_region 1 with fail
  generalize hA : ((w.alloc (.cells #[.int .i64 p.depth, .int .i64 p.epoch, .int .i64 p.room, .int .i64 p.a, .int .i64 p.b, .int .i64 p.nonce, .slice so p.stakes.length c] 28)).alloc (.cells #[.int .i64 0, .int .i64 0, .int .i64 0, .int .i64 0, .int .i64 0] 77)).alloc (.cells #[.int .i64 0, .int .i64 0, .int .i64 0, .int .i64 0, .int .i64 0, .int .i64 0, .int .i64 0, .int .i64 0, .int .i64 0, .int .i64 0, .int .i64 0, .int .i64 0, .int .i64 0, .int .i64 0, .int .i64 0, .int .i64 0, .int .i64 0, .int .i64 0, .int .i64 0, .int .i64 0, .int .i64 0, .int .i64 0, .int .i64 0, .int .i64 0, .int .i64 0, .int .i64 0, .int .i64 0] 87) = A at *
  obtain ⟨hsA, hbA, k0, k1, k2⟩ : w.heap.size + 3 ≤ A.heap.size ∧ Below w.heap.size w A ∧ A.heap[w.heap.size]? = some (.cells #[.int .i64 p.depth, .int .i64 p.epoch, .int .i64 p.room, .int .i64 p.a, .int .i64 p.b, .int .i64 p.nonce, .slice so p.stakes.length c] 28 (0, 0)) ∧ A.heap[w.heap.size + 1]? = some (.cells zeroR 77 (0, 0)) ∧ A.heap[w.heap.size + 2]? = some (.cells (pgA zeroP) 87 (0, 0)) := by
    subst hA
    exact blocks3 (Below.refl _ _)
  clear hA
  have s2 : ∀ cs, (A.setRow (w.heap.size + 1) cs).heap[w.heap.size + 2]? = some (.cells (pgA zeroP) 87 (0, 0)) := fun cs => (setRow_other _ _ _ _ (by omega)).trans k2
  have c1 := cell_of_cells (j := 1) k0 rfl
  have c3 := cell_of_cells (j := 3) k0 rfl
  have c4 := cell_of_cells (j := 4) k0 rfl
  have c5 := cell_of_cells (j := 5) k0 rfl
  have c6 := cell_of_cells (j := 6) k0 rfl
  by_cases qe1 : p.epoch < 1
  · have hno : ¬ bgOk p := fun h => by have := h.1; omega
    have hr' : RV = zeroR := HRV.out.symm.trans (if_neg hno)
    have hp' : PV = zeroP := HPV.out.symm.trans (if_neg hno)
    have he' : EV = 1 := HEV.out.symm.trans (if_neg hno)
    clear HRV HPV HEV hno
    subst hr'; subst hp'; subst he'
    go_wp2_with (first | refine wpList_store_row rfl 77 _ _ rfl (w.heap.size + 1) zeroR rfl rfl 77 zeroR k1 info_rul rfl rul_one0 ?_ | refine wpList_store_row rfl 87 _ _ rfl (w.heap.size + 2) (pgA zeroP) rfl rfl 87 (pgA zeroP) (s2 _) (info_page _) rfl (pg_one _) ?_)
    refine bodyPost_ret (results_cct rfl _ _ _ (w.heap.size + 1) 77 zeroR (0, 0) _ (w.heap.size + 2) 87 (pgA zeroP) (0, 0) _ rfl rfl ((setRow_other _ _ _ _ (by omega)).trans (setRow_heap _ _ _ _ _ _ k1)) (setRow_heap _ _ _ _ _ _ (s2 _)) rfl rfl Try.underlying77 Try.underlying87 info_rul (info_page _)) rfl ⟨rfl, Below.setRow (Below.setRow hbA (by omega) _) (by omega) _⟩
  by_cases qe2 : 50 < p.epoch
  · have hno : ¬ bgOk p := fun h => by have := h.2.1; omega
    have hr' : RV = zeroR := HRV.out.symm.trans (if_neg hno)
    have hp' : PV = zeroP := HPV.out.symm.trans (if_neg hno)
    have he' : EV = 1 := HEV.out.symm.trans (if_neg hno)
    clear HRV HPV HEV hno
    subst hr'; subst hp'; subst he'
    go_wp2_with (first | refine wpList_store_row rfl 77 _ _ rfl (w.heap.size + 1) zeroR rfl rfl 77 zeroR k1 info_rul rfl rul_one0 ?_ | refine wpList_store_row rfl 87 _ _ rfl (w.heap.size + 2) (pgA zeroP) rfl rfl 87 (pgA zeroP) (s2 _) (info_page _) rfl (pg_one _) ?_)
    refine bodyPost_ret (results_cct rfl _ _ _ (w.heap.size + 1) 77 zeroR (0, 0) _ (w.heap.size + 2) 87 (pgA zeroP) (0, 0) _ rfl rfl ((setRow_other _ _ _ _ (by omega)).trans (setRow_heap _ _ _ _ _ _ k1)) (setRow_heap _ _ _ _ _ _ (s2 _)) rfl rfl Try.underlying77 Try.underlying87 info_rul (info_page _)) rfl ⟨rfl, Below.setRow (Below.setRow hbA (by omega) _) (by omega) _⟩
  by_cases qb1 : p.b < 2
  · have hno : ¬ bgOk p := fun h => by have := h.2.2.1; omega
    have hr' : RV = zeroR := HRV.out.symm.trans (if_neg hno)
    have hp' : PV = zeroP := HPV.out.symm.trans (if_neg hno)
    have he' : EV = 1 := HEV.out.symm.trans (if_neg hno)
    clear HRV HPV HEV hno
    subst hr'; subst hp'; subst he'
    go_wp2_with (first | refine wpList_store_row rfl 77 _ _ rfl (w.heap.size + 1) zeroR rfl rfl 77 zeroR k1 info_rul rfl rul_one0 ?_ | refine wpList_store_row rfl 87 _ _ rfl (w.heap.size + 2) (pgA zeroP) rfl rfl 87 (pgA zeroP) (s2 _) (info_page _) rfl (pg_one _) ?_)
    refine bodyPost_ret (results_cct rfl _ _ _ (w.heap.size + 1) 77 zeroR (0, 0) _ (w.heap.size + 2) 87 (pgA zeroP) (0, 0) _ rfl rfl ((setRow_other _ _ _ _ (by omega)).trans (setRow_heap _ _ _ _ _ _ k1)) (setRow_heap _ _ _ _ _ _ (s2 _)) rfl rfl Try.underlying77 Try.underlying87 info_rul (info_page _)) rfl ⟨rfl, Below.setRow (Below.setRow hbA (by omega) _) (by omega) _⟩
  by_cases qb2 : 20 < p.b
  · have hno : ¬ bgOk p := fun h => by have := h.2.2.2.1; omega
    have hr' : RV = zeroR := HRV.out.symm.trans (if_neg hno)
    have hp' : PV = zeroP := HPV.out.symm.trans (if_neg hno)
    have he' : EV = 1 := HEV.out.symm.trans (if_neg hno)
    clear HRV HPV HEV hno
    subst hr'; subst hp'; subst he'
    go_wp2_with (first | refine wpList_store_row rfl 77 _ _ rfl (w.heap.size + 1) zeroR rfl rfl 77 zeroR k1 info_rul rfl rul_one0 ?_ | refine wpList_store_row rfl 87 _ _ rfl (w.heap.size + 2) (pgA zeroP) rfl rfl 87 (pgA zeroP) (s2 _) (info_page _) rfl (pg_one _) ?_)
    refine bodyPost_ret (results_cct rfl _ _ _ (w.heap.size + 1) 77 zeroR (0, 0) _ (w.heap.size + 2) 87 (pgA zeroP) (0, 0) _ rfl rfl ((setRow_other _ _ _ _ (by omega)).trans (setRow_heap _ _ _ _ _ _ k1)) (setRow_heap _ _ _ _ _ _ (s2 _)) rfl rfl Try.underlying77 Try.underlying87 info_rul (info_page _)) rfl ⟨rfl, Below.setRow (Below.setRow hbA (by omega) _) (by omega) _⟩
  by_cases qa1 : p.a < 1
  · have hno : ¬ bgOk p := fun h => by have := h.2.2.2.2.1; omega
    have hr' : RV = zeroR := HRV.out.symm.trans (if_neg hno)
    have hp' : PV = zeroP := HPV.out.symm.trans (if_neg hno)
    have he' : EV = 1 := HEV.out.symm.trans (if_neg hno)
    clear HRV HPV HEV hno
    subst hr'; subst hp'; subst he'
    go_wp2_with (first | refine wpList_store_row rfl 77 _ _ rfl (w.heap.size + 1) zeroR rfl rfl 77 zeroR k1 info_rul rfl rul_one0 ?_ | refine wpList_store_row rfl 87 _ _ rfl (w.heap.size + 2) (pgA zeroP) rfl rfl 87 (pgA zeroP) (s2 _) (info_page _) rfl (pg_one _) ?_)
    refine bodyPost_ret (results_cct rfl _ _ _ (w.heap.size + 1) 77 zeroR (0, 0) _ (w.heap.size + 2) 87 (pgA zeroP) (0, 0) _ rfl rfl ((setRow_other _ _ _ _ (by omega)).trans (setRow_heap _ _ _ _ _ _ k1)) (setRow_heap _ _ _ _ _ _ (s2 _)) rfl rfl Try.underlying77 Try.underlying87 info_rul (info_page _)) rfl ⟨rfl, Below.setRow (Below.setRow hbA (by omega) _) (by omega) _⟩
  by_cases qa2 : p.b ≤ p.a
  · have hno : ¬ bgOk p := fun h => by have := h.2.2.2.2.2.1; omega
    have hr' : RV = zeroR := HRV.out.symm.trans (if_neg hno)
    have hp' : PV = zeroP := HPV.out.symm.trans (if_neg hno)
    have he' : EV = 1 := HEV.out.symm.trans (if_neg hno)
    clear HRV HPV HEV hno
    subst hr'; subst hp'; subst he'
    go_wp2_with (first | refine wpList_store_row rfl 77 _ _ rfl (w.heap.size + 1) zeroR rfl rfl 77 zeroR k1 info_rul rfl rul_one0 ?_ | refine wpList_store_row rfl 87 _ _ rfl (w.heap.size + 2) (pgA zeroP) rfl rfl 87 (pgA zeroP) (s2 _) (info_page _) rfl (pg_one _) ?_)
    refine bodyPost_ret (results_cct rfl _ _ _ (w.heap.size + 1) 77 zeroR (0, 0) _ (w.heap.size + 2) 87 (pgA zeroP) (0, 0) _ rfl rfl ((setRow_other _ _ _ _ (by omega)).trans (setRow_heap _ _ _ _ _ _ k1)) (setRow_heap _ _ _ _ _ _ (s2 _)) rfl rfl Try.underlying77 Try.underlying87 info_rul (info_page _)) rfl ⟨rfl, Below.setRow (Below.setRow hbA (by omega) _) (by omega) _⟩
  by_cases qn1 : p.nonce < 0
  · have hno : ¬ bgOk p := fun h => by have := h.2.2.2.2.2.2.1; omega
    have hr' : RV = zeroR := HRV.out.symm.trans (if_neg hno)
    have hp' : PV = zeroP := HPV.out.symm.trans (if_neg hno)
    have he' : EV = 1 := HEV.out.symm.trans (if_neg hno)
    clear HRV HPV HEV hno
    subst hr'; subst hp'; subst he'
    go_wp2_with (first | refine wpList_store_row rfl 77 _ _ rfl (w.heap.size + 1) zeroR rfl rfl 77 zeroR k1 info_rul rfl rul_one0 ?_ | refine wpList_store_row rfl 87 _ _ rfl (w.heap.size + 2) (pgA zeroP) rfl rfl 87 (pgA zeroP) (s2 _) (info_page _) rfl (pg_one _) ?_)
    refine bodyPost_ret (results_cct rfl _ _ _ (w.heap.size + 1) 77 zeroR (0, 0) _ (w.heap.size + 2) 87 (pgA zeroP) (0, 0) _ rfl rfl ((setRow_other _ _ _ _ (by omega)).trans (setRow_heap _ _ _ _ _ _ k1)) (setRow_heap _ _ _ _ _ _ (s2 _)) rfl rfl Try.underlying77 Try.underlying87 info_rul (info_page _)) rfl ⟨rfl, Below.setRow (Below.setRow hbA (by omega) _) (by omega) _⟩
  by_cases qn2 : 65521 ≤ p.nonce
  · have hno : ¬ bgOk p := fun h => by have := h.2.2.2.2.2.2.2.1; omega
    have hr' : RV = zeroR := HRV.out.symm.trans (if_neg hno)
    have hp' : PV = zeroP := HPV.out.symm.trans (if_neg hno)
    have he' : EV = 1 := HEV.out.symm.trans (if_neg hno)
    clear HRV HPV HEV hno
    subst hr'; subst hp'; subst he'
    go_wp2_with (first | refine wpList_store_row rfl 77 _ _ rfl (w.heap.size + 1) zeroR rfl rfl 77 zeroR k1 info_rul rfl rul_one0 ?_ | refine wpList_store_row rfl 87 _ _ rfl (w.heap.size + 2) (pgA zeroP) rfl rfl 87 (pgA zeroP) (s2 _) (info_page _) rfl (pg_one _) ?_)
    refine bodyPost_ret (results_cct rfl _ _ _ (w.heap.size + 1) 77 zeroR (0, 0) _ (w.heap.size + 2) 87 (pgA zeroP) (0, 0) _ rfl rfl ((setRow_other _ _ _ _ (by omega)).trans (setRow_heap _ _ _ _ _ _ k1)) (setRow_heap _ _ _ _ _ _ (s2 _)) rfl rfl Try.underlying77 Try.underlying87 info_rul (info_page _)) rfl ⟨rfl, Below.setRow (Below.setRow hbA (by omega) _) (by omega) _⟩
  exact absurd ⟨by omega, by omega, by omega, by omega, by omega, by omega, by omega, by omega⟩ hall

end Go.Proofs.Ytpaakikgfojplab

