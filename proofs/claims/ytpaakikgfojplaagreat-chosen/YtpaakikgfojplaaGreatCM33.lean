import Derived.Test.YtpaakikgfojplaaGreatCBc3
/-
  THE WALKS of the program's New: readStakes.
-/
namespace Go.Proofs.YtpaakikgfojplaaGreat
open Go.RowKit Num Bk
set_option linter.unusedVariables false

def arA (f : Nat → Int) : Array Value := #[.int .i64 (f 0), .int .i64 (f 1), .int .i64 (f 2), .int .i64 (f 3), .int .i64 (f 4), .int .i64 (f 5)]
def zeroF : Nat → Int := fun _ => 0
theorem arA_at (f : Nat → Int) : ∀ k, k < 6 → (arA f)[k]? = some (.int .i64 (f k)) := six rfl rfl rfl rfl rfl rfl
theorem arA_set (f : Nat → Int) (v : Int) : ∀ k, k < 6 → (arA f).setIfInBounds k (.int .i64 v) = arA (upd f k v) := six rfl rfl rfl rfl rfl rfl
theorem info_arA (f : Nat → Int) : (Tryz.prog.info? 54).map (·.size) = some (arA f).size := info_arr
theorem arA_one (f : Nat → Int) : (arA f).all (·.oneCell') = true := by simp [arA, Value.oneCell']

theorem results_ctt {fn : Func} {p u v : Tmp} {ty : TypeId} (h : fn.results = #[.cell p ty, .tmp u, .tmp v]) (tmps : Array Value) (P : Program) (w : World) (g : Nat) (t : TypeId) (cs : Array Value) (fr : Nat × Nat) (d : TypeDesc)
    (hp : tmps.getD p undef = .pointer (some ⟨g, 0, none⟩)) (hg : w.heap[g]? = some (.cells cs t fr))
    (hd : (match d with | .struct _ | .array _ _ => true | _ => false) = true) (hu : P.underlying ty = some d) (hi : (P.info? ty).map (·.size) = some cs.size) :
    (results fn tmps).run P w = .ok (.tuple #[.agg cs, tmps.getD u undef, tmps.getD v undef]) w := by
  have hl := run_loadVar_row (P := P) w g t ty cs fr d hg hu (by revert hd; cases d <;> simp) hi
  simp only [results, h]
  have hp' : tmps[p]?.getD undef = .pointer (some ⟨g, 0, none⟩) := by simpa using hp
  simp [hp', asAddr, hl]

/-- The stakes as far as they were read. -/
def upTo (l : List Int) (k : Nat) : Nat → Int := fun j => if j < k then l.getD j 0 else 0
theorem upTo_zero (l : List Int) : upTo l 0 = zeroF := rfl
theorem upTo_step (l : List Int) (k : Nat) : upd (upTo l k) k (l.getD k 0) = upTo l (k + 1) := by
  funext j
  unfold upd upTo
  by_cases h : k = j
  · subst h; rw [if_pos rfl, if_pos (by omega)]
  · rw [if_neg h]
    by_cases h2 : j < k
    · rw [if_pos h2, if_pos (by omega)]
    · rw [if_neg h2, if_neg (by omega)]
theorem upTo_end (l : List Int) (k : Nat) (h : l.length ≤ k) : upTo l k = fun j => l.getD j 0 := by
  funext j
  unfold upTo
  split
  · rfl
  · rw [List.getD, List.getElem?_eq_none (by omega)]; rfl

def stOk (l : List Int) : Prop := l.length ≤ 6 ∧ (∀ x ∈ l, 0 ≤ x ∧ x ≤ 40) ∧ l.sum ≠ 0
instance (l : List Int) : Decidable (stOk l) := by unfold stOk; exact inferInstance

theorem take_bounds {l : List Int} {k : Nat} (h : ∀ x ∈ l.take k, 0 ≤ x ∧ x ≤ 40) (hk : k ≤ 6) : 0 ≤ (l.take k).sum ∧ (l.take k).sum ≤ 240 := by
  have h1 := sum_le (l.take k) (fun x hx => (h x hx).2)
  have h2 : 0 ≤ (l.take k).sum := by
    have := le_sum (l.take k) (fun x hx => (h x hx).1) (l.take k).length
    simp [List.getD] at this
    exact this
  have h3 : (l.take k).length ≤ k := by rw [List.length_take]; omega
  omega

set_option maxHeartbeats 3200000 in
set_option maxRecDepth 1000000 in
theorem read_is (l : List Int) (so : Option Addr) (c : Nat) (w : World) (hs : StkAt w so l) :
    Calls Tryz.prog 46 #[.slice so l.length c] w fun e w' => e = .returned (.tuple #[.agg (arA (if stOk l then (fun j => l.getD j 0) else zeroF)), .int .i64 (if stOk l then l.sum else 0), .int .i64 (if stOk l then 0 else 1)]) ∧ Below w.heap.size w w' := by
  generalize hF : (if stOk l then (fun j => l.getD j 0) else zeroF) = FV at *
  generalize hT : (if stOk l then l.sum else 0) = TV at *
  generalize hE : (if stOk l then (0 : Int) else 1) = EV at *
  have HF := Go.Proofs.YtpaakikgfojplaaGreat.hid hF
  have HT := Go.Proofs.YtpaakikgfojplaaGreat.hid hT
  have HE := Go.Proofs.YtpaakikgfojplaaGreat.hid hE
  clear hF hT hE
  go_enter Tryz.func46, Tryz.ntmps46
  go_upto_region 2 with fail
  generalize hA : (w.alloc (.cells #[.int .i64 0, .int .i64 0, .int .i64 0, .int .i64 0, .int .i64 0, .int .i64 0] 54)).alloc (.cells #[.int .i64 0, .int .i64 0, .int .i64 0, .int .i64 0, .int .i64 0, .int .i64 0] 54) = A at *
  obtain ⟨hsA, hbA, k0, k1⟩ : w.heap.size + 2 ≤ A.heap.size ∧ Below w.heap.size w A ∧ A.heap[w.heap.size]? = some (.cells (arA zeroF) 54 (0, 0)) ∧ A.heap[w.heap.size + 1]? = some (.cells (arA zeroF) 54 (0, 0)) := by
    subst hA
    exact blocks2 (Below.refl _ _)
  clear hA
  by_cases h6 : 6 < l.length
  · have hno : ¬ stOk l := fun h => by have := h.1; omega
    have hf : FV = zeroF := HF.out.symm.trans (if_neg hno)
    have ht : TV = 0 := HT.out.symm.trans (if_neg hno)
    have he : EV = 1 := HE.out.symm.trans (if_neg hno)
    clear HF HT HE hno hs
    subst hf; subst ht; subst he
    have h6i : (6 : Int) < (l.length : Int) := by omega
    go_wp2_with (refine wpList_store_row rfl 54 _ _ rfl w.heap.size (arA zeroF) rfl rfl 54 (arA zeroF) k0 (info_arA _) rfl (arA_one _) ?_)
    refine bodyPost_ret (results_ctt rfl _ _ _ w.heap.size 54 (arA zeroF) (0, 0) _ rfl (setRow_heap _ _ _ _ _ _ k0) rfl Tryz.underlying54 (info_arA _)) rfl ⟨rfl, Below.setRow hbA (Nat.le_refl _) _⟩
  · have h6' : l.length ≤ 6 := by omega
    have HK0 := Go.Proofs.YtpaakikgfojplaaGreat.hid k0
    have HK1 := Go.Proofs.YtpaakikgfojplaaGreat.hid k1
    have HBA := Go.Proofs.YtpaakikgfojplaaGreat.hid hbA
    clear k0 k1 hbA
    go_wp2
    go_loopw [6, 7] (fun tv i wr => ∃ k : Nat, k ≤ l.length ∧ i = .int .i64 k ∧ tv = .int .i64 (l.take k).sum ∧ Hid (∀ x ∈ l.take k, 0 ≤ x ∧ x ≤ 40) ∧ wr.heap[w.heap.size]? = some (.cells (arA zeroF) 54 (0, 0)) ∧ wr.heap[w.heap.size + 1]? = some (.cells (arA (upTo l k)) 54 (0, 0)) ∧ Below w.heap.size w wr) (fun _ i _ => l.length - (intOf i).toNat)
    case atStart => exact ⟨0, Nat.zero_le _, rfl, rfl, by intro x hx; simp at hx, HK0.out, HK1.out, HBA.out⟩
    case round =>
      obtain ⟨k, hk, rfl, rfl, HAL, hR0, hR1, hbel⟩ := hrel
      have hbd := take_bounds HAL.out (by omega)
      by_cases hlt : k < l.length
      · obtain ⟨g, off, rfl, hc⟩ := hs k hlt
        have hgl : g < w.heap.size := World.block_lt_of_cell? w _ hc
        have ck : wr.cell? ⟨g, off + k, none⟩ = some (.int .i64 (l.getD k 0)) := (hbel.cell (p := ⟨g, off + k, none⟩) hgl).trans hc
        have hmem : l.getD k 0 ∈ l := by
          rw [show l.getD k 0 = l[k] from by simp [List.getD, hlt]]
          exact List.getElem_mem hlt
        have htk : l.take (k + 1) = l.take k ++ [l.getD k 0] := by
          rw [List.take_succ_eq_append_getElem hlt]
          simp [List.getD, hlt]
        have HSM : Hid ((l.take (k + 1)).sum = (l.take k).sum + l.getD k 0) := by show _ = _; rw [htk, List.sum_append]; simp
        have HAL2 : Hid (0 ≤ l.getD k 0 ∧ l.getD k 0 ≤ 40 → ∀ x ∈ l.take (k + 1), 0 ≤ x ∧ x ≤ 40) := by
          intro hv x hx
          rw [htk, List.mem_append] at hx
          rcases hx with hx | hx
          · exact HAL.out x hx
          · simp at hx; rw [hx]; exact hv
        have hst := arA_set (upTo l k) (l.getD k 0) k (by omega)
        rw [upTo_step] at hst
        have HST := Go.Proofs.YtpaakikgfojplaaGreat.hid (page_store hR1 hst)
        have HMEM := Go.Proofs.YtpaakikgfojplaaGreat.hid hmem
        clear hmem htk hst HAL hc
        generalize hv : l.getD k 0 = v at *
        have n1 : wr.cell? ⟨w.heap.size + 1, k, none⟩ = some (.int .i64 (upTo l k k)) := cell_of_cells (j := k) hR1 (arA_at _ k (by omega))
        have q1 : wr.frozen? ⟨w.heap.size + 1, k, none⟩ = false := free_of_cells hR1
        have i1 : (0 : Int) ≤ (k : Int) := by omega
        have i2 : (k : Int) < ((l.length : Nat) : Int) := by omega
        have i3 : (k : Int) < 6 := by omega
        have HR0 := Go.Proofs.YtpaakikgfojplaaGreat.hid hR0
        have HBL := Go.Proofs.YtpaakikgfojplaaGreat.hid hbel
        clear hR1 hbel
        by_cases hneg : v < 0
        · have hno : ¬ stOk l := fun h => by have := (h.2.1 v HMEM.out).1; omega
          have hf : FV = zeroF := HF.out.symm.trans (if_neg hno)
          have ht : TV = 0 := HT.out.symm.trans (if_neg hno)
          have he : EV = 1 := HE.out.symm.trans (if_neg hno)
          clear HF HT HE hno HST HSM HAL2 HMEM n1 q1
          subst hf; subst ht; subst he
          go_wp2_with (refine wpList_store_row rfl 54 _ _ rfl w.heap.size (arA zeroF) rfl rfl 54 (arA zeroF) hR0 (info_arA _) rfl (arA_one _) ?_)
          refine bodyPost_ret (results_ctt rfl _ _ _ w.heap.size 54 (arA zeroF) (0, 0) _ rfl (setRow_heap _ _ _ _ _ _ hR0) rfl Tryz.underlying54 (info_arA _)) rfl ⟨rfl, Below.setRow HBL.out (Nat.le_refl _) _⟩
        by_cases hbig : 40 < v
        · have hno : ¬ stOk l := fun h => by have := (h.2.1 v HMEM.out).2; omega
          have hf : FV = zeroF := HF.out.symm.trans (if_neg hno)
          have ht : TV = 0 := HT.out.symm.trans (if_neg hno)
          have he : EV = 1 := HE.out.symm.trans (if_neg hno)
          clear HF HT HE hno HST HSM HAL2 HMEM n1 q1
          subst hf; subst ht; subst he
          go_wp2_with (refine wpList_store_row rfl 54 _ _ rfl w.heap.size (arA zeroF) rfl rfl 54 (arA zeroF) hR0 (info_arA _) rfl (arA_one _) ?_)
          refine bodyPost_ret (results_ctt rfl _ _ _ w.heap.size 54 (arA zeroF) (0, 0) _ rfl (setRow_heap _ _ _ _ _ _ hR0) rfl Tryz.underlying54 (info_arA _)) rfl ⟨rfl, Below.setRow HBL.out (Nat.le_refl _) _⟩
        clear hR0
        generalize (l.take k).sum = T0 at *
        go_wp2
        go_roundw
        case rel =>
          refine ⟨k + 1, by omega, by go_num, by rw [HSM.out], HAL2.out ⟨by omega, by omega⟩, ?_, HST.out, ?_⟩
          · exact (Below.heap_setCell _ _ _ _ (by show w.heap.size ≠ w.heap.size + 1; omega)).trans HR0.out
          · exact HBL.out.setCell (by show w.heap.size ≤ w.heap.size + 1; omega) _
        case measure => simp [intOf]; omega
      · have hkk : k = l.length := by omega
        have HALL : Hid (∀ x ∈ l, 0 ≤ x ∧ x ≤ 40) := by have := HAL.out; rwa [hkk, List.take_length] at this
        have hsum : (l.take k).sum = l.sum := by rw [hkk, List.take_length]
        have hup := upTo_end l k (by omega)
        rw [hup] at hR1
        rw [hsum] at hbd ⊢
        clear HAL hup hsum
        by_cases hz : l.sum = 0
        · have hno : ¬ stOk l := fun h => h.2.2 hz
          have hf : FV = zeroF := HF.out.symm.trans (if_neg hno)
          have ht : TV = 0 := HT.out.symm.trans (if_neg hno)
          have he : EV = 1 := HE.out.symm.trans (if_neg hno)
          have hzb : (l.sum == 0) = true := by simp [hz]
          clear HF HT HE hno HALL hR1 hz
          subst hf; subst ht; subst he
          generalize l.sum = LS at *
          go_wp2_with (refine wpList_store_row rfl 54 _ _ rfl w.heap.size (arA zeroF) rfl rfl 54 (arA zeroF) hR0 (info_arA _) rfl (arA_one _) ?_)
          refine bodyPost_ret (results_ctt rfl _ _ _ w.heap.size 54 (arA zeroF) (0, 0) _ rfl (setRow_heap _ _ _ _ _ _ hR0) rfl Tryz.underlying54 (info_arA _)) rfl ⟨rfl, Below.setRow hbel (Nat.le_refl _) _⟩
        · have hyes : stOk l := ⟨h6', HALL.out, hz⟩
          have hf : FV = fun j => l.getD j 0 := HF.out.symm.trans (if_pos hyes)
          have ht : TV = l.sum := HT.out.symm.trans (if_pos hyes)
          have he : EV = 0 := HE.out.symm.trans (if_pos hyes)
          have hzb : (l.sum == 0) = false := by simp [hz]
          clear HF HT HE hyes HALL hz
          rw [← hf] at hR1
          subst ht; subst he
          generalize hLS : l.sum = LS at *
          clear hf
          go_wp2_with (first | refine wpList_load_row rfl 54 _ rfl (w.heap.size + 1) rfl 54 (arA FV) (0, 0) _ hR1 Tryz.underlying54 rfl (info_arA _) ?_ | refine wpList_store_row rfl 54 _ _ rfl w.heap.size (arA FV) rfl rfl 54 (arA zeroF) hR0 (info_arA _) rfl (arA_one _) ?_)
          refine bodyPost_ret (results_ctt rfl _ _ _ w.heap.size 54 (arA FV) (0, 0) _ rfl (setRow_heap _ _ _ _ _ _ hR0) rfl Tryz.underlying54 (info_arA _)) rfl ⟨by first | rfl | (rw [hLS]; rfl), Below.setRow hbel (Nat.le_refl _) _⟩

end Go.Proofs.YtpaakikgfojplaaGreat

/-
  THE WALKS of the program's New: ledger.Begin.
-/
namespace Go.Proofs.YtpaakikgfojplaaGreat
open Go.RowKit Num Bk
set_option linter.unusedVariables false

def zeroR : Array Value := #[.int .i64 0, .int .i64 0, .int .i64 0, .int .i64 0, .int .i64 0]
def rulA (p : Par) : Array Value := #[.int .i64 p.epoch, .int .i64 p.a, .int .i64 p.b, .int .i64 (p.stakes.length : Int), .int .i64 (total p)]
theorem rul_one0 : zeroR.all (·.oneCell') = true := by simp [zeroR, Value.oneCell']
theorem rul_one (p : Par) : (rulA p).all (·.oneCell') = true := by simp [rulA, Value.oneCell']
def firstP (p : Par) : Pg := ⟨-1, fun j => p.stakes.getD j 0, zeroF, p.nonce, 0, zeroF, zeroF⟩

theorem results_cct {fn : Func} {p q u : Tmp} {ty tz : TypeId} (h : fn.results = #[.cell p ty, .cell q tz, .tmp u]) (tmps : Array Value) (P : Program) (w : World)
    (g : Nat) (t : TypeId) (cs : Array Value) (fr : Nat × Nat) (d : TypeDesc) (g' : Nat) (t' : TypeId) (cs' : Array Value) (fr' : Nat × Nat) (d' : TypeDesc)
    (hp : tmps.getD p undef = .pointer (some ⟨g, 0, none⟩)) (hq : tmps.getD q undef = .pointer (some ⟨g', 0, none⟩)) (hg : w.heap[g]? = some (.cells cs t fr)) (hg' : w.heap[g']? = some (.cells cs' t' fr'))
    (hd : (match d with | .struct _ | .array _ _ => true | _ => false) = true) (hd' : (match d' with | .struct _ | .array _ _ => true | _ => false) = true) (hu : P.underlying ty = some d) (hu' : P.underlying tz = some d') (hi : (P.info? ty).map (·.size) = some cs.size) (hi' : (P.info? tz).map (·.size) = some cs'.size) :
    (results fn tmps).run P w = .ok (.tuple #[.agg cs, .agg cs', tmps.getD u undef]) w := by
  have hl := run_loadVar_row (P := P) w g t ty cs fr d hg hu (by revert hd; cases d <;> simp) hi
  have hl' := run_loadVar_row (P := P) w g' t' tz cs' fr' d' hg' hu' (by revert hd'; cases d' <;> simp) hi'
  simp only [results, h]
  have hp' : tmps[p]?.getD undef = .pointer (some ⟨g, 0, none⟩) := by simpa using hp
  have hq' : tmps[q]?.getD undef = .pointer (some ⟨g', 0, none⟩) := by simpa using hq
  simp [hp', hq', asAddr, hl, hl']

def rgOk (p : Par) : Prop := 1 ≤ p.epoch ∧ p.epoch ≤ 50 ∧ 2 ≤ p.b ∧ p.b ≤ 20 ∧ 1 ≤ p.a ∧ p.a < p.b ∧ 0 ≤ p.nonce ∧ p.nonce < 65521
def bgOk (p : Par) : Prop := 1 ≤ p.epoch ∧ p.epoch ≤ 50 ∧ 2 ≤ p.b ∧ p.b ≤ 20 ∧ 1 ≤ p.a ∧ p.a < p.b ∧ 0 ≤ p.nonce ∧ p.nonce < 65521 ∧ stOk p.stakes
instance (p : Par) : Decidable (bgOk p) := by unfold bgOk; exact inferInstance

/-! One name each for what the last statement does. -/
def loadAr (v : Value) : Sem Value := Instr.loadAt 54 v
theorem loadAr_eq (v : Value) : Instr.loadAt 54 v = loadAr v := rfl
theorem run_loadAr (w : World) (b o : Nat) (h : okP w b o 6 = true) : (loadAr (.pointer (some ⟨b, o, none⟩))).run Tryz.prog w = .ok (.agg (rdP w b o 6)) w := by
  have := run_loadAt_mid (P := Tryz.prog) w b o 54 (rdP w b o 6).toList _ (range_rd h) Tryz.underlying54 rfl (by
    rw [Array.length_toList, rd_size]; exact info_arr)
  simpa [loadAr] using this
def buildPg (parts : Array (Nat × Value)) : Sem Value := Instr.build 56 parts
theorem buildPg_eq (parts : Array (Nat × Value)) : Instr.build 56 parts = buildPg parts := rfl
theorem run_buildPg (w : World) (a n : Int) (f : Nat → Int) : (buildPg #[(0, .int .i64 a), (1, .agg (arA f)), (3, .int .i64 n)]).run Tryz.prog w = .ok (.agg (pgA ⟨a, f, zeroF, n, 0, zeroF, zeroF⟩)) w := by
  unfold buildPg
  exact run_build w 56 _ (pgA ⟨a, f, zeroF, n, 0, zeroF, zeroF⟩) (by kernel_rfl)
def storeRl (p v : Value) : Sem Unit := Instr.storeAt 53 p v
theorem storeRl_eq (p v : Value) : Instr.storeAt 53 p v = storeRl p v := rfl
def isRl (w : World) (b : Nat) : Bool := match w.heap[b]? with
  | some (.cells cs _ fr) => decide (cs.size = 5) && decide (fr = (0, 0))
  | _ => false
theorem isRl_of {w : World} {b : Nat} {cs : Array Value} {t : TypeId} (h : w.heap[b]? = some (.cells cs t (0, 0))) (hs : cs.size = 5) : isRl w b = true := by
  unfold isRl; rw [h]; simp [hs]
theorem run_storeRl (w : World) (b : Nat) (a0 a1 a2 a3 a4 : Int) (h : isRl w b = true) : (storeRl (.pointer (some ⟨b, 0, none⟩)) (.agg #[.int .i64 a0, .int .i64 a1, .int .i64 a2, .int .i64 a3, .int .i64 a4])).run Tryz.prog w = .ok () (w.setRow b #[.int .i64 a0, .int .i64 a1, .int .i64 a2, .int .i64 a3, .int .i64 a4]) := by
  unfold isRl at h
  split at h
  · rename_i cs t fr hc
    simp only [Bool.and_eq_true, decide_eq_true_eq] at h
    obtain ⟨h1, h2⟩ := h
    subst h2
    unfold storeRl
    simp only [Instr.storeAt, Instr.sureAddr, Sem.run_bind, Sem.run_pure, Result.andThen_ok]
    exact run_storeVar_row w b t 53 cs _ hc info_rul h1 (by simp [Value.oneCell'])
  · simp at h

set_option maxHeartbeats 6400000 in
set_option maxRecDepth 1000000 in
theorem begin_no (p : Par) (so : Option Addr) (c : Nat) (w : World) (hall : ¬ rgOk p) :
    Calls Tryz.prog 16 #[parV p so c] w fun e w' => e = .returned (.tuple #[.agg (if bgOk p then rulA p else zeroR), .agg (pgA (if bgOk p then firstP p else zeroP)), .int .i64 (if bgOk p then 0 else 1)]) ∧ Below w.heap.size w w' := by
  generalize hRV : (if bgOk p then rulA p else zeroR) = RV at *
  generalize hPV : (if bgOk p then firstP p else zeroP) = PV at *
  generalize hEV : (if bgOk p then (0 : Int) else 1) = EV at *
  have HRV := Go.Proofs.YtpaakikgfojplaaGreat.hid hRV
  have HPV := Go.Proofs.YtpaakikgfojplaaGreat.hid hPV
  have HEV := Go.Proofs.YtpaakikgfojplaaGreat.hid hEV
  clear hRV hPV hEV
  unfold parV
  go_enter Tryz.func16, Tryz.ntmps16
  go_upto_region 1 with fail
  generalize hA : ((w.alloc (.cells #[.int .i64 p.depth, .int .i64 p.epoch, .int .i64 p.room, .int .i64 p.a, .int .i64 p.b, .int .i64 p.nonce, .slice so p.stakes.length c] 24)).alloc (.cells #[.int .i64 0, .int .i64 0, .int .i64 0, .int .i64 0, .int .i64 0] 53)).alloc (.cells #[.int .i64 0, .int .i64 0, .int .i64 0, .int .i64 0, .int .i64 0, .int .i64 0, .int .i64 0, .int .i64 0, .int .i64 0, .int .i64 0, .int .i64 0, .int .i64 0, .int .i64 0, .int .i64 0, .int .i64 0, .int .i64 0, .int .i64 0, .int .i64 0, .int .i64 0, .int .i64 0, .int .i64 0, .int .i64 0, .int .i64 0, .int .i64 0, .int .i64 0, .int .i64 0, .int .i64 0] 56) = A at *
  obtain ⟨hsA, hbA, k0, k1, k2⟩ : w.heap.size + 3 ≤ A.heap.size ∧ Below w.heap.size w A ∧ A.heap[w.heap.size]? = some (.cells #[.int .i64 p.depth, .int .i64 p.epoch, .int .i64 p.room, .int .i64 p.a, .int .i64 p.b, .int .i64 p.nonce, .slice so p.stakes.length c] 24 (0, 0)) ∧ A.heap[w.heap.size + 1]? = some (.cells zeroR 53 (0, 0)) ∧ A.heap[w.heap.size + 2]? = some (.cells (pgA zeroP) 56 (0, 0)) := by
    subst hA
    exact blocks3 (Below.refl _ _)
  clear hA
  have s2 : ∀ cs, (A.setRow (w.heap.size + 1) cs).heap[w.heap.size + 2]? = some (.cells (pgA zeroP) 56 (0, 0)) := fun cs => (setRow_other _ _ _ _ (by omega)).trans k2
  have c1 := cell_of_cells (j := 1) k0 rfl
  have c3 := cell_of_cells (j := 3) k0 rfl
  have c4 := cell_of_cells (j := 4) k0 rfl
  have c5 := cell_of_cells (j := 5) k0 rfl
  have c6 := cell_of_cells (j := 6) k0 rfl
  by_cases qe1 : p.epoch < 1
  · have hno : ¬ bgOk p := fun h => by have := h.1; omega
    have hr' : RV = zeroR := HRV.out.symm.trans (if_neg hno)
    have hp' : PV = zeroP := HPV.out.symm.trans (if_neg hno)
    have he' : EV = 1 := HEV.out.symm.trans (if_neg hno)
    clear HRV HPV HEV hno
    subst hr'; subst hp'; subst he'
    go_wp2_with (first | refine wpList_store_row rfl 53 _ _ rfl (w.heap.size + 1) zeroR rfl rfl 53 zeroR k1 info_rul rfl rul_one0 ?_ | refine wpList_store_row rfl 56 _ _ rfl (w.heap.size + 2) (pgA zeroP) rfl rfl 56 (pgA zeroP) (s2 _) (info_page _) rfl (pg_one _) ?_)
    refine bodyPost_ret (results_cct rfl _ _ _ (w.heap.size + 1) 53 zeroR (0, 0) _ (w.heap.size + 2) 56 (pgA zeroP) (0, 0) _ rfl rfl ((setRow_other _ _ _ _ (by omega)).trans (setRow_heap _ _ _ _ _ _ k1)) (setRow_heap _ _ _ _ _ _ (s2 _)) rfl rfl Tryz.underlying53 Tryz.underlying56 info_rul (info_page _)) rfl ⟨rfl, Below.setRow (Below.setRow hbA (by omega) _) (by omega) _⟩
  by_cases qe2 : 50 < p.epoch
  · have hno : ¬ bgOk p := fun h => by have := h.2.1; omega
    have hr' : RV = zeroR := HRV.out.symm.trans (if_neg hno)
    have hp' : PV = zeroP := HPV.out.symm.trans (if_neg hno)
    have he' : EV = 1 := HEV.out.symm.trans (if_neg hno)
    clear HRV HPV HEV hno
    subst hr'; subst hp'; subst he'
    go_wp2_with (first | refine wpList_store_row rfl 53 _ _ rfl (w.heap.size + 1) zeroR rfl rfl 53 zeroR k1 info_rul rfl rul_one0 ?_ | refine wpList_store_row rfl 56 _ _ rfl (w.heap.size + 2) (pgA zeroP) rfl rfl 56 (pgA zeroP) (s2 _) (info_page _) rfl (pg_one _) ?_)
    refine bodyPost_ret (results_cct rfl _ _ _ (w.heap.size + 1) 53 zeroR (0, 0) _ (w.heap.size + 2) 56 (pgA zeroP) (0, 0) _ rfl rfl ((setRow_other _ _ _ _ (by omega)).trans (setRow_heap _ _ _ _ _ _ k1)) (setRow_heap _ _ _ _ _ _ (s2 _)) rfl rfl Tryz.underlying53 Tryz.underlying56 info_rul (info_page _)) rfl ⟨rfl, Below.setRow (Below.setRow hbA (by omega) _) (by omega) _⟩
  by_cases qb1 : p.b < 2
  · have hno : ¬ bgOk p := fun h => by have := h.2.2.1; omega
    have hr' : RV = zeroR := HRV.out.symm.trans (if_neg hno)
    have hp' : PV = zeroP := HPV.out.symm.trans (if_neg hno)
    have he' : EV = 1 := HEV.out.symm.trans (if_neg hno)
    clear HRV HPV HEV hno
    subst hr'; subst hp'; subst he'
    go_wp2_with (first | refine wpList_store_row rfl 53 _ _ rfl (w.heap.size + 1) zeroR rfl rfl 53 zeroR k1 info_rul rfl rul_one0 ?_ | refine wpList_store_row rfl 56 _ _ rfl (w.heap.size + 2) (pgA zeroP) rfl rfl 56 (pgA zeroP) (s2 _) (info_page _) rfl (pg_one _) ?_)
    refine bodyPost_ret (results_cct rfl _ _ _ (w.heap.size + 1) 53 zeroR (0, 0) _ (w.heap.size + 2) 56 (pgA zeroP) (0, 0) _ rfl rfl ((setRow_other _ _ _ _ (by omega)).trans (setRow_heap _ _ _ _ _ _ k1)) (setRow_heap _ _ _ _ _ _ (s2 _)) rfl rfl Tryz.underlying53 Tryz.underlying56 info_rul (info_page _)) rfl ⟨rfl, Below.setRow (Below.setRow hbA (by omega) _) (by omega) _⟩
  by_cases qb2 : 20 < p.b
  · have hno : ¬ bgOk p := fun h => by have := h.2.2.2.1; omega
    have hr' : RV = zeroR := HRV.out.symm.trans (if_neg hno)
    have hp' : PV = zeroP := HPV.out.symm.trans (if_neg hno)
    have he' : EV = 1 := HEV.out.symm.trans (if_neg hno)
    clear HRV HPV HEV hno
    subst hr'; subst hp'; subst he'
    go_wp2_with (first | refine wpList_store_row rfl 53 _ _ rfl (w.heap.size + 1) zeroR rfl rfl 53 zeroR k1 info_rul rfl rul_one0 ?_ | refine wpList_store_row rfl 56 _ _ rfl (w.heap.size + 2) (pgA zeroP) rfl rfl 56 (pgA zeroP) (s2 _) (info_page _) rfl (pg_one _) ?_)
    refine bodyPost_ret (results_cct rfl _ _ _ (w.heap.size + 1) 53 zeroR (0, 0) _ (w.heap.size + 2) 56 (pgA zeroP) (0, 0) _ rfl rfl ((setRow_other _ _ _ _ (by omega)).trans (setRow_heap _ _ _ _ _ _ k1)) (setRow_heap _ _ _ _ _ _ (s2 _)) rfl rfl Tryz.underlying53 Tryz.underlying56 info_rul (info_page _)) rfl ⟨rfl, Below.setRow (Below.setRow hbA (by omega) _) (by omega) _⟩
  by_cases qa1 : p.a < 1
  · have hno : ¬ bgOk p := fun h => by have := h.2.2.2.2.1; omega
    have hr' : RV = zeroR := HRV.out.symm.trans (if_neg hno)
    have hp' : PV = zeroP := HPV.out.symm.trans (if_neg hno)
    have he' : EV = 1 := HEV.out.symm.trans (if_neg hno)
    clear HRV HPV HEV hno
    subst hr'; subst hp'; subst he'
    go_wp2_with (first | refine wpList_store_row rfl 53 _ _ rfl (w.heap.size + 1) zeroR rfl rfl 53 zeroR k1 info_rul rfl rul_one0 ?_ | refine wpList_store_row rfl 56 _ _ rfl (w.heap.size + 2) (pgA zeroP) rfl rfl 56 (pgA zeroP) (s2 _) (info_page _) rfl (pg_one _) ?_)
    refine bodyPost_ret (results_cct rfl _ _ _ (w.heap.size + 1) 53 zeroR (0, 0) _ (w.heap.size + 2) 56 (pgA zeroP) (0, 0) _ rfl rfl ((setRow_other _ _ _ _ (by omega)).trans (setRow_heap _ _ _ _ _ _ k1)) (setRow_heap _ _ _ _ _ _ (s2 _)) rfl rfl Tryz.underlying53 Tryz.underlying56 info_rul (info_page _)) rfl ⟨rfl, Below.setRow (Below.setRow hbA (by omega) _) (by omega) _⟩
  by_cases qa2 : p.b ≤ p.a
  · have hno : ¬ bgOk p := fun h => by have := h.2.2.2.2.2.1; omega
    have hr' : RV = zeroR := HRV.out.symm.trans (if_neg hno)
    have hp' : PV = zeroP := HPV.out.symm.trans (if_neg hno)
    have he' : EV = 1 := HEV.out.symm.trans (if_neg hno)
    clear HRV HPV HEV hno
    subst hr'; subst hp'; subst he'
    go_wp2_with (first | refine wpList_store_row rfl 53 _ _ rfl (w.heap.size + 1) zeroR rfl rfl 53 zeroR k1 info_rul rfl rul_one0 ?_ | refine wpList_store_row rfl 56 _ _ rfl (w.heap.size + 2) (pgA zeroP) rfl rfl 56 (pgA zeroP) (s2 _) (info_page _) rfl (pg_one _) ?_)
    refine bodyPost_ret (results_cct rfl _ _ _ (w.heap.size + 1) 53 zeroR (0, 0) _ (w.heap.size + 2) 56 (pgA zeroP) (0, 0) _ rfl rfl ((setRow_other _ _ _ _ (by omega)).trans (setRow_heap _ _ _ _ _ _ k1)) (setRow_heap _ _ _ _ _ _ (s2 _)) rfl rfl Tryz.underlying53 Tryz.underlying56 info_rul (info_page _)) rfl ⟨rfl, Below.setRow (Below.setRow hbA (by omega) _) (by omega) _⟩
  by_cases qn1 : p.nonce < 0
  · have hno : ¬ bgOk p := fun h => by have := h.2.2.2.2.2.2.1; omega
    have hr' : RV = zeroR := HRV.out.symm.trans (if_neg hno)
    have hp' : PV = zeroP := HPV.out.symm.trans (if_neg hno)
    have he' : EV = 1 := HEV.out.symm.trans (if_neg hno)
    clear HRV HPV HEV hno
    subst hr'; subst hp'; subst he'
    go_wp2_with (first | refine wpList_store_row rfl 53 _ _ rfl (w.heap.size + 1) zeroR rfl rfl 53 zeroR k1 info_rul rfl rul_one0 ?_ | refine wpList_store_row rfl 56 _ _ rfl (w.heap.size + 2) (pgA zeroP) rfl rfl 56 (pgA zeroP) (s2 _) (info_page _) rfl (pg_one _) ?_)
    refine bodyPost_ret (results_cct rfl _ _ _ (w.heap.size + 1) 53 zeroR (0, 0) _ (w.heap.size + 2) 56 (pgA zeroP) (0, 0) _ rfl rfl ((setRow_other _ _ _ _ (by omega)).trans (setRow_heap _ _ _ _ _ _ k1)) (setRow_heap _ _ _ _ _ _ (s2 _)) rfl rfl Tryz.underlying53 Tryz.underlying56 info_rul (info_page _)) rfl ⟨rfl, Below.setRow (Below.setRow hbA (by omega) _) (by omega) _⟩
  by_cases qn2 : 65521 ≤ p.nonce
  · have hno : ¬ bgOk p := fun h => by have := h.2.2.2.2.2.2.2.1; omega
    have hr' : RV = zeroR := HRV.out.symm.trans (if_neg hno)
    have hp' : PV = zeroP := HPV.out.symm.trans (if_neg hno)
    have he' : EV = 1 := HEV.out.symm.trans (if_neg hno)
    clear HRV HPV HEV hno
    subst hr'; subst hp'; subst he'
    go_wp2_with (first | refine wpList_store_row rfl 53 _ _ rfl (w.heap.size + 1) zeroR rfl rfl 53 zeroR k1 info_rul rfl rul_one0 ?_ | refine wpList_store_row rfl 56 _ _ rfl (w.heap.size + 2) (pgA zeroP) rfl rfl 56 (pgA zeroP) (s2 _) (info_page _) rfl (pg_one _) ?_)
    refine bodyPost_ret (results_cct rfl _ _ _ (w.heap.size + 1) 53 zeroR (0, 0) _ (w.heap.size + 2) 56 (pgA zeroP) (0, 0) _ rfl rfl ((setRow_other _ _ _ _ (by omega)).trans (setRow_heap _ _ _ _ _ _ k1)) (setRow_heap _ _ _ _ _ _ (s2 _)) rfl rfl Tryz.underlying53 Tryz.underlying56 info_rul (info_page _)) rfl ⟨rfl, Below.setRow (Below.setRow hbA (by omega) _) (by omega) _⟩
  exact absurd ⟨by omega, by omega, by omega, by omega, by omega, by omega, by omega, by omega⟩ hall

end Go.Proofs.YtpaakikgfojplaaGreat

