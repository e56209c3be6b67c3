import Derived.Test.YtfpbkiknfkjpbaaGBc
import Derived.Test.YtfpbkiknfkjpbaaGAdd
namespace Go.Proofs.Ytfpbkiknfkjpbaa
open Go.RowKit Num Bk
set_option linter.unusedVariables false

def arA (f : Nat → Int) : Array Value := #[.int .i64 (f 0), .int .i64 (f 1), .int .i64 (f 2), .int .i64 (f 3), .int .i64 (f 4), .int .i64 (f 5)]
def zeroF : Nat → Int := fun _ => 0
theorem arA_at (f : Nat → Int) : ∀ k, k < 6 → (arA f)[k]? = some (.int .i64 (f k)) := six rfl rfl rfl rfl rfl rfl
theorem arA_set (f : Nat → Int) (v : Int) : ∀ k, k < 6 → (arA f).setIfInBounds k (.int .i64 v) = arA (upd f k v) := six rfl rfl rfl rfl rfl rfl
theorem info_arA (f : Nat → Int) : (Try.prog.info? 77).map (·.size) = some (arA f).size := info_arr
theorem arA_one (f : Nat → Int) : (arA f).all (·.oneCell') = true := by simp [arA, Value.oneCell']

theorem results_ctt {fn : Func} {p u v : Tmp} {ty : TypeId} (h : fn.results = #[.cell p ty, .tmp u, .tmp v]) (tmps : Array Value) (P : Program) (w : World) (g : Nat) (t : TypeId) (cs : Array Value) (fr : Nat × Nat) (d : TypeDesc)
    (hp : tmps.getD p undef = .pointer (some ⟨g, 0, none⟩)) (hg : w.heap[g]? = some (.cells cs t fr))
    (hd : (match d with | .struct _ | .array _ _ => true | _ => false) = true) (hu : P.underlying ty = some d) (hi : (P.info? ty).map (·.size) = some cs.size) :
    (results fn tmps).run P w = .ok (.tuple #[.agg cs, tmps.getD u undef, tmps.getD v undef]) w := by
  have hl := run_loadVar_row (P := P) w g t ty cs fr d hg hu (by revert hd; cases d <;> simp) hi
  simp only [results, h]
  have hp' : tmps[p]?.getD undef = .pointer (some ⟨g, 0, none⟩) := by simpa using hp
  simp [hp', asAddr, hl]

/-- The stakes as far as they were read. -/
def upTo (l : List Int) (k : Nat) : Nat → Int := fun j => if j < k then l.getD j 0 else 0
theorem upTo_zero (l : List Int) : upTo l 0 = zeroF := rfl
theorem upTo_step (l : List Int) (k : Nat) : upd (upTo l k) k (l.getD k 0) = upTo l (k + 1) := by
  funext j
  unfold upd upTo
  by_cases h : k = j
  · subst h; rw [if_pos rfl, if_pos (by omega)]
  · rw [if_neg h]
    by_cases h2 : j < k
    · rw [if_pos h2, if_pos (by omega)]
    · rw [if_neg h2, if_neg (by omega)]
theorem upTo_end (l : List Int) (k : Nat) (h : l.length ≤ k) : upTo l k = fun j => l.getD j 0 := by
  funext j
  unfold upTo
  split
  · rfl
  · rw [List.getD, List.getElem?_eq_none (by omega)]; rfl

def stOk (l : List Int) : Prop := l.length ≤ 6 ∧ (∀ x ∈ l, 0 ≤ x ∧ x ≤ 40) ∧ l.sum ≠ 0
instance (l : List Int) : Decidable (stOk l) := by unfold stOk; exact inferInstance

theorem take_bounds {l : List Int} {k : Nat} (h : ∀ x ∈ l.take k, 0 ≤ x ∧ x ≤ 40) (hk : k ≤ 6) : 0 ≤ (l.take k).sum ∧ (l.take k).sum ≤ 240 := by
  have h1 := sum_le (l.take k) (fun x hx => (h x hx).2)
  have h2 : 0 ≤ (l.take k).sum := by
    have := le_sum (l.take k) (fun x hx => (h x hx).1) (l.take k).length
    simp [List.getD] at this
    exact this
  have h3 : (l.take k).length ≤ k := by rw [List.length_take]; omega
  omega

set_option maxHeartbeats 3200000 in
set_option maxRecDepth 1000000 in
theorem read_is (l : List Int) (so : Option Addr) (c : Nat) (w : World) (hs : StkAt w so l) :
    Calls Try.prog 99 #[.slice so l.length c] w fun e w' => e = .returned (.tuple #[.agg (arA (if stOk l then (fun j => l.getD j 0) else zeroF)), .int .i64 (if stOk l then l.sum else 0), .int .i64 (if stOk l then 0 else 1)]) ∧ Below w.heap.size w w' := by
  generalize hF : (if stOk l then (fun j => l.getD j 0) else zeroF) = FV at *
  generalize hT : (if stOk l then l.sum else 0) = TV at *
  generalize hE : (if stOk l then (0 : Int) else 1) = EV at *
  have HF := Go.Proofs.Ytfpbkiknfkjpbaa.hid hF
  have HT := Go.Proofs.Ytfpbkiknfkjpbaa.hid hT
  have HE := Go.Proofs.Ytfpbkiknfkjpbaa.hid hE
  clear hF hT hE
  go_enter Try.func99, Try.ntmps99
  go_upto_region 2 with fail
  generalize hA : (w.alloc (.cells #[.int .i64 0, .int .i64 0, .int .i64 0, .int .i64 0, .int .i64 0, .int .i64 0] 77)).alloc (.cells #[.int .i64 0, .int .i64 0, .int .i64 0, .int .i64 0, .int .i64 0, .int .i64 0] 77) = A at *
  obtain ⟨hsA, hbA, k0, k1⟩ : w.heap.size + 2 ≤ A.heap.size ∧ Below w.heap.size w A ∧ A.heap[w.heap.size]? = some (.cells (arA zeroF) 77 (0, 0)) ∧ A.heap[w.heap.size + 1]? = some (.cells (arA zeroF) 77 (0, 0)) := by
    subst hA
    exact blocks2 (Below.refl _ _)
  clear hA
  by_cases h6 : 6 < l.length
  · have hno : ¬ stOk l := fun h => by have := h.1; omega
    have hf : FV = zeroF := HF.out.symm.trans (if_neg hno)
    have ht : TV = 0 := HT.out.symm.trans (if_neg hno)
    have he : EV = 1 := HE.out.symm.trans (if_neg hno)
    clear HF HT HE hno hs
    subst hf; subst ht; subst he
    have h6i : (6 : Int) < (l.length : Int) := by omega
    go_wp2_with (refine wpList_store_row rfl 77 _ _ rfl w.heap.size (arA zeroF) rfl rfl 77 (arA zeroF) k0 (info_arA _) rfl (arA_one _) ?_)
    refine bodyPost_ret (results_ctt rfl _ _ _ w.heap.size 77 (arA zeroF) (0, 0) _ rfl (setRow_heap _ _ _ _ _ _ k0) rfl Try.underlying77 (info_arA _)) rfl ⟨rfl, Below.setRow hbA (Nat.le_refl _) _⟩
  · have h6' : l.length ≤ 6 := by omega
    have HK0 := Go.Proofs.Ytfpbkiknfkjpbaa.hid k0
    have HK1 := Go.Proofs.Ytfpbkiknfkjpbaa.hid k1
    have HBA := Go.Proofs.Ytfpbkiknfkjpbaa.hid hbA
    clear k0 k1 hbA
    go_wp2
    go_loopw [6, 7] (fun tv i wr => ∃ k : Nat, k ≤ l.length ∧ i = .int .i64 k ∧ tv = .int .i64 (l.take k).sum ∧ Hid (∀ x ∈ l.take k, 0 ≤ x ∧ x ≤ 40) ∧ wr.heap[w.heap.size]? = some (.cells (arA zeroF) 77 (0, 0)) ∧ wr.heap[w.heap.size + 1]? = some (.cells (arA (upTo l k)) 77 (0, 0)) ∧ Below w.heap.size w wr) (fun _ i _ => l.length - (intOf i).toNat)
    case atStart => exact ⟨0, Nat.zero_le _, rfl, rfl, by intro x hx; simp at hx, HK0.out, HK1.out, HBA.out⟩
    case round =>
      obtain ⟨k, hk, rfl, rfl, HAL, hR0, hR1, hbel⟩ := hrel
      have hbd := take_bounds HAL.out (by omega)
      by_cases hlt : k < l.length
      · obtain ⟨g, off, rfl, hc⟩ := hs k hlt
        have hgl : g < w.heap.size := World.block_lt_of_cell? w _ hc
        have ck : wr.cell? ⟨g, off + k, none⟩ = some (.int .i64 (l.getD k 0)) := (hbel.cell (p := ⟨g, off + k, none⟩) hgl).trans hc
        have hmem : l.getD k 0 ∈ l := by
          rw [show l.getD k 0 = l[k] from by simp [List.getD, hlt]]
          exact List.getElem_mem hlt
        have htk : l.take (k + 1) = l.take k ++ [l.getD k 0] := by
          rw [List.take_succ_eq_append_getElem hlt]
          simp [List.getD, hlt]
        have HSM : Hid ((l.take (k + 1)).sum = (l.take k).sum + l.getD k 0) := by show _ = _; rw [htk, List.sum_append]; simp
        have HAL2 : Hid (0 ≤ l.getD k 0 ∧ l.getD k 0 ≤ 40 → ∀ x ∈ l.take (k + 1), 0 ≤ x ∧ x ≤ 40) := by
          intro hv x hx
          rw [htk, List.mem_append] at hx
          rcases hx with hx | hx
          · exact HAL.out x hx
          · simp at hx; rw [hx]; exact hv
        have hst := arA_set (upTo l k) (l.getD k 0) k (by omega)
        rw [upTo_step] at hst
        have HST := Go.Proofs.Ytfpbkiknfkjpbaa.hid (page_store hR1 hst)
        have HMEM := Go.Proofs.Ytfpbkiknfkjpbaa.hid hmem
        clear hmem htk hst HAL hc
        generalize hv : l.getD k 0 = v at *
        have n1 : wr.cell? ⟨w.heap.size + 1, k, none⟩ = some (.int .i64 (upTo l k k)) := cell_of_cells (j := k) hR1 (arA_at _ k (by omega))
        have q1 : wr.frozen? ⟨w.heap.size + 1, k, none⟩ = false := free_of_cells hR1
        have i1 : (0 : Int) ≤ (k : Int) := by omega
        have i2 : (k : Int) < ((l.length : Nat) : Int) := by omega
        have i3 : (k : Int) < 6 := by omega
        have HR0 := Go.Proofs.Ytfpbkiknfkjpbaa.hid hR0
        have HBL := Go.Proofs.Ytfpbkiknfkjpbaa.hid hbel
        clear hR1 hbel
        by_cases hneg : v < 0
        · have hno : ¬ stOk l := fun h => by have := (h.2.1 v HMEM.out).1; omega
          have hf : FV = zeroF := HF.out.symm.trans (if_neg hno)
          have ht : TV = 0 := HT.out.symm.trans (if_neg hno)
          have he : EV = 1 := HE.out.symm.trans (if_neg hno)
          clear HF HT HE hno HST HSM HAL2 HMEM n1 q1
          subst hf; subst ht; subst he
          go_wp2_with (refine wpList_store_row rfl 77 _ _ rfl w.heap.size (arA zeroF) rfl rfl 77 (arA zeroF) hR0 (info_arA _) rfl (arA_one _) ?_)
          refine bodyPost_ret (results_ctt rfl _ _ _ w.heap.size 77 (arA zeroF) (0, 0) _ rfl (setRow_heap _ _ _ _ _ _ hR0) rfl Try.underlying77 (info_arA _)) rfl ⟨rfl, Below.setRow HBL.out (Nat.le_refl _) _⟩
        by_cases hbig : 40 < v
        · have hno : ¬ stOk l := fun h => by have := (h.2.1 v HMEM.out).2; omega
          have hf : FV = zeroF := HF.out.symm.trans (if_neg hno)
          have ht : TV = 0 := HT.out.symm.trans (if_neg hno)
          have he : EV = 1 := HE.out.symm.trans (if_neg hno)
          clear HF HT HE hno HST HSM HAL2 HMEM n1 q1
          subst hf; subst ht; subst he
          go_wp2_with (refine wpList_store_row rfl 77 _ _ rfl w.heap.size (arA zeroF) rfl rfl 77 (arA zeroF) hR0 (info_arA _) rfl (arA_one _) ?_)
          refine bodyPost_ret (results_ctt rfl _ _ _ w.heap.size 77 (arA zeroF) (0, 0) _ rfl (setRow_heap _ _ _ _ _ _ hR0) rfl Try.underlying77 (info_arA _)) rfl ⟨rfl, Below.setRow HBL.out (Nat.le_refl _) _⟩
        clear hR0
        generalize (l.take k).sum = T0 at *
        go_wp2
        go_roundw
        case rel =>
          refine ⟨k + 1, by omega, by go_num, by rw [HSM.out], HAL2.out ⟨by omega, by omega⟩, ?_, HST.out, ?_⟩
          · exact (Below.heap_setCell _ _ _ _ (by show w.heap.size ≠ w.heap.size + 1; omega)).trans HR0.out
          · exact HBL.out.setCell (by show w.heap.size ≤ w.heap.size + 1; omega) _
        case measure => simp [intOf]; omega
      · have hkk : k = l.length := by omega
        have HALL : Hid (∀ x ∈ l, 0 ≤ x ∧ x ≤ 40) := by have := HAL.out; rwa [hkk, List.take_length] at this
        have hsum : (l.take k).sum = l.sum := by rw [hkk, List.take_length]
        have hup := upTo_end l k (by omega)
        rw [hup] at hR1
        rw [hsum] at hbd ⊢
        clear HAL hup hsum
        by_cases hz : l.sum = 0
        · have hno : ¬ stOk l := fun h => h.2.2 hz
          have hf : FV = zeroF := HF.out.symm.trans (if_neg hno)
          have ht : TV = 0 := HT.out.symm.trans (if_neg hno)
          have he : EV = 1 := HE.out.symm.trans (if_neg hno)
          have hzb : (l.sum == 0) = true := by simp [hz]
          clear HF HT HE hno HALL hR1 hz
          subst hf; subst ht; subst he
          generalize l.sum = LS at *
          go_wp2_with (refine wpList_store_row rfl 77 _ _ rfl w.heap.size (arA zeroF) rfl rfl 77 (arA zeroF) hR0 (info_arA _) rfl (arA_one _) ?_)
          refine bodyPost_ret (results_ctt rfl _ _ _ w.heap.size 77 (arA zeroF) (0, 0) _ rfl (setRow_heap _ _ _ _ _ _ hR0) rfl Try.underlying77 (info_arA _)) rfl ⟨rfl, Below.setRow hbel (Nat.le_refl _) _⟩
        · have hyes : stOk l := ⟨h6', HALL.out, hz⟩
          have hf : FV = fun j => l.getD j 0 := HF.out.symm.trans (if_pos hyes)
          have ht : TV = l.sum := HT.out.symm.trans (if_pos hyes)
          have he : EV = 0 := HE.out.symm.trans (if_pos hyes)
          have hzb : (l.sum == 0) = false := by simp [hz]
          clear HF HT HE hyes HALL hz
          rw [← hf] at hR1
          subst ht; subst he
          generalize hLS : l.sum = LS at *
          clear hf
          go_wp2_with (first | refine wpList_load_row rfl 77 _ rfl (w.heap.size + 1) rfl 77 (arA FV) (0, 0) _ hR1 Try.underlying77 rfl (info_arA _) ?_ | refine wpList_store_row rfl 77 _ _ rfl w.heap.size (arA FV) rfl rfl 77 (arA zeroF) hR0 (info_arA _) rfl (arA_one _) ?_)
          refine bodyPost_ret (results_ctt rfl _ _ _ w.heap.size 77 (arA FV) (0, 0) _ rfl (setRow_heap _ _ _ _ _ _ hR0) rfl Try.underlying77 (info_arA _)) rfl ⟨by first | rfl | (rw [hLS]; rfl), Below.setRow hbel (Nat.le_refl _) _⟩

end Go.Proofs.Ytfpbkiknfkjpbaa

namespace Go.Proofs.Ytfpbkiknfkjpbaa
open Go.RowKit Num Bk
set_option linter.unusedVariables false

def zeroR : Array Value := #[.int .i64 0, .int .i64 0, .int .i64 0, .int .i64 0, .int .i64 0]
def rulA (p : Par) : Array Value := #[.int .i64 p.epoch, .int .i64 p.a, .int .i64 p.b, .int .i64 (p.stakes.length : Int), .int .i64 (total p)]
theorem rul_one0 : zeroR.all (·.oneCell') = true := by simp [zeroR, Value.oneCell']
theorem rul_one (p : Par) : (rulA p).all (·.oneCell') = true := by simp [rulA, Value.oneCell']
def firstP (p : Par) : Pg := ⟨-1, fun j => p.stakes.getD j 0, zeroF, p.nonce, 0, zeroF, zeroF⟩

theorem results_cct {fn : Func} {p q u : Tmp} {ty tz : TypeId} (h : fn.results = #[.cell p ty, .cell q tz, .tmp u]) (tmps : Array Value) (P : Program) (w : World)
    (g : Nat) (t : TypeId) (cs : Array Value) (fr : Nat × Nat) (d : TypeDesc) (g' : Nat) (t' : TypeId) (cs' : Array Value) (fr' : Nat × Nat) (d' : TypeDesc)
    (hp : tmps.getD p undef = .pointer (some ⟨g, 0, none⟩)) (hq : tmps.getD q undef = .pointer (some ⟨g', 0, none⟩)) (hg : w.heap[g]? = some (.cells cs t fr)) (hg' : w.heap[g']? = some (.cells cs' t' fr'))
    (hd : (match d with | .struct _ | .array _ _ => true | _ => false) = true) (hd' : (match d' with | .struct _ | .array _ _ => true | _ => false) = true) (hu : P.underlying ty = some d) (hu' : P.underlying tz = some d') (hi : (P.info? ty).map (·.size) = some cs.size) (hi' : (P.info? tz).map (·.size) = some cs'.size) :
    (results fn tmps).run P w = .ok (.tuple #[.agg cs, .agg cs', tmps.getD u undef]) w := by
  have hl := run_loadVar_row (P := P) w g t ty cs fr d hg hu (by revert hd; cases d <;> simp) hi
  have hl' := run_loadVar_row (P := P) w g' t' tz cs' fr' d' hg' hu' (by revert hd'; cases d' <;> simp) hi'
  simp only [results, h]
  have hp' : tmps[p]?.getD undef = .pointer (some ⟨g, 0, none⟩) := by simpa using hp
  have hq' : tmps[q]?.getD undef = .pointer (some ⟨g', 0, none⟩) := by simpa using hq
  simp [hp', hq', asAddr, hl, hl']

def rgOk (p : Par) : Prop := 1 ≤ p.epoch ∧ p.epoch ≤ 50 ∧ 2 ≤ p.b ∧ p.b ≤ 20 ∧ 1 ≤ p.a ∧ p.a < p.b ∧ 0 ≤ p.nonce ∧ p.nonce < 65521
def bgOk (p : Par) : Prop := 1 ≤ p.epoch ∧ p.epoch ≤ 50 ∧ 2 ≤ p.b ∧ p.b ≤ 20 ∧ 1 ≤ p.a ∧ p.a < p.b ∧ 0 ≤ p.nonce ∧ p.nonce < 65521 ∧ stOk p.stakes
instance (p : Par) : Decidable (bgOk p) := by unfold bgOk; exact inferInstance

/-! One name each for what the last statement does. -/
def loadAr (v : Value) : Sem Value := Instr.loadAt 77 v
theorem loadAr_eq (v : Value) : Instr.loadAt 77 v = loadAr v := rfl
theorem run_loadAr (w : World) (b o : Nat) (h : okP w b o 6 = true) : (loadAr (.pointer (some ⟨b, o, none⟩))).run Try.prog w = .ok (.agg (rdP w b o 6)) w := by
  have := run_loadAt_mid (P := Try.prog) w b o 77 (rdP w b o 6).toList _ (range_rd h) Try.underlying77 rfl (by
    rw [Array.length_toList, rd_size]; exact info_arr)
  simpa [loadAr] using this
def buildPg (parts : Array (Nat × Value)) : Sem Value := Instr.build 79 parts
theorem buildPg_eq (parts : Array (Nat × Value)) : Instr.build 79 parts = buildPg parts := rfl
theorem run_buildPg (w : World) (a n : Int) (f : Nat → Int) : (buildPg #[(0, .int .i64 a), (1, .agg (arA f)), (3, .int .i64 n)]).run Try.prog w = .ok (.agg (pgA ⟨a, f, zeroF, n, 0, zeroF, zeroF⟩)) w := by
  unfold buildPg
  exact run_build w 79 _ (pgA ⟨a, f, zeroF, n, 0, zeroF, zeroF⟩) (by kernel_rfl)
def storeRl (p v : Value) : Sem Unit := Instr.storeAt 84 p v
theorem storeRl_eq (p v : Value) : Instr.storeAt 84 p v = storeRl p v := rfl
def isRl (w : World) (b : Nat) : Bool := match w.heap[b]? with
  | some (.cells cs _ fr) => decide (cs.size = 5) && decide (fr = (0, 0))
  | _ => false
theorem isRl_of {w : World} {b : Nat} {cs : Array Value} {t : TypeId} (h : w.heap[b]? = some (.cells cs t (0, 0))) (hs : cs.size = 5) : isRl w b = true := by
  unfold isRl; rw [h]; simp [hs]
theorem run_storeRl (w : World) (b : Nat) (a0 a1 a2 a3 a4 : Int) (h : isRl w b = true) : (storeRl (.pointer (some ⟨b, 0, none⟩)) (.agg #[.int .i64 a0, .int .i64 a1, .int .i64 a2, .int .i64 a3, .int .i64 a4])).run Try.prog w = .ok () (w.setRow b #[.int .i64 a0, .int .i64 a1, .int .i64 a2, .int .i64 a3, .int .i64 a4]) := by
  unfold isRl at h
  split at h
  · rename_i cs t fr hc
    simp only [Bool.and_eq_true, decide_eq_true_eq] at h
    obtain ⟨h1, h2⟩ := h
    subst h2
    unfold storeRl
    simp only [Instr.storeAt, Instr.sureAddr, Sem.run_bind, Sem.run_pure, Result.andThen_ok]
    exact run_storeVar_row w b t 84 cs _ hc info_rul h1 (by simp [Value.oneCell'])
  · simp at h

set_option maxHeartbeats 6400000 in
set_option maxRecDepth 1000000 in
theorem begin_no (p : Par) (so : Option Addr) (c : Nat) (w : World) (hall : ¬ rgOk p) :
    Calls Try.prog 68 #[parV p so c] w fun e w' => e = .returned (.tuple #[.agg (if bgOk p then rulA p else zeroR), .agg (pgA (if bgOk p then firstP p else zeroP)), .int .i64 (if bgOk p then 0 else 1)]) ∧ Below w.heap.size w w' := by
  generalize hRV : (if bgOk p then rulA p else zeroR) = RV at *
  generalize hPV : (if bgOk p then firstP p else zeroP) = PV at *
  generalize hEV : (if bgOk p then (0 : Int) else 1) = EV at *
  have HRV := Go.Proofs.Ytfpbkiknfkjpbaa.hid hRV
  have HPV := Go.Proofs.Ytfpbkiknfkjpbaa.hid hPV
  have HEV := Go.Proofs.Ytfpbkiknfkjpbaa.hid hEV
  clear hRV hPV hEV
  unfold parV
  go_enter Try.func68, Try.ntmps68
  go_upto_region 1 with fail
  generalize hA : ((w.alloc (.cells #[.int .i64 p.depth, .int .i64 p.epoch, .int .i64 p.room, .int .i64 p.a, .int .i64 p.b, .int .i64 p.nonce, .slice so p.stakes.length c] 31)).alloc (.cells #[.int .i64 0, .int .i64 0, .int .i64 0, .int .i64 0, .int .i64 0] 84)).alloc (.cells #[.int .i64 0, .int .i64 0, .int .i64 0, .int .i64 0, .int .i64 0, .int .i64 0, .int .i64 0, .int .i64 0, .int .i64 0, .int .i64 0, .int .i64 0, .int .i64 0, .int .i64 0, .int .i64 0, .int .i64 0, .int .i64 0, .int .i64 0, .int .i64 0, .int .i64 0, .int .i64 0, .int .i64 0, .int .i64 0, .int .i64 0, .int .i64 0, .int .i64 0, .int .i64 0, .int .i64 0] 79) = A at *
  obtain ⟨hsA, hbA, k0, k1, k2⟩ : w.heap.size + 3 ≤ A.heap.size ∧ Below w.heap.size w A ∧ A.heap[w.heap.size]? = some (.cells #[.int .i64 p.depth, .int .i64 p.epoch, .int .i64 p.room, .int .i64 p.a, .int .i64 p.b, .int .i64 p.nonce, .slice so p.stakes.length c] 31 (0, 0)) ∧ A.heap[w.heap.size + 1]? = some (.cells zeroR 84 (0, 0)) ∧ A.heap[w.heap.size + 2]? = some (.cells (pgA zeroP) 79 (0, 0)) := by
    subst hA
    exact blocks3 (Below.refl _ _)
  clear hA
  have s2 : ∀ cs, (A.setRow (w.heap.size + 1) cs).heap[w.heap.size + 2]? = some (.cells (pgA zeroP) 79 (0, 0)) := fun cs => (setRow_other _ _ _ _ (by omega)).trans k2
  have c1 := cell_of_cells (j := 1) k0 rfl
  have c3 := cell_of_cells (j := 3) k0 rfl
  have c4 := cell_of_cells (j := 4) k0 rfl
  have c5 := cell_of_cells (j := 5) k0 rfl
  have c6 := cell_of_cells (j := 6) k0 rfl
  by_cases qe1 : p.epoch < 1
  · have hno : ¬ bgOk p := fun h => by have := h.1; omega
    have hr' : RV = zeroR := HRV.out.symm.trans (if_neg hno)
    have hp' : PV = zeroP := HPV.out.symm.trans (if_neg hno)
    have he' : EV = 1 := HEV.out.symm.trans (if_neg hno)
    clear HRV HPV HEV hno
    subst hr'; subst hp'; subst he'
    go_wp2_with (first | refine wpList_store_row rfl 84 _ _ rfl (w.heap.size + 1) zeroR rfl rfl 84 zeroR k1 info_rul rfl rul_one0 ?_ | refine wpList_store_row rfl 79 _ _ rfl (w.heap.size + 2) (pgA zeroP) rfl rfl 79 (pgA zeroP) (s2 _) (info_page _) rfl (pg_one _) ?_)
    refine bodyPost_ret (results_cct rfl _ _ _ (w.heap.size + 1) 84 zeroR (0, 0) _ (w.heap.size + 2) 79 (pgA zeroP) (0, 0) _ rfl rfl ((setRow_other _ _ _ _ (by omega)).trans (setRow_heap _ _ _ _ _ _ k1)) (setRow_heap _ _ _ _ _ _ (s2 _)) rfl rfl Try.underlying84 Try.underlying79 info_rul (info_page _)) rfl ⟨rfl, Below.setRow (Below.setRow hbA (by omega) _) (by omega) _⟩
  by_cases qe2 : 50 < p.epoch
  · have hno : ¬ bgOk p := fun h => by have := h.2.1; omega
    have hr' : RV = zeroR := HRV.out.symm.trans (if_neg hno)
    have hp' : PV = zeroP := HPV.out.symm.trans (if_neg hno)
    have he' : EV = 1 := HEV.out.symm.trans (if_neg hno)
    clear HRV HPV HEV hno
    subst hr'; subst hp'; subst he'
    go_wp2_with (first | refine wpList_store_row rfl 84 _ _ rfl (w.heap.size + 1) zeroR rfl rfl 84 zeroR k1 info_rul rfl rul_one0 ?_ | refine wpList_store_row rfl 79 _ _ rfl (w.heap.size + 2) (pgA zeroP) rfl rfl 79 (pgA zeroP) (s2 _) (info_page _) rfl (pg_one _) ?_)
    refine bodyPost_ret (results_cct rfl _ _ _ (w.heap.size + 1) 84 zeroR (0, 0) _ (w.heap.size + 2) 79 (pgA zeroP) (0, 0) _ rfl rfl ((setRow_other _ _ _ _ (by omega)).trans (setRow_heap _ _ _ _ _ _ k1)) (setRow_heap _ _ _ _ _ _ (s2 _)) rfl rfl Try.underlying84 Try.underlying79 info_rul (info_page _)) rfl ⟨rfl, Below.setRow (Below.setRow hbA (by omega) _) (by omega) _⟩
  by_cases qb1 : p.b < 2
  · have hno : ¬ bgOk p := fun h => by have := h.2.2.1; omega
    have hr' : RV = zeroR := HRV.out.symm.trans (if_neg hno)
    have hp' : PV = zeroP := HPV.out.symm.trans (if_neg hno)
    have he' : EV = 1 := HEV.out.symm.trans (if_neg hno)
    clear HRV HPV HEV hno
    subst hr'; subst hp'; subst he'
    go_wp2_with (first | refine wpList_store_row rfl 84 _ _ rfl (w.heap.size + 1) zeroR rfl rfl 84 zeroR k1 info_rul rfl rul_one0 ?_ | refine wpList_store_row rfl 79 _ _ rfl (w.heap.size + 2) (pgA zeroP) rfl rfl 79 (pgA zeroP) (s2 _) (info_page _) rfl (pg_one _) ?_)
    refine bodyPost_ret (results_cct rfl _ _ _ (w.heap.size + 1) 84 zeroR (0, 0) _ (w.heap.size + 2) 79 (pgA zeroP) (0, 0) _ rfl rfl ((setRow_other _ _ _ _ (by omega)).trans (setRow_heap _ _ _ _ _ _ k1)) (setRow_heap _ _ _ _ _ _ (s2 _)) rfl rfl Try.underlying84 Try.underlying79 info_rul (info_page _)) rfl ⟨rfl, Below.setRow (Below.setRow hbA (by omega) _) (by omega) _⟩
  by_cases qb2 : 20 < p.b
  · have hno : ¬ bgOk p := fun h => by have := h.2.2.2.1; omega
    have hr' : RV = zeroR := HRV.out.symm.trans (if_neg hno)
    have hp' : PV = zeroP := HPV.out.symm.trans (if_neg hno)
    have he' : EV = 1 := HEV.out.symm.trans (if_neg hno)
    clear HRV HPV HEV hno
    subst hr'; subst hp'; subst he'
    go_wp2_with (first | refine wpList_store_row rfl 84 _ _ rfl (w.heap.size + 1) zeroR rfl rfl 84 zeroR k1 info_rul rfl rul_one0 ?_ | refine wpList_store_row rfl 79 _ _ rfl (w.heap.size + 2) (pgA zeroP) rfl rfl 79 (pgA zeroP) (s2 _) (info_page _) rfl (pg_one _) ?_)
    refine bodyPost_ret (results_cct rfl _ _ _ (w.heap.size + 1) 84 zeroR (0, 0) _ (w.heap.size + 2) 79 (pgA zeroP) (0, 0) _ rfl rfl ((setRow_other _ _ _ _ (by omega)).trans (setRow_heap _ _ _ _ _ _ k1)) (setRow_heap _ _ _ _ _ _ (s2 _)) rfl rfl Try.underlying84 Try.underlying79 info_rul (info_page _)) rfl ⟨rfl, Below.setRow (Below.setRow hbA (by omega) _) (by omega) _⟩
  by_cases qa1 : p.a < 1
  · have hno : ¬ bgOk p := fun h => by have := h.2.2.2.2.1; omega
    have hr' : RV = zeroR := HRV.out.symm.trans (if_neg hno)
    have hp' : PV = zeroP := HPV.out.symm.trans (if_neg hno)
    have he' : EV = 1 := HEV.out.symm.trans (if_neg hno)
    clear HRV HPV HEV hno
    subst hr'; subst hp'; subst he'
    go_wp2_with (first | refine wpList_store_row rfl 84 _ _ rfl (w.heap.size + 1) zeroR rfl rfl 84 zeroR k1 info_rul rfl rul_one0 ?_ | refine wpList_store_row rfl 79 _ _ rfl (w.heap.size + 2) (pgA zeroP) rfl rfl 79 (pgA zeroP) (s2 _) (info_page _) rfl (pg_one _) ?_)
    refine bodyPost_ret (results_cct rfl _ _ _ (w.heap.size + 1) 84 zeroR (0, 0) _ (w.heap.size + 2) 79 (pgA zeroP) (0, 0) _ rfl rfl ((setRow_other _ _ _ _ (by omega)).trans (setRow_heap _ _ _ _ _ _ k1)) (setRow_heap _ _ _ _ _ _ (s2 _)) rfl rfl Try.underlying84 Try.underlying79 info_rul (info_page _)) rfl ⟨rfl, Below.setRow (Below.setRow hbA (by omega) _) (by omega) _⟩
  by_cases qa2 : p.b ≤ p.a
  · have hno : ¬ bgOk p := fun h => by have := h.2.2.2.2.2.1; omega
    have hr' : RV = zeroR := HRV.out.symm.trans (if_neg hno)
    have hp' : PV = zeroP := HPV.out.symm.trans (if_neg hno)
    have he' : EV = 1 := HEV.out.symm.trans (if_neg hno)
    clear HRV HPV HEV hno
    subst hr'; subst hp'; subst he'
    go_wp2_with (first | refine wpList_store_row rfl 84 _ _ rfl (w.heap.size + 1) zeroR rfl rfl 84 zeroR k1 info_rul rfl rul_one0 ?_ | refine wpList_store_row rfl 79 _ _ rfl (w.heap.size + 2) (pgA zeroP) rfl rfl 79 (pgA zeroP) (s2 _) (info_page _) rfl (pg_one _) ?_)
    refine bodyPost_ret (results_cct rfl _ _ _ (w.heap.size + 1) 84 zeroR (0, 0) _ (w.heap.size + 2) 79 (pgA zeroP) (0, 0) _ rfl rfl ((setRow_other _ _ _ _ (by omega)).trans (setRow_heap _ _ _ _ _ _ k1)) (setRow_heap _ _ _ _ _ _ (s2 _)) rfl rfl Try.underlying84 Try.underlying79 info_rul (info_page _)) rfl ⟨rfl, Below.setRow (Below.setRow hbA (by omega) _) (by omega) _⟩
  by_cases qn1 : p.nonce < 0
  · have hno : ¬ bgOk p := fun h => by have := h.2.2.2.2.2.2.1; omega
    have hr' : RV = zeroR := HRV.out.symm.trans (if_neg hno)
    have hp' : PV = zeroP := HPV.out.symm.trans (if_neg hno)
    have he' : EV = 1 := HEV.out.symm.trans (if_neg hno)
    clear HRV HPV HEV hno
    subst hr'; subst hp'; subst he'
    go_wp2_with (first | refine wpList_store_row rfl 84 _ _ rfl (w.heap.size + 1) zeroR rfl rfl 84 zeroR k1 info_rul rfl rul_one0 ?_ | refine wpList_store_row rfl 79 _ _ rfl (w.heap.size + 2) (pgA zeroP) rfl rfl 79 (pgA zeroP) (s2 _) (info_page _) rfl (pg_one _) ?_)
    refine bodyPost_ret (results_cct rfl _ _ _ (w.heap.size + 1) 84 zeroR (0, 0) _ (w.heap.size + 2) 79 (pgA zeroP) (0, 0) _ rfl rfl ((setRow_other _ _ _ _ (by omega)).trans (setRow_heap _ _ _ _ _ _ k1)) (setRow_heap _ _ _ _ _ _ (s2 _)) rfl rfl Try.underlying84 Try.underlying79 info_rul (info_page _)) rfl ⟨rfl, Below.setRow (Below.setRow hbA (by omega) _) (by omega) _⟩
  by_cases qn2 : 65521 ≤ p.nonce
  · have hno : ¬ bgOk p := fun h => by have := h.2.2.2.2.2.2.2.1; omega
    have hr' : RV = zeroR := HRV.out.symm.trans (if_neg hno)
    have hp' : PV = zeroP := HPV.out.symm.trans (if_neg hno)
    have he' : EV = 1 := HEV.out.symm.trans (if_neg hno)
    clear HRV HPV HEV hno
    subst hr'; subst hp'; subst he'
    go_wp2_with (first | refine wpList_store_row rfl 84 _ _ rfl (w.heap.size + 1) zeroR rfl rfl 84 zeroR k1 info_rul rfl rul_one0 ?_ | refine wpList_store_row rfl 79 _ _ rfl (w.heap.size + 2) (pgA zeroP) rfl rfl 79 (pgA zeroP) (s2 _) (info_page _) rfl (pg_one _) ?_)
    refine bodyPost_ret (results_cct rfl _ _ _ (w.heap.size + 1) 84 zeroR (0, 0) _ (w.heap.size + 2) 79 (pgA zeroP) (0, 0) _ rfl rfl ((setRow_other _ _ _ _ (by omega)).trans (setRow_heap _ _ _ _ _ _ k1)) (setRow_heap _ _ _ _ _ _ (s2 _)) rfl rfl Try.underlying84 Try.underlying79 info_rul (info_page _)) rfl ⟨rfl, Below.setRow (Below.setRow hbA (by omega) _) (by omega) _⟩
  exact absurd ⟨by omega, by omega, by omega, by omega, by omega, by omega, by omega, by omega⟩ hall

end Go.Proofs.Ytfpbkiknfkjpbaa

namespace Go.Proofs.Ytfpbkiknfkjpbaa
open Go.RowKit Num Bk
set_option linter.unusedVariables false

def stF (l : List Int) : Nat → Int := if stOk l then (fun j => l.getD j 0) else zeroF
def stT (l : List Int) : Int := if stOk l then l.sum else 0
def stE (l : List Int) : Int := if stOk l then 0 else 1
theorem read_v (l : List Int) (so : Option Addr) (c : Nat) (w : World) (hs : StkAt w so l) :
    Calls Try.prog 99 #[.slice so l.length c] w fun e w' => e = .returned (.tuple #[.agg (arA (stF l)), .int .i64 (stT l), .int .i64 (stE l)]) ∧ Below w.heap.size w w' := read_is l so c w hs

theorem arr_in {w : World} {B : Nat} {f : Nat → Int} (h : w.heap[B]? = some (.cells (arA f) 77 (0, 0))) : okP w B 0 6 = true ∧ rdP w B 0 6 = arA f :=
  part_in h rfl (fun j _ => by rw [Nat.zero_add])
theorem stk_keep {w w' : World} {so : Option Addr} {l : List Int} (h : StkAt w so l) (hb : Below w.heap.size w w') : StkAt w' so l := by
  intro j hj
  obtain ⟨g, off, e, hc⟩ := h j hj
  exact ⟨g, off, e, (hb.cell (p := ⟨g, off + j, none⟩) (World.block_lt_of_cell? w _ hc)).trans hc⟩
theorem isRl_row {w : World} {b b' : Nat} {cs : Array Value} (h : b ≠ b') : isRl (w.setRow b' cs) b = isRl w b := by unfold isRl; rw [setRow_other _ _ _ _ h]
theorem isPg_row {w : World} {b b' : Nat} {cs : Array Value} (h : b ≠ b') : isPg (w.setRow b' cs) b = isPg w b := by unfold isPg; rw [setRow_other _ _ _ _ h]

set_option maxHeartbeats 6400000 in
set_option maxRecDepth 1000000 in
theorem begin_st (p : Par) (so : Option Addr) (c : Nat) (w : World) (hs : StkAt w so p.stakes) (hall : rgOk p) (hst : ¬ stOk p.stakes) :
    Calls Try.prog 68 #[parV p so c] w fun e w' => e = .returned (.tuple #[.agg zeroR, .agg (pgA zeroP), .int .i64 1]) ∧ Below w.heap.size w w' := by
  obtain ⟨e1, e2, b1, b2, a1, a2, n1, n2⟩ := hall
  have hE : stE p.stakes = 1 := if_neg hst
  unfold parV
  go_enter Try.func68, Try.ntmps68
  go_upto_region 1 with fail
  generalize hA : ((w.alloc (.cells #[.int .i64 p.depth, .int .i64 p.epoch, .int .i64 p.room, .int .i64 p.a, .int .i64 p.b, .int .i64 p.nonce, .slice so p.stakes.length c] 31)).alloc (.cells #[.int .i64 0, .int .i64 0, .int .i64 0, .int .i64 0, .int .i64 0] 84)).alloc (.cells #[.int .i64 0, .int .i64 0, .int .i64 0, .int .i64 0, .int .i64 0, .int .i64 0, .int .i64 0, .int .i64 0, .int .i64 0, .int .i64 0, .int .i64 0, .int .i64 0, .int .i64 0, .int .i64 0, .int .i64 0, .int .i64 0, .int .i64 0, .int .i64 0, .int .i64 0, .int .i64 0, .int .i64 0, .int .i64 0, .int .i64 0, .int .i64 0, .int .i64 0, .int .i64 0, .int .i64 0] 79) = A at *
  obtain ⟨hsA, hbA, k0, k1, k2⟩ : w.heap.size + 3 ≤ A.heap.size ∧ Below w.heap.size w A ∧ A.heap[w.heap.size]? = some (.cells #[.int .i64 p.depth, .int .i64 p.epoch, .int .i64 p.room, .int .i64 p.a, .int .i64 p.b, .int .i64 p.nonce, .slice so p.stakes.length c] 31 (0, 0)) ∧ A.heap[w.heap.size + 1]? = some (.cells zeroR 84 (0, 0)) ∧ A.heap[w.heap.size + 2]? = some (.cells (pgA zeroP) 79 (0, 0)) := by
    subst hA
    exact blocks3 (Below.refl _ _)
  clear hA
  have c1 := cell_of_cells (j := 1) k0 rfl
  have c3 := cell_of_cells (j := 3) k0 rfl
  have c4 := cell_of_cells (j := 4) k0 rfl
  have c5 := cell_of_cells (j := 5) k0 rfl
  have c6 := cell_of_cells (j := 6) k0 rfl
  go_wp2_with fail
  refine (read_v p.stakes so c A (stk_keep hs hbA)).mono ?_
  rintro r w1 ⟨rfl, hb1⟩
  rw [hE]
  have hs1 := hb1.size
  have m0 : w1.heap[w.heap.size]? = _ := (hb1.block _ (by omega)).trans k0
  have m1 : w1.heap[w.heap.size + 1]? = _ := (hb1.block _ (by omega)).trans k1
  have m2 : w1.heap[w.heap.size + 2]? = _ := (hb1.block _ (by omega)).trans k2
  have hbw := hbA.trans (hb1.mono (by omega))
  clear c1 c3 c4 c5 c6 k0 k1 k2 hbA hb1 hE hst hs
  generalize stF p.stakes = FF at *
  generalize stT p.stakes = TT at *
  go_upto_region 8 with (refine wpList_store_row rfl 77 _ _ rfl w1.heap.size (arA FF) rfl rfl 77 (arA zeroF) (heap_alloc_new w1 _) (info_arA _) rfl (arA_one _) ?_)
  generalize hW : (w1.alloc (.cells #[.int .i64 0, .int .i64 0, .int .i64 0, .int .i64 0, .int .i64 0, .int .i64 0] 77)).setRow w1.heap.size (arA FF) = W at *
  obtain ⟨hsW, hbW, hWR⟩ := row_new hW
  clear hW
  have q0 : W.heap[w.heap.size]? = _ := (hbW.block _ (by omega)).trans m0
  have q1 : W.heap[w.heap.size + 1]? = _ := (hbW.block _ (by omega)).trans m1
  have q2 : W.heap[w.heap.size + 2]? = _ := (hbW.block _ (by omega)).trans m2
  have hbw2 := hbw.trans (hbW.mono (by omega))
  generalize w1.heap.size = B at *
  clear m0 m1 m2 hbw hbW
  have s2 : ∀ cs, (W.setRow (w.heap.size + 1) cs).heap[w.heap.size + 2]? = some (.cells (pgA zeroP) 79 (0, 0)) := fun cs => (setRow_other _ _ _ _ (by omega)).trans q2
  go_wp2_with (first | refine wpList_store_row rfl 84 _ _ rfl (w.heap.size + 1) zeroR rfl rfl 84 zeroR q1 info_rul rfl rul_one0 ?_ | refine wpList_store_row rfl 79 _ _ rfl (w.heap.size + 2) (pgA zeroP) rfl rfl 79 (pgA zeroP) (s2 _) (info_page _) rfl (pg_one _) ?_)
  refine bodyPost_ret (results_cct rfl _ _ _ (w.heap.size + 1) 84 zeroR (0, 0) _ (w.heap.size + 2) 79 (pgA zeroP) (0, 0) _ rfl rfl ((setRow_other _ _ _ _ (by omega)).trans (setRow_heap _ _ _ _ _ _ q1)) (setRow_heap _ _ _ _ _ _ (s2 _)) rfl rfl Try.underlying84 Try.underlying79 info_rul (info_page _)) rfl ⟨rfl, Below.setRow (Below.setRow hbw2 (by omega) _) (by omega) _⟩

attribute [local go_sem ↓] loadAr_eq buildPg_eq storePg_eq storeRl_eq
attribute [local go_sem] run_loadAr run_buildPg run_storePg run_storeRl

set_option maxHeartbeats 6400000 in
set_option maxRecDepth 1000000 in
theorem begin_yes (p : Par) (so : Option Addr) (c : Nat) (w : World) (hs : StkAt w so p.stakes) (hall : rgOk p) (hst : stOk p.stakes) :
    Calls Try.prog 68 #[parV p so c] w fun e w' => e = .returned (.tuple #[.agg (rulA p), .agg (pgA (firstP p)), .int .i64 0]) ∧ Below w.heap.size w w' := by
  obtain ⟨e1, e2, b1, b2, a1, a2, n1, n2⟩ := hall
  have hF : stF p.stakes = fun j => p.stakes.getD j 0 := if_pos hst
  have hT : stT p.stakes = total p := if_pos hst
  have hE : stE p.stakes = 0 := if_pos hst
  unfold parV
  go_enter Try.func68, Try.ntmps68
  go_upto_region 1 with fail
  generalize hA : ((w.alloc (.cells #[.int .i64 p.depth, .int .i64 p.epoch, .int .i64 p.room, .int .i64 p.a, .int .i64 p.b, .int .i64 p.nonce, .slice so p.stakes.length c] 31)).alloc (.cells #[.int .i64 0, .int .i64 0, .int .i64 0, .int .i64 0, .int .i64 0] 84)).alloc (.cells #[.int .i64 0, .int .i64 0, .int .i64 0, .int .i64 0, .int .i64 0, .int .i64 0, .int .i64 0, .int .i64 0, .int .i64 0, .int .i64 0, .int .i64 0, .int .i64 0, .int .i64 0, .int .i64 0, .int .i64 0, .int .i64 0, .int .i64 0, .int .i64 0, .int .i64 0, .int .i64 0, .int .i64 0, .int .i64 0, .int .i64 0, .int .i64 0, .int .i64 0, .int .i64 0, .int .i64 0] 79) = A at *
  obtain ⟨hsA, hbA, k0, k1, k2⟩ : w.heap.size + 3 ≤ A.heap.size ∧ Below w.heap.size w A ∧ A.heap[w.heap.size]? = some (.cells #[.int .i64 p.depth, .int .i64 p.epoch, .int .i64 p.room, .int .i64 p.a, .int .i64 p.b, .int .i64 p.nonce, .slice so p.stakes.length c] 31 (0, 0)) ∧ A.heap[w.heap.size + 1]? = some (.cells zeroR 84 (0, 0)) ∧ A.heap[w.heap.size + 2]? = some (.cells (pgA zeroP) 79 (0, 0)) := by
    subst hA
    exact blocks3 (Below.refl _ _)
  clear hA
  have c1 := cell_of_cells (j := 1) k0 rfl
  have c3 := cell_of_cells (j := 3) k0 rfl
  have c4 := cell_of_cells (j := 4) k0 rfl
  have c5 := cell_of_cells (j := 5) k0 rfl
  have c6 := cell_of_cells (j := 6) k0 rfl
  go_wp2_with fail
  refine (read_v p.stakes so c A (stk_keep hs hbA)).mono ?_
  rintro r w1 ⟨rfl, hb1⟩
  rw [hF, hT, hE]
  have hs1 := hb1.size
  have m0 : w1.heap[w.heap.size]? = _ := (hb1.block _ (by omega)).trans k0
  have m1 : w1.heap[w.heap.size + 1]? = _ := (hb1.block _ (by omega)).trans k1
  have m2 : w1.heap[w.heap.size + 2]? = _ := (hb1.block _ (by omega)).trans k2
  have hbw := hbA.trans (hb1.mono (by omega))
  clear c1 c3 c4 c5 c6 k0 k1 k2 hbA hb1 hF hT hE hst hs
  have HFP := Go.Proofs.Ytfpbkiknfkjpbaa.hid (show firstP p = ⟨-1, fun j => p.stakes.getD j 0, zeroF, p.nonce, 0, zeroF, zeroF⟩ from rfl)
  have HRA := Go.Proofs.Ytfpbkiknfkjpbaa.hid (show rulA p = #[.int .i64 p.epoch, .int .i64 p.a, .int .i64 p.b, .int .i64 (p.stakes.length : Int), .int .i64 (total p)] from rfl)
  generalize hFF : (fun j => p.stakes.getD j 0) = FF at *
  generalize total p = TT at *
  go_upto_region 8 with (refine wpList_store_row rfl 77 _ _ rfl w1.heap.size (arA FF) rfl rfl 77 (arA zeroF) (heap_alloc_new w1 _) (info_arA _) rfl (arA_one _) ?_)
  generalize hW : (w1.alloc (.cells #[.int .i64 0, .int .i64 0, .int .i64 0, .int .i64 0, .int .i64 0, .int .i64 0] 77)).setRow w1.heap.size (arA FF) = W at *
  obtain ⟨hsW, hbW, hWR⟩ := row_new hW
  clear hW
  have q0 : W.heap[w.heap.size]? = _ := (hbW.block _ (by omega)).trans m0
  have q1 : W.heap[w.heap.size + 1]? = _ := (hbW.block _ (by omega)).trans m1
  have q2 : W.heap[w.heap.size + 2]? = _ := (hbW.block _ (by omega)).trans m2
  have hbw2 := hbw.trans (hbW.mono (by omega))
  generalize w1.heap.size = B at *
  clear m0 m1 m2 hbw hbW
  have c1 : W.cell? ⟨w.heap.size, 1, none⟩ = some (.int .i64 p.epoch) := cell_of_cells (j := 1) q0 rfl
  have c3 : W.cell? ⟨w.heap.size, 3, none⟩ = some (.int .i64 p.a) := cell_of_cells (j := 3) q0 rfl
  have c4 : W.cell? ⟨w.heap.size, 4, none⟩ = some (.int .i64 p.b) := cell_of_cells (j := 4) q0 rfl
  have c6 : W.cell? ⟨w.heap.size, 6, none⟩ = some (.slice so p.stakes.length c) := cell_of_cells (j := 6) q0 rfl
  have hir : isRl (W.alloc (.cells #[.int .i64 0, .int .i64 0, .int .i64 0, .int .i64 0, .int .i64 0] 84)) W.heap.size = true := isRl_of (heap_alloc_new W _) rfl
  go_upto_region 11 with fail
  generalize hV : (W.alloc (.cells #[.int .i64 0, .int .i64 0, .int .i64 0, .int .i64 0, .int .i64 0] 84)).setRow W.heap.size #[.int .i64 p.epoch, .int .i64 p.a, .int .i64 p.b, .int .i64 (p.stakes.length : Int), .int .i64 TT] = V at *
  obtain ⟨hsV, hbV, hVR⟩ := row_new hV
  clear hV hir c1 c3 c4 c6
  have hBW := lt_of_block hWR
  have v0 : V.heap[w.heap.size]? = _ := (hbV.block _ (by omega)).trans q0
  have v1 : V.heap[w.heap.size + 1]? = _ := (hbV.block _ (by omega)).trans q1
  have v2 : V.heap[w.heap.size + 2]? = _ := (hbV.block _ (by omega)).trans q2
  have vB : V.heap[B]? = _ := (hbV.block _ hBW).trans hWR
  have hbv := hbw2.trans (hbV.mono (by omega))
  generalize hRR : W.heap.size = RR at *
  clear q0 q1 q2 hWR hbw2 hbV
  have hB3 : w.heap.size + 3 ≤ B := by omega
  have hR3 : w.heap.size + 3 ≤ RR := by omega
  have c5 : V.cell? ⟨w.heap.size, 5, none⟩ = some (.int .i64 p.nonce) := cell_of_cells (j := 5) v0 rfl
  have r0 : V.cell? ⟨RR, 0, none⟩ = some (.int .i64 p.epoch) := cell_of_cells (j := 0) hVR rfl
  have r1 : V.cell? ⟨RR, 1, none⟩ = some (.int .i64 p.a) := cell_of_cells (j := 1) hVR rfl
  have r2 : V.cell? ⟨RR, 2, none⟩ = some (.int .i64 p.b) := cell_of_cells (j := 2) hVR rfl
  have r3 : V.cell? ⟨RR, 3, none⟩ = some (.int .i64 (p.stakes.length : Int)) := cell_of_cells (j := 3) hVR rfl
  have r4 : V.cell? ⟨RR, 4, none⟩ = some (.int .i64 TT) := cell_of_cells (j := 4) hVR rfl
  have po := arr_in vB
  have pok := po.1
  have prd := po.2
  have pok2 : okP V.drew B 0 6 = true := pok
  have prd2 : rdP V.drew B 0 6 = arA FF := prd
  have i1 : isRl V (w.heap.size + 1) = true := isRl_of v1 rfl
  have i2 : isPg V (w.heap.size + 2) = true := isPg_of v2 rfl
  have i1d : isRl V.drew (w.heap.size + 1) = true := i1
  have i2d : isPg V.drew (w.heap.size + 2) = true := i2
  have i3 : ∀ cs, isPg (V.setRow (w.heap.size + 1) cs) (w.heap.size + 2) = true := fun cs => (isPg_row (by omega)).trans i2
  have i3d : ∀ cs, isPg (V.drew.setRow (w.heap.size + 1) cs) (w.heap.size + 2) = true := fun cs => (isPg_row (by omega)).trans i2
  have i3e : ∀ cs, isPg (V.setRow (w.heap.size + 1) cs).drew (w.heap.size + 2) = true := fun cs => (isPg_row (by omega)).trans i2
  have i4 : ∀ cs, isRl (V.drew.setRow (w.heap.size + 2) cs) (w.heap.size + 1) = true := fun cs => (isRl_row (by omega)).trans i1
  have c5s : ∀ cs, (V.drew.setRow (w.heap.size + 1) cs).cell? ⟨w.heap.size, 5, none⟩ = some (.int .i64 p.nonce) := fun cs => (row_cell (by omega)).trans c5
  have poks : ∀ cs, okP (V.drew.setRow (w.heap.size + 1) cs) B 0 6 = true := fun cs => (row_part (by omega)).1.trans pok
  have prds : ∀ cs, rdP (V.drew.setRow (w.heap.size + 1) cs) B 0 6 = arA FF := fun cs => (row_part (by omega)).2.trans prd
  have u0 : ∀ cs, (V.drew.setRow (w.heap.size + 2) cs).cell? ⟨RR, 0, none⟩ = some (.int .i64 p.epoch) := fun cs => (row_cell (by omega)).trans r0
  have u1 : ∀ cs, (V.drew.setRow (w.heap.size + 2) cs).cell? ⟨RR, 1, none⟩ = some (.int .i64 p.a) := fun cs => (row_cell (by omega)).trans r1
  have u2 : ∀ cs, (V.drew.setRow (w.heap.size + 2) cs).cell? ⟨RR, 2, none⟩ = some (.int .i64 p.b) := fun cs => (row_cell (by omega)).trans r2
  have u3 : ∀ cs, (V.drew.setRow (w.heap.size + 2) cs).cell? ⟨RR, 3, none⟩ = some (.int .i64 (p.stakes.length : Int)) := fun cs => (row_cell (by omega)).trans r3
  have u4 : ∀ cs, (V.drew.setRow (w.heap.size + 2) cs).cell? ⟨RR, 4, none⟩ = some (.int .i64 TT) := fun cs => (row_cell (by omega)).trans r4
  have HV1b : Hid (∀ cs, (V.setRow (w.heap.size + 2) cs).heap[w.heap.size + 1]? = _) := fun cs => (setRow_other _ _ _ _ (by omega)).trans v1
  have HV2b := Go.Proofs.Ytfpbkiknfkjpbaa.hid v2
  have HV1 := Go.Proofs.Ytfpbkiknfkjpbaa.hid v1
  have HV2 : Hid (∀ cs, (V.setRow (w.heap.size + 1) cs).heap[w.heap.size + 2]? = _) := fun cs => (setRow_other _ _ _ _ (by omega)).trans v2
  have HBV := Go.Proofs.Ytfpbkiknfkjpbaa.hid hbv
  clear v0 v1 v2 vB hVR po hbv
  go_region
  all_goals
    go_wp2
    first
      | (refine bodyPost_ret (results_cct rfl _ _ _ (w.heap.size + 1) 84 #[.int .i64 p.epoch, .int .i64 p.a, .int .i64 p.b, .int .i64 (p.stakes.length : Int), .int .i64 TT] (0, 0) _ (w.heap.size + 2) 79 (pgA ⟨-1, FF, zeroF, p.nonce, 0, zeroF, zeroF⟩) (0, 0) _ rfl rfl ((setRow_other _ _ _ _ (by omega)).trans (setRow_heap _ _ _ _ _ _ HV1.out)) (setRow_heap _ _ _ _ _ _ (HV2.out _)) rfl rfl Try.underlying84 Try.underlying79 info_rul (info_page _)) rfl ⟨by rw [HFP.out, HRA.out]; rfl, ?_⟩
         exact Below.setRow (Below.setRow HBV.out.drew (by omega) _) (by omega) _)
      | (refine bodyPost_ret (results_cct rfl _ _ _ (w.heap.size + 1) 84 #[.int .i64 p.epoch, .int .i64 p.a, .int .i64 p.b, .int .i64 (p.stakes.length : Int), .int .i64 TT] (0, 0) _ (w.heap.size + 2) 79 (pgA ⟨-1, FF, zeroF, p.nonce, 0, zeroF, zeroF⟩) (0, 0) _ rfl rfl (setRow_heap _ _ _ _ _ _ (HV1b.out _)) ((setRow_other _ _ _ _ (by omega)).trans (setRow_heap _ _ _ _ _ _ HV2b.out)) rfl rfl Try.underlying84 Try.underlying79 info_rul (info_page _)) rfl ⟨by rw [HFP.out, HRA.out]; rfl, ?_⟩
         exact Below.setRow (Below.setRow HBV.out.drew (by omega) _) (by omega) _)

theorem begin_is (p : Par) (so : Option Addr) (c : Nat) (w : World) (hs : StkAt w so p.stakes) :
    Calls Try.prog 68 #[parV p so c] w fun e w' => e = .returned (.tuple #[.agg (if bgOk p then rulA p else zeroR), .agg (pgA (if bgOk p then firstP p else zeroP)), .int .i64 (if bgOk p then 0 else 1)]) ∧ Below w.heap.size w w' := by
  by_cases hall : rgOk p
  · by_cases hst : stOk p.stakes
    · have hb : bgOk p := ⟨hall.1, hall.2.1, hall.2.2.1, hall.2.2.2.1, hall.2.2.2.2.1, hall.2.2.2.2.2.1, hall.2.2.2.2.2.2.1, hall.2.2.2.2.2.2.2, hst⟩
      rw [if_pos hb, if_pos hb, if_pos hb]
      exact begin_yes p so c w hs hall hst
    · have hb : ¬ bgOk p := fun h => hst h.2.2.2.2.2.2.2.2
      rw [if_neg hb, if_neg hb, if_neg hb]
      exact begin_st p so c w hs hall hst
  · exact begin_no p so c w hall

end Go.Proofs.Ytfpbkiknfkjpbaa

namespace Go.Proofs.Ytfpbkiknfkjpbaa
open Go.RowKit Num Bk
set_option linter.unusedVariables false

def zeroT : Array Value := #[.int .i64 0, .int .i64 0, .int .i64 0, .slice none 0 0, .slice none 0 0]
def treA (d r : Int) (g : Nat) : Array Value := #[.int .i64 d, .int .i64 r, .int .i64 0, .slice (some ⟨g, 0, none⟩) 1 1, .slice none 0 0]
theorem info_tre : (Try.prog.info? 87).map (·.size) = some 5 := by kernel_rfl
theorem treA_one (d r : Int) (g : Nat) : (treA d r g).all (·.oneCell') = true := by simp [treA, Value.oneCell']
theorem zeroT_one : zeroT.all (·.oneCell') = true := by simp [zeroT, Value.oneCell']

/-- The first header's node. -/
def firstN (g : Pg) : Nd := ⟨0, -1, 0, zeroH, g⟩
def buildN2 (parts : Array (Nat × Value)) : Sem Value := Instr.build 81 parts
theorem buildN2_eq (parts : Array (Nat × Value)) : Instr.build 81 parts = buildN2 parts := rfl
theorem run_buildN2 (w : World) (a : Int) (g : Pg) : (buildN2 #[(1, .int .i64 a), (4, .agg (pgA g))]).run Try.prog w = .ok (.agg (ndA ⟨0, a, 0, zeroH, g⟩)) w := by
  unfold buildN2
  exact run_build w 81 _ (ndA ⟨0, a, 0, zeroH, g⟩) (by kernel_rfl)

attribute [local go_sem ↓] buildN2_eq buildNs_eq
attribute [local go_sem] run_buildN2 run_buildNs

set_option maxHeartbeats 6400000 in
set_option maxRecDepth 1000000 in
theorem tbegin_no (d r : Int) (g : Pg) (w : World) (h : d < 1 ∨ 8 < d ∨ r < 2 ∨ 40 < r) :
    Calls Try.prog 69 #[.int .i64 d, .int .i64 r, .agg (pgA g)] w fun e w' => e = .returned (.tuple #[.agg zeroT, .int .i64 1]) ∧ Below w.heap.size w w' := by
  go_enter Try.func69, Try.ntmps69
  go_upto_region 1 with fail
  generalize hA : (w.alloc (.cells (pgA g) 79)).alloc (.cells #[.int .i64 0, .int .i64 0, .int .i64 0, .slice none 0 0, .slice none 0 0] 87) = A at *
  obtain ⟨hsA, hbA, k0, k1⟩ : w.heap.size + 2 ≤ A.heap.size ∧ Below w.heap.size w A ∧ A.heap[w.heap.size]? = some (.cells (pgA g) 79 (0, 0)) ∧ A.heap[w.heap.size + 1]? = some (.cells zeroT 87 (0, 0)) := by
    subst hA
    exact blocks2 (Below.refl _ _)
  clear hA
  by_cases q1 : d < 1
  · go_wp2_with (refine wpList_store_row rfl 87 _ _ rfl (w.heap.size + 1) zeroT rfl rfl 87 zeroT k1 info_tre rfl zeroT_one ?_)
    refine bodyPost_ret (results_ct rfl _ _ _ (w.heap.size + 1) 87 zeroT (0, 0) _ rfl (setRow_heap _ _ _ _ _ _ k1) rfl Try.underlying87 info_tre) rfl ⟨rfl, Below.setRow hbA (by omega) _⟩
  by_cases q2 : 8 < d
  · go_wp2_with (refine wpList_store_row rfl 87 _ _ rfl (w.heap.size + 1) zeroT rfl rfl 87 zeroT k1 info_tre rfl zeroT_one ?_)
    refine bodyPost_ret (results_ct rfl _ _ _ (w.heap.size + 1) 87 zeroT (0, 0) _ rfl (setRow_heap _ _ _ _ _ _ k1) rfl Try.underlying87 info_tre) rfl ⟨rfl, Below.setRow hbA (by omega) _⟩
  by_cases q3 : r < 2
  · go_wp2_with (refine wpList_store_row rfl 87 _ _ rfl (w.heap.size + 1) zeroT rfl rfl 87 zeroT k1 info_tre rfl zeroT_one ?_)
    refine bodyPost_ret (results_ct rfl _ _ _ (w.heap.size + 1) 87 zeroT (0, 0) _ rfl (setRow_heap _ _ _ _ _ _ k1) rfl Try.underlying87 info_tre) rfl ⟨rfl, Below.setRow hbA (by omega) _⟩
  have q4 : 40 < r := by omega
  go_wp2_with (refine wpList_store_row rfl 87 _ _ rfl (w.heap.size + 1) zeroT rfl rfl 87 zeroT k1 info_tre rfl zeroT_one ?_)
  refine bodyPost_ret (results_ct rfl _ _ _ (w.heap.size + 1) 87 zeroT (0, 0) _ rfl (setRow_heap _ _ _ _ _ _ k1) rfl Try.underlying87 info_tre) rfl ⟨rfl, Below.setRow hbA (by omega) _⟩

set_option maxHeartbeats 6400000 in
set_option maxRecDepth 1000000 in
theorem tbegin_yes (d r : Int) (g : Pg) (w : World) (h1 : 1 ≤ d) (h2 : d ≤ 8) (h3 : 2 ≤ r) (h4 : r ≤ 40) :
    Calls Try.prog 69 #[.int .i64 d, .int .i64 r, .agg (pgA g)] w fun e w' => ∃ b, e = .returned (.tuple #[.agg (treA d r b), .int .i64 0]) ∧ w'.heap[b]? = some (.cells (ndA (firstN g)) 81 (0, 0)) ∧ w.heap.size ≤ b ∧ Below w.heap.size w w' := by
  go_enter Try.func69, Try.ntmps69
  go_upto_region 1 with fail
  generalize hA : (w.alloc (.cells (pgA g) 79)).alloc (.cells #[.int .i64 0, .int .i64 0, .int .i64 0, .slice none 0 0, .slice none 0 0] 87) = A at *
  obtain ⟨hsA, hbA, k0, k1⟩ : w.heap.size + 2 ≤ A.heap.size ∧ Below w.heap.size w A ∧ A.heap[w.heap.size]? = some (.cells (pgA g) 79 (0, 0)) ∧ A.heap[w.heap.size + 1]? = some (.cells zeroT 87 (0, 0)) := by
    subst hA
    exact blocks2 (Below.refl _ _)
  clear hA
  go_upto_region 4 with (first | refine wpList_load_row rfl 79 _ rfl w.heap.size rfl 79 (pgA g) (0, 0) _ k0 Try.underlying79 rfl (info_page _) ?_ | refine wpList_store_row rfl 81 _ _ rfl A.heap.size (ndA (firstN g)) rfl rfl 81 (ndA zeroN) (heap_alloc_new A _) (info_nodeA _) rfl (nd_one _) ?_)
  generalize hW : (A.alloc (.cells #[.int .i64 0, .int .i64 0, .int .i64 0, .int .i64 0, .int .i64 0, .int .i64 0, .int .i64 0, .int .i64 0, .int .i64 0, .int .i64 0, .int .i64 0, .int .i64 0, .int .i64 0, .int .i64 0, .int .i64 0, .int .i64 0, .int .i64 0, .int .i64 0, .int .i64 0, .int .i64 0, .int .i64 0, .int .i64 0, .int .i64 0, .int .i64 0, .int .i64 0, .int .i64 0, .int .i64 0, .int .i64 0, .int .i64 0, .int .i64 0, .int .i64 0, .int .i64 0, .int .i64 0, .int .i64 0, .int .i64 0, .int .i64 0, .int .i64 0] 81)).setRow A.heap.size (ndA (firstN g)) = W at *
  obtain ⟨hsW, hbW, hWR⟩ := row_new hW
  clear hW
  have m1 : W.heap[w.heap.size + 1]? = _ := (hbW.block _ (by omega)).trans k1
  have hbw := hbA.trans (hbW.mono (by omega))
  have hk1 : ∀ o, (W.alloc o).heap[w.heap.size + 1]? = some (.cells zeroT 87 (0, 0)) := fun o => (Below.heap_alloc _ _ _ (lt_of_block m1)).trans m1
  generalize A.heap.size = B at *
  clear k0 k1 hbA hbW m1
  have hwW : w.heap.size + 1 < W.heap.size := by omega
  go_wp2_with (first | refine wpList_load_row rfl 81 _ rfl B rfl 81 (ndA (firstN g)) (0, 0) _ hWR Try.underlying81 rfl (info_nodeA _) ?_ | refine wpList_store_row rfl 87 _ _ rfl (w.heap.size + 1) (treA d r W.heap.size) rfl rfl 87 zeroT (hk1 _) info_tre rfl (treA_one _ _ _) ?_)
  refine bodyPost_ret (results_ct rfl _ _ _ (w.heap.size + 1) 87 (treA d r W.heap.size) (0, 0) _ rfl (setRow_heap _ _ _ _ _ _ (hk1 _)) rfl Try.underlying87 info_tre) rfl ⟨W.heap.size, rfl, ?_, by omega, Below.setRow (hbw.alloc (by omega) _) (by omega) _⟩
  rw [setRow_other _ _ _ _ (by omega)]
  exact heap_alloc_new W _

end Go.Proofs.Ytfpbkiknfkjpbaa

namespace Go.Proofs.Ytfpbkiknfkjpbaa
open Go.RowKit Num Bk
set_option linter.unusedVariables false

def bgR (p : Par) : Array Value := if bgOk p then rulA p else zeroR
def bgP (p : Par) : Pg := if bgOk p then firstP p else zeroP
def bgE (p : Par) : Int := if bgOk p then 0 else 1
theorem begin_v (p : Par) (so : Option Addr) (c : Nat) (w : World) (hs : StkAt w so p.stakes) :
    Calls Try.prog 68 #[parV p so c] w fun e w' => e = .returned (.tuple #[.agg (bgR p), .agg (pgA (bgP p)), .int .i64 (bgE p)]) ∧ Below w.heap.size w w' := begin_is p so c w hs

theorem two_rows {w W : World} {z1 z2 r1 r2 : Array Value} {t1 t2 : TypeId} (h : (((w.alloc (.cells z1 t1)).alloc (.cells z2 t2)).setRow w.heap.size r1).setRow (w.heap.size + 1) r2 = W) :
    w.heap.size + 2 ≤ W.heap.size ∧ Below w.heap.size w W ∧ W.heap[w.heap.size]? = some (.cells r1 t1 (0, 0)) ∧ W.heap[w.heap.size + 1]? = some (.cells r2 t2 (0, 0)) := by
  subst h
  have h1 := (blocks2 (w := w) (o1 := .cells z1 t1) (o2 := .cells z2 t2) (Below.refl _ _)).2.2.1
  have h2 := (blocks2 (w := w) (o1 := .cells z1 t1) (o2 := .cells z2 t2) (Below.refl _ _)).2.2.2
  have g1 := setRow_heap _ w.heap.size z1 r1 t1 (0, 0) h1
  have g2 : (((w.alloc (.cells z1 t1)).alloc (.cells z2 t2)).setRow w.heap.size r1).heap[w.heap.size + 1]? = some (.cells z2 t2 (0, 0)) := (setRow_other _ _ _ _ (by omega)).trans h2
  have g3 := setRow_heap _ (w.heap.size + 1) z2 r2 t2 (0, 0) g2
  refine ⟨lt_of_block g3, ?_, (setRow_other _ _ _ _ (by omega)).trans g1, g3⟩
  exact Below.setRow (Below.setRow (((Below.refl _ _).alloc (Nat.le_refl _) _).alloc (by simp) _) (Nat.le_refl _) _) (by omega) _

theorem sum_pos {l : List Int} (h : ∀ x ∈ l, 0 ≤ x) (hn : l.sum ≠ 0) : 0 < l.sum ∧ 1 ≤ l.length := by
  have h2 := le_sum l h l.length
  simp [List.getD] at h2
  refine ⟨by omega, ?_⟩
  cases l with
  | nil => simp at hn
  | cons a l => simp

theorem par_bg (p : Par) : ParOk p ↔ bgOk p ∧ 1 ≤ p.depth ∧ p.depth ≤ 8 ∧ 2 ≤ p.room ∧ p.room ≤ 40 := by
  constructor
  · intro h
    have := h.a1
    have := h.a2
    have := h.s2
    exact ⟨⟨h.e1, h.e2, by omega, h.b2, h.a1, h.a2, h.n1, h.n2, h.l2, h.s1, by omega⟩, h.d1, h.d2, h.r1, h.r2⟩
  · rintro ⟨⟨e1, e2, b1, b2, a1, a2, n1, n2, l2, s1, s2⟩, d1, d2, r1, r2⟩
    obtain ⟨g1, g2⟩ := sum_pos (fun x hx => (s1 x hx).1) s2
    exact ⟨d1, d2, e1, e2, r1, r2, b2, a1, a2, n1, n2, g2, l2, s1, g1⟩

theorem one_row {w : World} {b : Nat} {n : Nd} (h : w.heap[b]? = some (.cells (ndA n) 81 (0, 0))) : w.ownsRow 0 81 37 (.slice (some ⟨b, 0, none⟩) 1 1) 1 (nsC [n]) :=
  ⟨rfl, Or.inr ⟨b, 1, ndA n, rfl, Nat.zero_le _, h, Nat.le_refl _, by unfold maxLen; omega, rfl, by
    show (ndC n).take (1 * 37) = _
    rw [List.take_of_length_le (by rw [ndC_length]; omega)]
    simp [nsC]⟩⟩
theorem rep_start {w : World} {x b : Nat} {p : Par} (hp : ParOk p) (hN : w.heap[b]? = some (.cells (ndA (firstN (firstP p))) 81 (0, 0)))
    (hX : w.heap[x]? = some (.cells #[.int .i64 p.epoch, .int .i64 p.a, .int .i64 p.b, .int .i64 (p.stakes.length : Int), .int .i64 (total p), .int .i64 p.depth, .int .i64 p.room, .int .i64 0, .slice (some ⟨b, 0, none⟩) 1 1, .slice none 0 0] 89 (0, 0))) : RepP w x (fun k => k = x ∨ k = b) (Bk.start p) := by
  have hfin : fin (Bk.start p) = 0 := by
    have htip : tip (Bk.start p) = 0 := rfl
    unfold fin finOf
    rw [htip, if_pos (by have := hp.d1; show ((height [zeroI] 0 : Nat) : Int) < p.depth; rw [height_zero]; omega)]
  have hline : (line (Bk.start p).all (fin (Bk.start p))).dropLast = [] := by rw [hfin, line_zero]; rfl
  have hnode : (Bk.start p).keep.map (ndOf (Bk.start p).par (Bk.start p).all) = [firstN (firstP p)] := rfl
  refine ⟨b, 1, .slice none 0 0, ⟨?_⟩, ?_⟩
  · rw [hline, hnode]
    refine ⟨?_, ?_, ?_⟩
    · exact hX
    · exact one_row hN
    · exact World.ownsRow_nil _ _ _ _
  · intro k
    simp [Value.ownBlock]

theorem run_storeRlA (w : World) (b : Nat) (cs : Array Value) (hn : cs.size = 5) (h1 : cs.all (·.oneCell') = true) (h : isRl w b = true) : (storeRl (.pointer (some ⟨b, 0, none⟩)) (.agg cs)).run Try.prog w = .ok () (w.setRow b cs) := by
  unfold isRl at h
  split at h
  · rename_i cs' t fr hc
    simp only [Bool.and_eq_true, decide_eq_true_eq] at h
    obtain ⟨h2, h3⟩ := h
    subst h3
    unfold storeRl
    simp only [Instr.storeAt, Instr.sureAddr, Sem.run_bind, Sem.run_pure, Result.andThen_ok]
    exact run_storeVar_row w b t 84 cs' cs hc (by rw [hn]; exact info_rul) (by omega) h1
  · simp at h
theorem run_storeRlP (w : World) (b : Nat) (p : Par) (h : isRl w b = true) : (storeRl (.pointer (some ⟨b, 0, none⟩)) (.agg (rulA p))).run Try.prog w = .ok () (w.setRow b (rulA p)) := run_storeRlA w b (rulA p) rfl (rul_one p) h
theorem run_storeRlZ (w : World) (b : Nat) (h : isRl w b = true) : (storeRl (.pointer (some ⟨b, 0, none⟩)) (.agg zeroR)).run Try.prog w = .ok () (w.setRow b zeroR) := run_storeRlA w b zeroR rfl rul_one0 h

attribute [local go_sem ↓] storePg_eq storeRl_eq
attribute [local go_sem] run_storePg run_storeRlP run_storeRlZ

set_option maxHeartbeats 3200000 in
set_option maxRecDepth 1000000 in
theorem new_bad (p : Par) (so : Option Addr) (c : Nat) (w : World) (hs : StkAt w so p.stakes) (hb : ¬ bgOk p) :
    Calls Try.prog 46 #[parV p so c] w fun e w' => e = .returned (.tuple #[.pointer none, .int .i64 1]) ∧ Below w.heap.size w w' := by
  have hRV : bgR p = zeroR := if_neg hb
  have hPV : bgP p = zeroP := if_neg hb
  have hEV : bgE p = 1 := if_neg hb
  unfold parV
  go_enter Try.func46, Try.ntmps46
  go_upto_region 1 with fail
  generalize hA : w.alloc (.cells #[.int .i64 p.depth, .int .i64 p.epoch, .int .i64 p.room, .int .i64 p.a, .int .i64 p.b, .int .i64 p.nonce, .slice so p.stakes.length c] 31) = A at *
  obtain ⟨hsA, hbA, k0⟩ := below_of hA
  clear hA
  have a0 := cell_of_cells (j := 0) k0 rfl
  have a1 := cell_of_cells (j := 1) k0 rfl
  have a2 := cell_of_cells (j := 2) k0 rfl
  have a3 := cell_of_cells (j := 3) k0 rfl
  have a4 := cell_of_cells (j := 4) k0 rfl
  have a5 := cell_of_cells (j := 5) k0 rfl
  have a6 := cell_of_cells (j := 6) k0 rfl
  go_wp2_with fail
  refine (begin_v p so c A (stk_keep hs hbA)).mono ?_
  rintro e w1 ⟨rfl, hb1⟩
  rw [hRV, hPV, hEV]
  have hs1 := hb1.size
  have m0 : w1.heap[w.heap.size]? = _ := (hb1.block _ (by omega)).trans k0
  have hbw := hbA.trans (hb1.mono (by omega))
  clear a0 a1 a2 a3 a4 a5 a6 k0 hbA hb1 hs hRV hPV hEV
  have hi1 : isRl ((w1.alloc (.cells #[.int .i64 0, .int .i64 0, .int .i64 0, .int .i64 0, .int .i64 0] 84)).alloc (.cells #[.int .i64 0, .int .i64 0, .int .i64 0, .int .i64 0, .int .i64 0, .int .i64 0, .int .i64 0, .int .i64 0, .int .i64 0, .int .i64 0, .int .i64 0, .int .i64 0, .int .i64 0, .int .i64 0, .int .i64 0, .int .i64 0, .int .i64 0, .int .i64 0, .int .i64 0, .int .i64 0, .int .i64 0, .int .i64 0, .int .i64 0, .int .i64 0, .int .i64 0, .int .i64 0, .int .i64 0] 79)) w1.heap.size = true := isRl_of (blocks2 (Below.refl _ _)).2.2.1 rfl
  have hi2 : ∀ cs, isPg (((w1.alloc (.cells #[.int .i64 0, .int .i64 0, .int .i64 0, .int .i64 0, .int .i64 0] 84)).alloc (.cells #[.int .i64 0, .int .i64 0, .int .i64 0, .int .i64 0, .int .i64 0, .int .i64 0, .int .i64 0, .int .i64 0, .int .i64 0, .int .i64 0, .int .i64 0, .int .i64 0, .int .i64 0, .int .i64 0, .int .i64 0, .int .i64 0, .int .i64 0, .int .i64 0, .int .i64 0, .int .i64 0, .int .i64 0, .int .i64 0, .int .i64 0, .int .i64 0, .int .i64 0, .int .i64 0, .int .i64 0] 79)).setRow w1.heap.size cs) (w1.heap.size + 1) = true := fun cs => (isPg_row (by omega)).trans (isPg_of (blocks2 (Below.refl _ _)).2.2.2 rfl)
  go_upto_region 2 with fail
  clear hi1 hi2
  generalize hW : (((w1.alloc (.cells #[.int .i64 0, .int .i64 0, .int .i64 0, .int .i64 0, .int .i64 0] 84)).alloc (.cells #[.int .i64 0, .int .i64 0, .int .i64 0, .int .i64 0, .int .i64 0, .int .i64 0, .int .i64 0, .int .i64 0, .int .i64 0, .int .i64 0, .int .i64 0, .int .i64 0, .int .i64 0, .int .i64 0, .int .i64 0, .int .i64 0, .int .i64 0, .int .i64 0, .int .i64 0, .int .i64 0, .int .i64 0, .int .i64 0, .int .i64 0, .int .i64 0, .int .i64 0, .int .i64 0, .int .i64 0] 79)).setRow w1.heap.size zeroR).setRow (w1.heap.size + 1) (pgA zeroP) = W at *
  obtain ⟨hsW, hbW, q1, q2⟩ := two_rows hW
  clear hW
  have q0 : W.heap[w.heap.size]? = _ := (hbW.block _ (by omega)).trans m0
  have hbw2 := hbw.trans (hbW.mono (by omega))
  generalize w1.heap.size = B at *
  clear m0 hbw hbW
  go_wp2
  go_ret2
  exact ⟨rfl, hbw2⟩

set_option maxHeartbeats 3200000 in
set_option maxRecDepth 1000000 in
theorem new_tree (p : Par) (so : Option Addr) (c : Nat) (w : World) (hs : StkAt w so p.stakes) (hb : bgOk p) (hd : p.depth < 1 ∨ 8 < p.depth ∨ p.room < 2 ∨ 40 < p.room) :
    Calls Try.prog 46 #[parV p so c] w fun e w' => e = .returned (.tuple #[.pointer none, .int .i64 1]) ∧ Below w.heap.size w w' := by
  have hRV : bgR p = rulA p := if_pos hb
  have hPV : bgP p = firstP p := if_pos hb
  have hEV : bgE p = 0 := if_pos hb
  have HD := Go.Proofs.Ytfpbkiknfkjpbaa.hid hd
  clear hd hb
  unfold parV
  go_enter Try.func46, Try.ntmps46
  go_upto_region 1 with fail
  generalize hA : w.alloc (.cells #[.int .i64 p.depth, .int .i64 p.epoch, .int .i64 p.room, .int .i64 p.a, .int .i64 p.b, .int .i64 p.nonce, .slice so p.stakes.length c] 31) = A at *
  obtain ⟨hsA, hbA, k0⟩ := below_of hA
  clear hA
  have a0 := cell_of_cells (j := 0) k0 rfl
  have a1 := cell_of_cells (j := 1) k0 rfl
  have a2 := cell_of_cells (j := 2) k0 rfl
  have a3 := cell_of_cells (j := 3) k0 rfl
  have a4 := cell_of_cells (j := 4) k0 rfl
  have a5 := cell_of_cells (j := 5) k0 rfl
  have a6 := cell_of_cells (j := 6) k0 rfl
  go_wp2_with fail
  refine (begin_v p so c A (stk_keep hs hbA)).mono ?_
  rintro e w1 ⟨rfl, hb1⟩
  rw [hRV, hPV, hEV]
  have hs1 := hb1.size
  have m0 : w1.heap[w.heap.size]? = _ := (hb1.block _ (by omega)).trans k0
  have hbw := hbA.trans (hb1.mono (by omega))
  clear a0 a1 a2 a3 a4 a5 a6 k0 hbA hb1 hs hRV hPV hEV
  have hi1 : isRl ((w1.alloc (.cells #[.int .i64 0, .int .i64 0, .int .i64 0, .int .i64 0, .int .i64 0] 84)).alloc (.cells #[.int .i64 0, .int .i64 0, .int .i64 0, .int .i64 0, .int .i64 0, .int .i64 0, .int .i64 0, .int .i64 0, .int .i64 0, .int .i64 0, .int .i64 0, .int .i64 0, .int .i64 0, .int .i64 0, .int .i64 0, .int .i64 0, .int .i64 0, .int .i64 0, .int .i64 0, .int .i64 0, .int .i64 0, .int .i64 0, .int .i64 0, .int .i64 0, .int .i64 0, .int .i64 0, .int .i64 0] 79)) w1.heap.size = true := isRl_of (blocks2 (Below.refl _ _)).2.2.1 rfl
  have hi2 : ∀ cs, isPg (((w1.alloc (.cells #[.int .i64 0, .int .i64 0, .int .i64 0, .int .i64 0, .int .i64 0] 84)).alloc (.cells #[.int .i64 0, .int .i64 0, .int .i64 0, .int .i64 0, .int .i64 0, .int .i64 0, .int .i64 0, .int .i64 0, .int .i64 0, .int .i64 0, .int .i64 0, .int .i64 0, .int .i64 0, .int .i64 0, .int .i64 0, .int .i64 0, .int .i64 0, .int .i64 0, .int .i64 0, .int .i64 0, .int .i64 0, .int .i64 0, .int .i64 0, .int .i64 0, .int .i64 0, .int .i64 0, .int .i64 0] 79)).setRow w1.heap.size cs) (w1.heap.size + 1) = true := fun cs => (isPg_row (by omega)).trans (isPg_of (blocks2 (Below.refl _ _)).2.2.2 rfl)
  go_upto_region 2 with fail
  clear hi1 hi2
  generalize hW : (((w1.alloc (.cells #[.int .i64 0, .int .i64 0, .int .i64 0, .int .i64 0, .int .i64 0] 84)).alloc (.cells #[.int .i64 0, .int .i64 0, .int .i64 0, .int .i64 0, .int .i64 0, .int .i64 0, .int .i64 0, .int .i64 0, .int .i64 0, .int .i64 0, .int .i64 0, .int .i64 0, .int .i64 0, .int .i64 0, .int .i64 0, .int .i64 0, .int .i64 0, .int .i64 0, .int .i64 0, .int .i64 0, .int .i64 0, .int .i64 0, .int .i64 0, .int .i64 0, .int .i64 0, .int .i64 0, .int .i64 0] 79)).setRow w1.heap.size (rulA p)).setRow (w1.heap.size + 1) (pgA (firstP p)) = W at *
  obtain ⟨hsW, hbW, q1, q2⟩ := two_rows hW
  clear hW
  have q0 : W.heap[w.heap.size]? = _ := (hbW.block _ (by omega)).trans m0
  have hbw2 := hbw.trans (hbW.mono (by omega))
  generalize w1.heap.size = B at *
  clear m0 hbw hbW
  have a0 := cell_of_cells (j := 0) q0 rfl
  have a2 := cell_of_cells (j := 2) q0 rfl
  go_wp2_with (refine wpList_load_row rfl 79 _ rfl (B + 1) rfl 79 (pgA (firstP p)) (0, 0) _ q2 Try.underlying79 rfl (info_page _) ?_)
  refine (tbegin_no p.depth p.room (firstP p) W HD.out).mono ?_
  rintro e w2 ⟨rfl, hb2⟩
  have HB := Go.Proofs.Ytfpbkiknfkjpbaa.hid (fun o => (hbw2.trans (hb2.mono hbw2.size)).alloc (Nat.le_trans hbw2.size hb2.size) o)
  clear a0 a2 q0 q1 q2 hb2 hbw2
  unfold zeroT
  go_wp2
  go_ret2
  exact ⟨rfl, HB.out _⟩

set_option maxHeartbeats 3200000 in
set_option maxRecDepth 1000000 in
theorem new_good (p : Par) (so : Option Addr) (c : Nat) (w : World) (hs : StkAt w so p.stakes) (hok : ParOk p) :
    Calls Try.prog 46 #[parV p so c] w fun e w' => ∃ x F, e = .returned (.tuple #[.pointer (some ⟨x, 0, none⟩), .int .i64 0]) ∧ RepP w' x F (Bk.start p) ∧ Below w.heap.size w w' ∧ ∀ k, F k → w.heap.size ≤ k := by
  have hpb := (par_bg p).1 hok
  have hb := hpb.1
  have hRV : bgR p = rulA p := if_pos hb
  have hPV : bgP p = firstP p := if_pos hb
  have hEV : bgE p = 0 := if_pos hb
  have HPB := Go.Proofs.Ytfpbkiknfkjpbaa.hid hpb
  have HOK := Go.Proofs.Ytfpbkiknfkjpbaa.hid hok
  clear hpb hb hok
  unfold parV
  go_enter Try.func46, Try.ntmps46
  go_upto_region 1 with fail
  generalize hA : w.alloc (.cells #[.int .i64 p.depth, .int .i64 p.epoch, .int .i64 p.room, .int .i64 p.a, .int .i64 p.b, .int .i64 p.nonce, .slice so p.stakes.length c] 31) = A at *
  obtain ⟨hsA, hbA, k0⟩ := below_of hA
  clear hA
  have a0 := cell_of_cells (j := 0) k0 rfl
  have a1 := cell_of_cells (j := 1) k0 rfl
  have a2 := cell_of_cells (j := 2) k0 rfl
  have a3 := cell_of_cells (j := 3) k0 rfl
  have a4 := cell_of_cells (j := 4) k0 rfl
  have a5 := cell_of_cells (j := 5) k0 rfl
  have a6 := cell_of_cells (j := 6) k0 rfl
  go_wp2_with fail
  refine (begin_v p so c A (stk_keep hs hbA)).mono ?_
  rintro e w1 ⟨rfl, hb1⟩
  rw [hRV, hPV, hEV]
  have hs1 := hb1.size
  have m0 : w1.heap[w.heap.size]? = _ := (hb1.block _ (by omega)).trans k0
  have hbw := hbA.trans (hb1.mono (by omega))
  clear a0 a1 a2 a3 a4 a5 a6 k0 hbA hb1 hs hRV hPV hEV
  have hi1 : isRl ((w1.alloc (.cells #[.int .i64 0, .int .i64 0, .int .i64 0, .int .i64 0, .int .i64 0] 84)).alloc (.cells #[.int .i64 0, .int .i64 0, .int .i64 0, .int .i64 0, .int .i64 0, .int .i64 0, .int .i64 0, .int .i64 0, .int .i64 0, .int .i64 0, .int .i64 0, .int .i64 0, .int .i64 0, .int .i64 0, .int .i64 0, .int .i64 0, .int .i64 0, .int .i64 0, .int .i64 0, .int .i64 0, .int .i64 0, .int .i64 0, .int .i64 0, .int .i64 0, .int .i64 0, .int .i64 0, .int .i64 0] 79)) w1.heap.size = true := isRl_of (blocks2 (Below.refl _ _)).2.2.1 rfl
  have hi2 : ∀ cs, isPg (((w1.alloc (.cells #[.int .i64 0, .int .i64 0, .int .i64 0, .int .i64 0, .int .i64 0] 84)).alloc (.cells #[.int .i64 0, .int .i64 0, .int .i64 0, .int .i64 0, .int .i64 0, .int .i64 0, .int .i64 0, .int .i64 0, .int .i64 0, .int .i64 0, .int .i64 0, .int .i64 0, .int .i64 0, .int .i64 0, .int .i64 0, .int .i64 0, .int .i64 0, .int .i64 0, .int .i64 0, .int .i64 0, .int .i64 0, .int .i64 0, .int .i64 0, .int .i64 0, .int .i64 0, .int .i64 0, .int .i64 0] 79)).setRow w1.heap.size cs) (w1.heap.size + 1) = true := fun cs => (isPg_row (by omega)).trans (isPg_of (blocks2 (Below.refl _ _)).2.2.2 rfl)
  go_upto_region 2 with fail
  clear hi1 hi2
  generalize hW : (((w1.alloc (.cells #[.int .i64 0, .int .i64 0, .int .i64 0, .int .i64 0, .int .i64 0] 84)).alloc (.cells #[.int .i64 0, .int .i64 0, .int .i64 0, .int .i64 0, .int .i64 0, .int .i64 0, .int .i64 0, .int .i64 0, .int .i64 0, .int .i64 0, .int .i64 0, .int .i64 0, .int .i64 0, .int .i64 0, .int .i64 0, .int .i64 0, .int .i64 0, .int .i64 0, .int .i64 0, .int .i64 0, .int .i64 0, .int .i64 0, .int .i64 0, .int .i64 0, .int .i64 0, .int .i64 0, .int .i64 0] 79)).setRow w1.heap.size (rulA p)).setRow (w1.heap.size + 1) (pgA (firstP p)) = W at *
  obtain ⟨hsW, hbW, q1, q2⟩ := two_rows hW
  clear hW
  have q0 : W.heap[w.heap.size]? = _ := (hbW.block _ (by omega)).trans m0
  have hbw2 := hbw.trans (hbW.mono (by omega))
  generalize w1.heap.size = B at *
  clear m0 hbw hbW
  have a0 := cell_of_cells (j := 0) q0 rfl
  have a2 := cell_of_cells (j := 2) q0 rfl
  go_wp2_with (refine wpList_load_row rfl 79 _ rfl (B + 1) rfl 79 (pgA (firstP p)) (0, 0) _ q2 Try.underlying79 rfl (info_page _) ?_)
  refine (tbegin_yes p.depth p.room (firstP p) W HPB.out.2.1 HPB.out.2.2.1 HPB.out.2.2.2.1 HPB.out.2.2.2.2).mono ?_
  rintro e w2 ⟨b, rfl, hN, hbb, hb2⟩
  have hs2 := hb2.size
  have r1 : w2.heap[B]? = _ := (hb2.block _ (lt_of_block q1)).trans q1
  have hbw3 := hbw2.trans (hb2.mono hbw2.size)
  have hbl := lt_of_block hN
  have hBl := lt_of_block r1
  have hwb : w.heap.size ≤ b := Nat.le_trans hbw2.size hbb
  clear a0 a2 q0 q1 q2 hb2
  have u0 : w2.cell? ⟨B, 0, none⟩ = some (.int .i64 p.epoch) := cell_of_cells (j := 0) r1 rfl
  have u1 : w2.cell? ⟨B, 1, none⟩ = some (.int .i64 p.a) := cell_of_cells (j := 1) r1 rfl
  have u2 : w2.cell? ⟨B, 2, none⟩ = some (.int .i64 p.b) := cell_of_cells (j := 2) r1 rfl
  have u3 : w2.cell? ⟨B, 3, none⟩ = some (.int .i64 (p.stakes.length : Int)) := cell_of_cells (j := 3) r1 rfl
  have u4 : w2.cell? ⟨B, 4, none⟩ = some (.int .i64 (total p)) := cell_of_cells (j := 4) r1 rfl
  clear r1
  unfold treA
  have HREP : Hid (∀ T, RepP ((w2.alloc T).alloc (.cells #[.int .i64 p.epoch, .int .i64 p.a, .int .i64 p.b, .int .i64 (p.stakes.length : Int), .int .i64 (total p), .int .i64 p.depth, .int .i64 p.room, .int .i64 0, .slice (some ⟨b, 0, none⟩) 1 1, .slice none 0 0] 89)) (w2.heap.size + 1) (fun k => k = w2.heap.size + 1 ∨ k = b) (Bk.start p)) := fun T => rep_start HOK.out ((Below.heap_alloc _ _ _ (by simp; omega)).trans ((Below.heap_alloc _ _ _ hbl).trans hN)) (by have := heap_alloc_new (w2.alloc T) (.cells #[.int .i64 p.epoch, .int .i64 p.a, .int .i64 p.b, .int .i64 (p.stakes.length : Int), .int .i64 (total p), .int .i64 p.depth, .int .i64 p.room, .int .i64 0, .slice (some ⟨b, 0, none⟩) 1 1, .slice none 0 0] 89); simpa using this)
  have HBF : Hid (∀ T X, Below w.heap.size w ((w2.alloc T).alloc X)) := fun T X => (hbw3.alloc (Nat.le_trans hbw2.size hs2) _).alloc (by have := Nat.le_trans hbw2.size hs2; simp; omega) _
  have hsz3 : w.heap.size ≤ w2.heap.size := Nat.le_trans hbw2.size hs2
  clear hN
  generalize total p = TT at *
  go_wp2
  go_ret2
  refine ⟨w2.heap.size + 1, _, rfl, HREP.out _, HBF.out _ _, ?_⟩
  rintro k (e | e)
  · omega
  · omega

/-- THE PROGRAM PAYS. -/
theorem paid : PSpec RepP where
  fr := fun h hb hG => rep_fr h hb hG
  lt := fun h k hk => rep_lt h k hk
  turn := fun w x F s id slot pool hR hi _ _ _ => pturn_is w x F s id slot pool hR hi
  stake := fun w x F s id pool hR hi _ _ => pstake_is w x F s id pool hR hi
  count := fun w x F s id pool hR hi _ _ => pcount_is w x F s id pool hR hi
  offer := fun w x F s parent h hR hi _ _ => poffer_is w x F s parent h hR hi
  new_no := fun w p so c hs hb => by
    have hno := (parB_false p).1 hb
    rw [par_bg] at hno
    by_cases h : bgOk p
    · exact new_tree p so c w hs h (by
        have : ¬ (1 ≤ p.depth ∧ p.depth ≤ 8 ∧ 2 ≤ p.room ∧ p.room ≤ 40) := fun e => hno ⟨h, e⟩
        omega)
    · exact new_bad p so c w hs h
  new_yes := fun w p so c hs hb => new_good p so c w hs ((parB_iff p).1 hb)

end Go.Proofs.Ytfpbkiknfkjpbaa

