import Derived.Test.YtpaakikgfojplabCBc3
/-
  THE WALKS of the program's New: readStakes.
-/
namespace Go.Proofs.Ytpaakikgfojplab
open Go.RowKit Num Bk
set_option linter.unusedVariables false

def arA (f : Nat → Int) : Array Value := #[.int .i64 (f 0), .int .i64 (f 1), .int .i64 (f 2), .int .i64 (f 3), .int .i64 (f 4), .int .i64 (f 5)]
def zeroF : Nat → Int := fun _ => 0
theorem arA_at (f : Nat → Int) : ∀ k, k < 6 → (arA f)[k]? = some (.int .i64 (f k)) := six rfl rfl rfl rfl rfl rfl
theorem arA_set (f : Nat → Int) (v : Int) : ∀ k, k < 6 → (arA f).setIfInBounds k (.int .i64 v) = arA (upd f k v) := six rfl rfl rfl rfl rfl rfl
theorem info_arA (f : Nat → Int) : (Try.prog.info? 85).map (·.size) = some (arA f).size := info_arr
theorem arA_one (f : Nat → Int) : (arA f).all (·.oneCell') = true := by simp [arA, Value.oneCell']

theorem results_ctt {fn : Func} {p u v : Tmp} {ty : TypeId} (h : fn.results = #[.cell p ty, .tmp u, .tmp v]) (tmps : Array Value) (P : Program) (w : World) (g : Nat) (t : TypeId) (cs : Array Value) (fr : Nat × Nat) (d : TypeDesc)
    (hp : tmps.getD p undef = .pointer (some ⟨g, 0, none⟩)) (hg : w.heap[g]? = some (.cells cs t fr))
    (hd : (match d with | .struct _ | .array _ _ => true | _ => false) = true) (hu : P.underlying ty = some d) (hi : (P.info? ty).map (·.size) = some cs.size) :
    (results fn tmps).run P w = .ok (.tuple #[.agg cs, tmps.getD u undef, tmps.getD v undef]) w := by
  have hl := run_loadVar_row (P := P) w g t ty cs fr d hg hu (by revert hd; cases d <;> simp) hi
  simp only [results, h]
  have hp' : tmps[p]?.getD undef = .pointer (some ⟨g, 0, none⟩) := by simpa using hp
  simp [hp', asAddr, hl]

/-- The stakes as far as they were read. -/
def upTo (l : List Int) (k : Nat) : Nat → Int := fun j => if j < k then l.getD j 0 else 0
theorem upTo_zero (l : List Int) : upTo l 0 = zeroF := rfl
theorem upTo_step (l : List Int) (k : Nat) : upd (upTo l k) k (l.getD k 0) = upTo l (k + 1) := by
  funext j
  unfold upd upTo
  by_cases h : k = j
  · subst h; rw [if_pos rfl, if_pos (by omega)]
  · rw [if_neg h]
    by_cases h2 : j < k
    · rw [if_pos h2, if_pos (by omega)]
    · rw [if_neg h2, if_neg (by omega)]
theorem upTo_end (l : List Int) (k : Nat) (h : l.length ≤ k) : upTo l k = fun j => l.getD j 0 := by
  funext j
  unfold upTo
  split
  · rfl
  · rw [List.getD, List.getElem?_eq_none (by omega)]; rfl

def stOk (l : List Int) : Prop := l.length ≤ 6 ∧ (∀ x ∈ l, 0 ≤ x ∧ x ≤ 40) ∧ l.sum ≠ 0
instance (l : List Int) : Decidable (stOk l) := by unfold stOk; exact inferInstance

theorem take_bounds {l : List Int} {k : Nat} (h : ∀ x ∈ l.take k, 0 ≤ x ∧ x ≤ 40) (hk : k ≤ 6) : 0 ≤ (l.take k).sum ∧ (l.take k).sum ≤ 240 := by
  have h1 := sum_le (l.take k) (fun x hx => (h x hx).2)
  have h2 : 0 ≤ (l.take k).sum := by
    have := le_sum (l.take k) (fun x hx => (h x hx).1) (l.take k).length
    simp [List.getD] at this
    exact this
  have h3 : (l.take k).length ≤ k := by rw [List.length_take]; omega
  omega

set_option maxHeartbeats 3200000 in
set_option maxRecDepth 1000000 in
theorem read_is (l : List Int) (so : Option Addr) (c : Nat) (w : World) (hs : StkAt w so l) :
    Calls Try.prog 75 #[.slice so l.length c] w fun e w' => e = .returned (.tuple #[.agg (arA (if stOk l then (fun j => l.getD j 0) else zeroF)), .int .i64 (if stOk l then l.sum else 0), .int .i64 (if stOk l then 0 else 1)]) ∧ Below w.heap.size w w' := by
  generalize hF : (if stOk l then (fun j => l.getD j 0) else zeroF) = FV at *
  generalize hT : (if stOk l then l.sum else 0) = TV at *
  generalize hE : (if stOk l then (0 : Int) else 1) = EV at *
  have HF := Go.Proofs.Ytpaakikgfojplab.hid hF
  have HT := Go.Proofs.Ytpaakikgfojplab.hid hT
  have HE := Go.Proofs.Ytpaakikgfojplab.hid hE
  clear hF hT hE
  go_enter Try.func75, Try.ntmps75
  go_upto_region 2 with fail
  generalize hA : (w.alloc (.cells #[.int .i64 0, .int .i64 0, .int .i64 0, .int .i64 0, .int .i64 0, .int .i64 0] 85)).alloc (.cells #[.int .i64 0, .int .i64 0, .int .i64 0, .int .i64 0, .int .i64 0, .int .i64 0] 85) = A at *
  obtain ⟨hsA, hbA, k0, k1⟩ : w.heap.size + 2 ≤ A.heap.size ∧ Below w.heap.size w A ∧ A.heap[w.heap.size]? = some (.cells (arA zeroF) 85 (0, 0)) ∧ A.heap[w.heap.size + 1]? = some (.cells (arA zeroF) 85 (0, 0)) := by
    subst hA
    exact blocks2 (Below.refl _ _)
  clear hA
  by_cases h6 : 6 < l.length
  · have hno : ¬ stOk l := fun h => by have := h.1; omega
    have hf : FV = zeroF := HF.out.symm.trans (if_neg hno)
    have ht : TV = 0 := HT.out.symm.trans (if_neg hno)
    have he : EV = 1 := HE.out.symm.trans (if_neg hno)
    clear HF HT HE hno hs
    subst hf; subst ht; subst he
    have h6i : (6 : Int) < (l.length : Int) := by omega
    go_wp2_with (refine wpList_store_row rfl 85 _ _ rfl w.heap.size (arA zeroF) rfl rfl 85 (arA zeroF) k0 (info_arA _) rfl (arA_one _) ?_)
    refine bodyPost_ret (results_ctt rfl _ _ _ w.heap.size 85 (arA zeroF) (0, 0) _ rfl (setRow_heap _ _ _ _ _ _ k0) rfl Try.underlying85 (info_arA _)) rfl ⟨rfl, Below.setRow hbA (Nat.le_refl _) _⟩
  · have h6' : l.length ≤ 6 := by omega
    have HK0 := Go.Proofs.Ytpaakikgfojplab.hid k0
    have HK1 := Go.Proofs.Ytpaakikgfojplab.hid k1
    have HBA := Go.Proofs.Ytpaakikgfojplab.hid hbA
    clear k0 k1 hbA
    go_wp2
    go_loopw [6, 7] (fun tv i wr => ∃ k : Nat, k ≤ l.length ∧ i = .int .i64 k ∧ tv = .int .i64 (l.take k).sum ∧ Hid (∀ x ∈ l.take k, 0 ≤ x ∧ x ≤ 40) ∧ wr.heap[w.heap.size]? = some (.cells (arA zeroF) 85 (0, 0)) ∧ wr.heap[w.heap.size + 1]? = some (.cells (arA (upTo l k)) 85 (0, 0)) ∧ Below w.heap.size w wr) (fun _ i _ => l.length - (intOf i).toNat)
    case atStart => exact ⟨0, Nat.zero_le _, rfl, rfl, by intro x hx; simp at hx, HK0.out, HK1.out, HBA.out⟩
    case round =>
      obtain ⟨k, hk, rfl, rfl, HAL, hR0, hR1, hbel⟩ := hrel
      have hbd := take_bounds HAL.out (by omega)
      by_cases hlt : k < l.length
      · obtain ⟨g, off, rfl, hc⟩ := hs k hlt
        have hgl : g < w.heap.size := World.block_lt_of_cell? w _ hc
        have ck : wr.cell? ⟨g, off + k, none⟩ = some (.int .i64 (l.getD k 0)) := (hbel.cell (p := ⟨g, off + k, none⟩) hgl).trans hc
        have hmem : l.getD k 0 ∈ l := by
          rw [show l.getD k 0 = l[k] from by simp [List.getD, hlt]]
          exact List.getElem_mem hlt
        have htk : l.take (k + 1) = l.take k ++ [l.getD k 0] := by
          rw [List.take_succ_eq_append_getElem hlt]
          simp [List.getD, hlt]
        have HSM : Hid ((l.take (k + 1)).sum = (l.take k).sum + l.getD k 0) := by show _ = _; rw [htk, List.sum_append]; simp
        have HAL2 : Hid (0 ≤ l.getD k 0 ∧ l.getD k 0 ≤ 40 → ∀ x ∈ l.take (k + 1), 0 ≤ x ∧ x ≤ 40) := by
          intro hv x hx
          rw [htk, List.mem_append] at hx
          rcases hx with hx | hx
          · exact HAL.out x hx
          · simp at hx; rw [hx]; exact hv
        have hst := arA_set (upTo l k) (l.getD k 0) k (by omega)
        rw [upTo_step] at hst
        have HST := Go.Proofs.Ytpaakikgfojplab.hid (page_store hR1 hst)
        have HMEM := Go.Proofs.Ytpaakikgfojplab.hid hmem
        clear hmem htk hst HAL hc
        generalize hv : l.getD k 0 = v at *
        have n1 : wr.cell? ⟨w.heap.size + 1, k, none⟩ = some (.int .i64 (upTo l k k)) := cell_of_cells (j := k) hR1 (arA_at _ k (by omega))
        have q1 : wr.frozen? ⟨w.heap.size + 1, k, none⟩ = false := free_of_cells hR1
        have i1 : (0 : Int) ≤ (k : Int) := by omega
        have i2 : (k : Int) < ((l.length : Nat) : Int) := by omega
        have i3 : (k : Int) < 6 := by omega
        have HR0 := Go.Proofs.Ytpaakikgfojplab.hid hR0
        have HBL := Go.Proofs.Ytpaakikgfojplab.hid hbel
        clear hR1 hbel
        by_cases hneg : v < 0
        · have hno : ¬ stOk l := fun h => by have := (h.2.1 v HMEM.out).1; omega
          have hf : FV = zeroF := HF.out.symm.trans (if_neg hno)
          have ht : TV = 0 := HT.out.symm.trans (if_neg hno)
          have he : EV = 1 := HE.out.symm.trans (if_neg hno)
          clear HF HT HE hno HST HSM HAL2 HMEM n1 q1
          subst hf; subst ht; subst he
          go_wp2_with (refine wpList_store_row rfl 85 _ _ rfl w.heap.size (arA zeroF) rfl rfl 85 (arA zeroF) hR0 (info_arA _) rfl (arA_one _) ?_)
          refine bodyPost_ret (results_ctt rfl _ _ _ w.heap.size 85 (arA zeroF) (0, 0) _ rfl (setRow_heap _ _ _ _ _ _ hR0) rfl Try.underlying85 (info_arA _)) rfl ⟨rfl, Below.setRow HBL.out (Nat.le_refl _) _⟩
        by_cases hbig : 40 < v
        · have hno : ¬ stOk l := fun h => by have := (h.2.1 v HMEM.out).2; omega
          have hf : FV = zeroF := HF.out.symm.trans (if_neg hno)
          have ht : TV = 0 := HT.out.symm.trans (if_neg hno)
          have he : EV = 1 := HE.out.symm.trans (if_neg hno)
          clear HF HT HE hno HST HSM HAL2 HMEM n1 q1
          subst hf; subst ht; subst he
          go_wp2_with (refine wpList_store_row rfl 85 _ _ rfl w.heap.size (arA zeroF) rfl rfl 85 (arA zeroF) hR0 (info_arA _) rfl (arA_one _) ?_)
          refine bodyPost_ret (results_ctt rfl _ _ _ w.heap.size 85 (arA zeroF) (0, 0) _ rfl (setRow_heap _ _ _ _ _ _ hR0) rfl Try.underlying85 (info_arA _)) rfl ⟨rfl, Below.setRow HBL.out (Nat.le_refl _) _⟩
        clear hR0
        generalize (l.take k).sum = T0 at *
        go_wp2
        go_roundw
        case rel =>
          refine ⟨k + 1, by omega, by go_num, by rw [HSM.out], HAL2.out ⟨by omega, by omega⟩, ?_, HST.out, ?_⟩
          · exact (Below.heap_setCell _ _ _ _ (by show w.heap.size ≠ w.heap.size + 1; omega)).trans HR0.out
          · exact HBL.out.setCell (by show w.heap.size ≤ w.heap.size + 1; omega) _
        case measure => simp [intOf]; omega
      · have hkk : k = l.length := by omega
        have HALL : Hid (∀ x ∈ l, 0 ≤ x ∧ x ≤ 40) := by have := HAL.out; rwa [hkk, List.take_length] at this
        have hsum : (l.take k).sum = l.sum := by rw [hkk, List.take_length]
        have hup := upTo_end l k (by omega)
        rw [hup] at hR1
        rw [hsum] at hbd ⊢
        clear HAL hup hsum
        by_cases hz : l.sum = 0
        · have hno : ¬ stOk l := fun h => h.2.2 hz
          have hf : FV = zeroF := HF.out.symm.trans (if_neg hno)
          have ht : TV = 0 := HT.out.symm.trans (if_neg hno)
          have he : EV = 1 := HE.out.symm.trans (if_neg hno)
          have hzb : (l.sum == 0) = true := by simp [hz]
          clear HF HT HE hno HALL hR1 hz
          subst hf; subst ht; subst he
          generalize l.sum = LS at *
          go_wp2_with (refine wpList_store_row rfl 85 _ _ rfl w.heap.size (arA zeroF) rfl rfl 85 (arA zeroF) hR0 (info_arA _) rfl (arA_one _) ?_)
          refine bodyPost_ret (results_ctt rfl _ _ _ w.heap.size 85 (arA zeroF) (0, 0) _ rfl (setRow_heap _ _ _ _ _ _ hR0) rfl Try.underlying85 (info_arA _)) rfl ⟨rfl, Below.setRow hbel (Nat.le_refl _) _⟩
        · have hyes : stOk l := ⟨h6', HALL.out, hz⟩
          have hf : FV = fun j => l.getD j 0 := HF.out.symm.trans (if_pos hyes)
          have ht : TV = l.sum := HT.out.symm.trans (if_pos hyes)
          have he : EV = 0 := HE.out.symm.trans (if_pos hyes)
          have hzb : (l.sum == 0) = false := by simp [hz]
          clear HF HT HE hyes HALL hz
          rw [← hf] at hR1
          subst ht; subst he
          generalize hLS : l.sum = LS at *
          clear hf
          go_wp2_with (first | refine wpList_load_row rfl 85 _ rfl (w.heap.size + 1) rfl 85 (arA FV) (0, 0) _ hR1 Try.underlying85 rfl (info_arA _) ?_ | refine wpList_store_row rfl 85 _ _ rfl w.heap.size (arA FV) rfl rfl 85 (arA zeroF) hR0 (info_arA _) rfl (arA_one _) ?_)
          refine bodyPost_ret (results_ctt rfl _ _ _ w.heap.size 85 (arA FV) (0, 0) _ rfl (setRow_heap _ _ _ _ _ _ hR0) rfl Try.underlying85 (info_arA _)) rfl ⟨by first | rfl | (rw [hLS]; rfl), Below.setRow hbel (Nat.le_refl _) _⟩

end Go.Proofs.Ytpaakikgfojplab

