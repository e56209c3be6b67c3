import Derived.Test.YtpaakikgfojplaaGreatCLawW
import Derived.Test.YtpaakikgfojplaaGreatCM23
import Derived.Test.YtpaakikgfojplaaGreatCM24
/-
  THE WALK of the statements' fresh.
-/
namespace Go.Proofs.YtpaakikgfojplaaGreat
open Go.RowKit Num Bk
set_option linter.unusedVariables false

/-- What is laid beside the stakes. -/
def givenL (l : List Int) : List Value := icells l ++ [.int .i64 7, .int .i64 7]
theorem given_length (l : List Int) : (givenL l).length = l.length + 2 := by unfold givenL; rw [List.length_append, icells_length]; rfl
theorem given_lo (l : List Int) (j : Nat) (h : j < l.length) : (givenL l)[j]? = some (.int .i64 (l.getD j 0)) := by
  unfold givenL
  rw [List.getElem?_append_left (by rw [icells_length]; exact h), icells_at l j h]
theorem given_hi (l : List Int) (j : Nat) (h : l.length ≤ j) (h2 : j < l.length + 2) : (givenL l)[j]? = some (.int .i64 7) := by
  unfold givenL
  rw [List.getElem?_append_right (by rw [icells_length]; exact h), icells_length]
  obtain ⟨d, hd⟩ : ∃ d, j = l.length + d := ⟨j - l.length, by omega⟩
  subst hd
  rw [Nat.add_sub_cancel_left]
  match d, (show d < 2 by omega) with
  | 0, _ => rfl
  | 1, _ => rfl

theorem given_made (l : List Int) (cur : List Value) (hc : cur.length = l.length + 2) : ((splice cur 0 (icells l)).toArray.setIfInBounds l.length (.int .i64 7)).setIfInBounds (l.length + 1) (.int .i64 7) = (givenL l).toArray := by
  have hl : (splice cur 0 (icells l)).length = l.length + 2 := by simp [splice, icells_length]; omega
  apply Array.ext_getElem?
  intro j
  rw [Array.getElem?_setIfInBounds, Array.getElem?_setIfInBounds]
  simp only [List.size_toArray, Array.size_setIfInBounds, List.getElem?_toArray, hl]
  by_cases h1 : l.length + 1 = j
  · subst h1
    rw [if_pos rfl, if_pos (by omega), given_hi l _ (by omega) (by omega)]
  · rw [if_neg h1]
    by_cases h2 : l.length = j
    · subst h2
      rw [if_pos rfl, if_pos (by omega), given_hi l _ (by omega) (by omega)]
    · rw [if_neg h2]
      by_cases h3 : j < l.length
      · rw [given_lo l j h3]
        have e : splice cur 0 (icells l) = icells l ++ cur.drop (icells l).length := by simp [splice]
        rw [e, List.getElem?_append_left (by rw [icells_length]; exact h3), icells_at l j h3]
      · rw [List.getElem?_eq_none (by omega), List.getElem?_eq_none (by rw [given_length]; omega)]

def FreshOut (Rep : World → Nat → (Nat → Prop) → St → Prop) (w w' : World) (r : Ending) (p : Par) : Prop :=
  (parB p = true ∧ ∃ x c F G, r = .returned (.tuple #[sideV x c, .bool true]) ∧ Side Rep w' x c F G (Bk.start p) ∧ ∀ k, F k ∨ G k → w.heap.size ≤ k) ∨ (parB p = false ∧ r = .returned (.tuple #[.agg #[.pointer none, .pointer none], .bool true]))

theorem run_nil_yes (w : World) : (binOp .eql 22 (.slice none 0 0) (.slice none 0 0)).run Tryz.prog w = .ok (.bool true) w := by
  kernel_rfl
theorem run_nil_no (w : World) (ad : Addr) (n c : Nat) : (binOp .eql 22 (.slice (some ad) n c) (.slice none 0 0)).run Tryz.prog w = .ok (.bool false) w := by
  kernel_rfl
attribute [local go_sem] run_nil_yes run_nil_no

theorem fr_setRow {F : Nat → Prop} {a w : World} (h : Fr F a w) {g : Nat} (hg : F g) (cs : Array Value) : Fr F a (w.setRow g cs) :=
  ⟨h.os, h.tape, h.output, by have := h.size; simpa [World.setRow] using this, fun k hk hn => by rw [setRow_other _ _ _ _ (by intro e; subst e; exact hn hg)]; exact h.block k hk hn⟩

def sdA (u v : Value) : Array Value := #[u, v]
theorem info_sdA (u v : Value) : (Tryz.prog.info? 31).map (·.size) = some (sdA u v).size := by
  show _ = some 2
  kernel_rfl
theorem sd_one (u v : Option Addr) : (sdA (.pointer u) (.pointer v)).all (·.oneCell') = true := by
  simp [sdA, Value.oneCell']

set_option maxHeartbeats 12800000 in
set_option maxRecDepth 1000000 in
theorem fresh_any {Rep : World → Nat → (Nat → Prop) → St → Prop} (P : PSpec Rep) (p : Par) (so : Option Addr) (c : Nat) (w : World) (hs : StkAt w so p.stakes) (hc0 : so = none → c = 0) (hn : p.stakes.length ≤ 17592186044416) :
    Calls Tryz.prog 7 #[parV p so c] w fun r w' => FreshOut Rep w w' r p ∧ Below w.heap.size w w' := by
  obtain ⟨i0, hi0, hz0, hz1, hz2⟩ := info_parts Tryz.info3
  have HS := Go.Proofs.YtpaakikgfojplaaGreat.hid hs
  clear hs
  unfold parV
  go_enter Tryz.func7, Tryz.ntmps7
  go_upto_region 1 with fail
  generalize hA : (w.alloc (.cells #[.int .i64 p.depth, .int .i64 p.epoch, .int .i64 p.room, .int .i64 p.a, .int .i64 p.b, .int .i64 p.nonce, .slice so p.stakes.length c] 24)).alloc (.cells #[.pointer none, .pointer none] 31) = A at *
  obtain ⟨hsA, hbA, hAp, hAs⟩ := below_two hA
  clear hA
  have b6 := cell_of_cells (j := 6) hAp rfl
  have HAP := Go.Proofs.YtpaakikgfojplaaGreat.hid hAp
  have HAS := Go.Proofs.YtpaakikgfojplaaGreat.hid hAs
  have HBA := Go.Proofs.YtpaakikgfojplaaGreat.hid hbA
  have hA1 : w.heap.size < A.heap.size := by omega
  have hA2 : w.heap.size + 1 < A.heap.size := by omega
  have HSA := Go.Proofs.YtpaakikgfojplaaGreat.hid (HS.out.keep hbA)
  clear hAp hAs hbA hsA HS
  generalize hnn : p.stakes.length = n at *
  have HNN := Go.Proofs.YtpaakikgfojplaaGreat.hid hnn
  go_upto_region 3 with (at_make; refine wpList_make_full _ rfl (.tmp 17) (.tmp 17) 22 rfl A.heap.size 3 i0 (.int .i64 0) 1 Tryz.underlying22 hi0 hz0 hz1 _ _ _ _ (n + 2) rfl rfl rfl rfl (by rw [hz2]; omega) (by unfold maxLen; omega) (Nat.le_refl _) ?_)
  intro w1 hown1 hgrow
  have hb1 : Below A.heap.size A w1 := (Below.refl _ _).grown hgrow (Nat.le_refl _) (fun k h => by cases h)
  obtain ⟨cur, hcur, hcs⟩ : ∃ cur : List Value, w1.heap[A.heap.size]? = some (.cells cur.toArray 3 (0, 0)) ∧ cur.length = n + 2 := by
    rcases hown1.2 with ⟨h', _⟩ | ⟨g', cap', arr, h', _, hg, _, _, hs, _⟩
    · simp at h'
    · simp only [Value.slice.injEq, Option.some.injEq, Addr.mk.injEq, and_true, true_and] at h'
      obtain ⟨rfl, rfl⟩ := h'
      exact ⟨arr.toList, by simpa using hg, by simpa using hs⟩
  have HS1 := Go.Proofs.YtpaakikgfojplaaGreat.hid (HSA.out.keep hb1)
  have HLN := Go.Proofs.YtpaakikgfojplaaGreat.hid (show (icells p.stakes).length = n by rw [icells_length]; exact HNN.out)
  have HMN := Go.Proofs.YtpaakikgfojplaaGreat.hid (show (icells p.stakes).length = Nat.min n (n + 2) by rw [HLN.out]; exact (Nat.min_eq_left (by omega)).symm)
  have HFT := Go.Proofs.YtpaakikgfojplaaGreat.hid (show 0 + (icells p.stakes).length ≤ cur.length by rw [HLN.out]; omega)
  have HCS := Go.Proofs.YtpaakikgfojplaaGreat.hid hcs
  have b6' : w1.cell? ⟨w.heap.size, 6, none⟩ = some (.slice so n c) := (hb1.cell (p := ⟨w.heap.size, 6, none⟩) hA1).trans b6
  clear hcs hown1 hgrow b6
  obtain ⟨w2, hrun, HG2, hB2⟩ : ∃ w2, (Builtin.copy_ #[22, 22] 3 #[.slice (some ⟨A.heap.size, 0, none⟩) (n + 2) (n + 2), .slice so n c]).run Tryz.prog w1 = .ok (.int .i64 (n : Int)) w2 ∧
      Hid (w2.heap[A.heap.size]? = some (.cells (splice cur 0 (icells p.stakes)).toArray 3 (0, 0))) ∧ Below A.heap.size A w2 := by
    cases e : so with
    | none =>
      have h0 : n = 0 := by
        rcases Nat.eq_zero_or_pos n with h | h
        · exact h
        · obtain ⟨g, off, h1, _⟩ := HS1.out 0 (by rw [HNN.out]; exact h)
          rw [e] at h1; exact absurd h1 (by simp)
      have h1 := HLN.out
      have h2 : icells p.stakes = [] := List.eq_nil_of_length_eq_zero (by omega)
      refine ⟨w1, ?_, ?_, hb1⟩
      · have := run_copy_none (P := Tryz.prog) w1 22 22 3 3 (some ⟨A.heap.size, 0, none⟩) none (n + 2) (n + 2) n c Tryz.underlying22 Tryz.size3 (by rw [h0]; rfl)
        rw [this, h0]; rfl
      · show _ = _
        rw [h2]; simpa [splice] using hcur
    | some ad =>
      have hsrc : ∀ j v, (icells p.stakes)[j]? = some v → w1.cell? (ad.add j) = some v := fun j v hv => HS1.out.src ad e j v hv
      have := run_copy_row (P := Tryz.prog) w1 22 22 3 3 A.heap.size 0 (n + 2) (n + 2) ad n c cur.toArray 3 (icells p.stakes) Tryz.underlying22 Tryz.size3 hcur HMN.out hsrc (by simpa using HFT.out) (icells_one _)
      have e2 : goInt (icells p.stakes).length = .int .i64 (n : Int) := by rw [HLN.out]; rfl
      rw [e2] at this
      refine ⟨_, this, ?_, below_setRow hb1 (Nat.le_refl _) _⟩
      show _ = _
      rw [setRow_heap w1 A.heap.size _ _ 3 _ hcur]
      simp [splice]
  have hgm := given_made p.stakes cur (by rw [HNN.out]; exact HCS.out)
  rw [HNN.out] at hgm
  have hspl : (splice cur 0 (icells p.stakes)).toArray.size = n + 2 := by
    have h1 := HLN.out
    have h2 := HCS.out
    simp [splice]; omega
  generalize hSP : (splice cur 0 (icells p.stakes)).toArray = SP at *
  obtain ⟨u0, hu0⟩ : ∃ u, SP[n]? = some u := ⟨SP[n]'(by omega), Array.getElem?_eq_getElem (by omega)⟩
  obtain ⟨u1, hu1⟩ : ∃ u, SP[n + 1]? = some u := ⟨SP[n + 1]'(by omega), Array.getElem?_eq_getElem (by omega)⟩
  have x0 : w2.cell? ⟨A.heap.size, n, none⟩ = some u0 := cell_of_cells HG2.out hu0
  have x1 : w2.cell? ⟨A.heap.size, n + 1, none⟩ = some u1 := cell_of_cells HG2.out hu1
  have y0 := free_of_cells (j := n) HG2.out
  have y1 := free_of_cells (j := n + 1) HG2.out
  have hn0 : (0 : Int) ≤ (n : Int) := by omega
  have HV : Hid (((w2.setCell ⟨A.heap.size, n, none⟩ (.int .i64 7)).setCell ⟨A.heap.size, n + 1, none⟩ (.int .i64 7)).heap[A.heap.size]? = some (.cells (givenL p.stakes).toArray 3 (0, 0))) := by
    show _ = _
    rw [heap_setCell_same _ A.heap.size (n + 1) _ 3 _ (heap_setCell_same w2 A.heap.size n _ 3 _ HG2.out), hgm]
  have HBV := Go.Proofs.YtpaakikgfojplaaGreat.hid ((hB2.setCell (p := ⟨A.heap.size, n, none⟩) (Nat.le_refl _) (.int .i64 7)).setCell (p := ⟨A.heap.size, n + 1, none⟩) (Nat.le_refl _) (.int .i64 7))
  clear hgm hSP hspl hu0 hu1 HLN HMN HFT HCS hcur hb1 HS1
  go_upto_region 6 with fail
  generalize (w2.setCell ⟨A.heap.size, n, none⟩ (.int .i64 7)).setCell ⟨A.heap.size, n + 1, none⟩ (.int .i64 7) = V at *
  clear x0 x1 y0 y1 hrun HG2 hB2 b6'
  have hVP := (HBV.out.block w.heap.size hA1).trans HAP.out
  have hAV := HBV.out.size
  have hgV : A.heap.size < V.heap.size := lt_of_block HV.out
  have p0 := cell_of_cells (j := 0) hVP rfl
  have p1 := cell_of_cells (j := 1) hVP rfl
  have p2 := cell_of_cells (j := 2) hVP rfl
  have p3 := cell_of_cells (j := 3) hVP rfl
  have p4 := cell_of_cells (j := 4) hVP rfl
  have p5 := cell_of_cells (j := 5) hVP rfl
  have p6 := cell_of_cells (j := 6) hVP rfl
  have hwV : w.heap.size < V.heap.size := by omega
  have HVP := Go.Proofs.YtpaakikgfojplaaGreat.hid hVP
  have HSV := Go.Proofs.YtpaakikgfojplaaGreat.hid (HSA.out.keep HBV.out)
  have HC0 := Go.Proofs.YtpaakikgfojplaaGreat.hid hc0
  clear hVP HAP hc0
  cases hso : so with
  | none =>
    have h0 : n = 0 := by
      rcases Nat.eq_zero_or_pos n with h | h
      · exact h
      · obtain ⟨g, off, h1, _⟩ := HSV.out 0 (by rw [HNN.out]; exact h)
        rw [hso] at h1; exact absurd h1 (by simp)
    have hpb : parB p = false := by
      have : ¬ ParOk p := fun h => by have := h.l1; rw [HNN.out] at this; omega
      rw [← parB_iff] at this
      simpa using this
    have hcz := HC0.out hso
    rw [hso] at p6
    subst hso
    subst h0
    subst hcz
    go_wp2_with fail
    generalize hQ : V.alloc (.cells #[.int .i64 p.depth, .int .i64 p.epoch, .int .i64 p.room, .int .i64 p.a, .int .i64 p.b, .int .i64 p.nonce, .slice none 0 0] 24) = Q at *
    obtain ⟨hsQ, hbQ, hQo⟩ := below_zero hQ
    clear hQ hQo
    have hnew := P.new_no Q p none 0 (fun j hj => by rw [HNN.out] at hj; omega) hpb
    unfold parV at hnew
    rw [HNN.out] at hnew
    refine hnew.mono ?_
    rintro e w3 ⟨rfl, hb3⟩
    clear hnew
    have hbV3 := hbQ.trans (hb3.mono (by omega))
    clear p0 p1 p2 p3 p4 p5 p6
    have hVP3 := (hbV3.block w.heap.size hwV).trans HVP.out
    have p0 := cell_of_cells (j := 0) hVP3 rfl
    have p1 := cell_of_cells (j := 1) hVP3 rfl
    have p2 := cell_of_cells (j := 2) hVP3 rfl
    have p3 := cell_of_cells (j := 3) hVP3 rfl
    have p4 := cell_of_cells (j := 4) hVP3 rfl
    have p5 := cell_of_cells (j := 5) hVP3 rfl
    have p6 := cell_of_cells (j := 6) hVP3 rfl
    clear hVP3
    go_wp2_with fail
    have hnew := new_no p none 0 w3 (HSV.out.keep hbV3) hpb
    unfold parV at hnew
    rw [HNN.out] at hnew
    refine hnew.mono ?_
    rintro e w4 ⟨rfl, hb4⟩
    clear hnew p0 p1 p2 p3 p4 p5 p6
    have hbV4 := hbV3.trans (hb4.mono hbV3.size)
    have HOUT : Hid (∀ w', Fr (fun k => k = A.heap.size ∨ k = w.heap.size + 1) w4 w' → FreshOut Rep w w' (.returned (.tuple #[.agg (sdA (.pointer none) (.pointer none)), .bool true])) p) := fun w' hf => Or.inr ⟨hpb, rfl⟩
    clear hb3 hb4 hbV3
    have hg4 := (hbV4.block A.heap.size hgV).trans HV.out
    have hr4 : w4.heap[w.heap.size + 1]? = some (.cells (sdA (.pointer none) (.pointer none)) 31 (0, 0)) := (hbV4.block (w.heap.size + 1) (by omega)).trans ((HBV.out.block _ hA2).trans HAS.out)
    have hp4 := (hbV4.block w.heap.size hwV).trans HVP.out
    have hS4 := HSV.out.keep hbV4
    have HG4 := Go.Proofs.YtpaakikgfojplaaGreat.hid hg4
    have HR4 := Go.Proofs.YtpaakikgfojplaaGreat.hid hr4
    have HP4 := Go.Proofs.YtpaakikgfojplaaGreat.hid hp4
    have HS4 := Go.Proofs.YtpaakikgfojplaaGreat.hid hS4
    have HB4 := Go.Proofs.YtpaakikgfojplaaGreat.hid (HBA.out.trans ((HBV.out.trans (hbV4.mono hAV)).mono (by omega)))
    have hA4 : A.heap.size < w4.heap.size := lt_of_block hg4
    clear hg4 hr4 hp4 hS4 hbV4 hbQ HBV HV HAS HVP HBA
    go_wp2
    go_loopw [11, 12] (fun k i wr => ∃ (m : Nat) (cur : Array Value), m ≤ 2 ∧ k = .bool true ∧ i = .int .i64 m ∧ wr.heap[A.heap.size]? = some (.cells cur 3 (0, 0)) ∧ Hid (cur.size = 2 ∧ ∀ j, m ≤ j → cur[j]? = (givenL p.stakes)[j]?) ∧ Fr (fun k => k = A.heap.size) w4 wr)
      (fun _ i _ => 2 - (intOf i).toNat)
    case atStart => exact ⟨0, (givenL p.stakes).toArray, Nat.zero_le _, rfl, rfl, HG4.out, ⟨by rw [List.size_toArray, given_length, HNN.out], fun j _ => by rw [List.getElem?_toArray]⟩, Fr.refl _ _⟩
    case round =>
      obtain ⟨m, cur, hm, rfl, rfl, hgr, HC, hfr⟩ := hrel
      by_cases hlt : m < 2
      · have hlt' : (m : Int) < 2 := by omega
        have i1 : (0 : Int) ≤ (m : Int) := by omega
        have HNX : Hid (∀ nq, ((wr.drewN nq).setCell ⟨A.heap.size, m, none⟩ (.int .i64 1)).heap[A.heap.size]? = some (.cells (cur.setIfInBounds m (.int .i64 1)) 3 (0, 0))) := fun nq => heap_setCell_same (wr.drewN nq) A.heap.size m _ 3 _ hgr
        have HNY : Hid ((wr.setCell ⟨A.heap.size, m, none⟩ (.int .i64 1)).heap[A.heap.size]? = some (.cells (cur.setIfInBounds m (.int .i64 1)) 3 (0, 0))) := heap_setCell_same wr A.heap.size m _ 3 _ hgr
        have HFN : Hid (∀ nq, Fr (fun k => k = A.heap.size) w4 ((wr.drewN nq).setCell ⟨A.heap.size, m, none⟩ (.int .i64 1))) := fun nq => (show Fr (fun k => k = A.heap.size) w4 (wr.drewN nq) from ⟨hfr.os, hfr.tape, hfr.output, hfr.size, hfr.block⟩).setCell (p := ⟨A.heap.size, m, none⟩) (Or.inl rfl) _
        have HFY : Hid (Fr (fun k => k = A.heap.size) w4 (wr.setCell ⟨A.heap.size, m, none⟩ (.int .i64 1))) := hfr.setCell (p := ⟨A.heap.size, m, none⟩) (Or.inl rfl) _
        have HCN : Hid ((cur.setIfInBounds m (.int .i64 1)).size = 2 ∧ ∀ j, m + 1 ≤ j → (cur.setIfInBounds m (.int .i64 1))[j]? = (givenL p.stakes)[j]?) := ⟨by rw [Array.size_setIfInBounds]; exact HC.out.1, fun j hj => by rw [Array.getElem?_setIfInBounds, if_neg (by omega)]; exact HC.out.2 j (by omega)⟩
        have f0 := free_of_cells (j := m) hgr
        have HF0 : Hid (∀ nq, (wr.drewN nq).frozen? ⟨A.heap.size, m, none⟩ = false) := fun nq => free_of_cells (w := wr.drewN nq) (j := m) hgr
        by_cases hlo : m < 0
        · exact absurd hlo (by omega)
        · have hlo' : ¬ (m : Int) < 0 := by omega
          have cg : wr.cell? ⟨A.heap.size, m, none⟩ = some (.int .i64 7) := cell_of_cells hgr ((HC.out.2 m (Nat.le_refl _)).trans (given_hi _ _ (by rw [HNN.out]; omega) (by rw [HNN.out]; omega)))
          clear hgr hfr HC
          go_wp2
          go_roundw
          case rel => exact ⟨m + 1, _, by omega, rfl, by go_num, HNY.out, HCN, HFY.out⟩
          case measure => simp [intOf]; omega
      · have hrr := (hfr.block (w.heap.size + 1) (by omega) (by omega)).trans HR4.out
        have HRR := Go.Proofs.YtpaakikgfojplaaGreat.hid hrr
        have HFI : Hid (Fr (fun k => k = A.heap.size ∨ k = w.heap.size + 1) w4 (wr.setRow (w.heap.size + 1) (sdA (.pointer none) (.pointer none)))) := by
          show Fr (fun k => k = A.heap.size ∨ k = w.heap.size + 1) w4 _
          exact fr_setRow (F := fun k => k = A.heap.size ∨ k = w.heap.size + 1) (hfr.mono (fun k _ h => Or.inl h)) (Or.inr rfl) _
        clear hrr hgr hfr HC
        go_wp2_with (refine wpList_store_row rfl 31 _ _ rfl (w.heap.size + 1) (sdA (.pointer none) (.pointer none)) rfl rfl 31 (sdA (.pointer none) (.pointer none)) HRR.out (info_sdA _ _) rfl (sd_one _ _) ?_)
        refine bodyPost_ret (results_ct rfl _ _ _ (w.heap.size + 1) 31 (sdA (.pointer none) (.pointer none)) (0, 0) _ rfl (setRow_heap _ _ _ _ _ _ HRR.out) rfl Tryz.underlying31 (info_sdA _ _)) rfl ⟨?_, below_fr HB4.out HFI.out (fun i hi => by omega)⟩
        exact HOUT.out _ HFI.out
  | some ad =>
    rw [hso] at p6
    subst hso
    go_wp2_with fail
    generalize hQ : V.alloc (.cells #[.int .i64 p.depth, .int .i64 p.epoch, .int .i64 p.room, .int .i64 p.a, .int .i64 p.b, .int .i64 p.nonce, .slice (some ⟨A.heap.size, 0, none⟩) n (n + 2)] 24) = Q at *
    obtain ⟨hsQ, hbQ, hQo⟩ := below_zero hQ
    clear hQ hQo
    have hstQ : StkAt Q (some ⟨A.heap.size, 0, none⟩) p.stakes := by
      intro j hj
      refine ⟨A.heap.size, 0, rfl, ?_⟩
      rw [Nat.zero_add, hbQ.cell (p := ⟨A.heap.size, j, none⟩) hgV]
      exact cell_of_cells HV.out (by rw [List.getElem?_toArray]; exact given_lo _ _ hj)
    by_cases hpb : parB p = true
    · have hnew := P.new_yes Q p (some ⟨A.heap.size, 0, none⟩) (n + 2) hstQ hpb
      unfold parV at hnew
      rw [HNN.out] at hnew
      refine hnew.mono ?_
      rintro e w3 ⟨x, F, rfl, hR, hb3, hF⟩
      clear hnew hstQ
      have hbV3 := hbQ.trans (hb3.mono (by omega))
      clear p0 p1 p2 p3 p4 p5 p6
      have hVP3 := (hbV3.block w.heap.size hwV).trans HVP.out
      have p0 := cell_of_cells (j := 0) hVP3 rfl
      have p1 := cell_of_cells (j := 1) hVP3 rfl
      have p2 := cell_of_cells (j := 2) hVP3 rfl
      have p3 := cell_of_cells (j := 3) hVP3 rfl
      have p4 := cell_of_cells (j := 4) hVP3 rfl
      have p5 := cell_of_cells (j := 5) hVP3 rfl
      have p6 := cell_of_cells (j := 6) hVP3 rfl
      go_wp2_with fail
      have hnew := new_yes p (some ad) c w3 (HSV.out.keep hbV3) hpb
      unfold parV at hnew
      rw [HNN.out] at hnew
      refine hnew.mono ?_
      rintro e w4 ⟨cx, gs, cs, ga, ca, gk, ck, rfl, hRf, hb4, l1, l2, l3, l4⟩
      clear hnew p0 p1 p2 p3 p4 p5 p6
      have hb3s := hb3.size
      have hFl := P.lt hR
      have HSD : Hid (Side Rep w4 x cx F (fun k => k = cx ∨ k = gs ∨ k = ga ∨ k = gk) (Bk.start p)) := ⟨P.keep hR hb4, ⟨gs, cs, ga, ca, gk, ck, hRf, fun k => Iff.rfl⟩, inv_start p ((parB_iff p).1 hpb), fun k h1 h2 => by have := hFl k h1; omega⟩
      have HFG : Hid (∀ k, F k ∨ (k = cx ∨ k = gs ∨ k = ga ∨ k = gk) → Q.heap.size ≤ k) := fun k hk => hk.elim (fun h => hF k h) (fun h => by omega)
      have hbV4 := hbV3.trans (hb4.mono hbV3.size)
      clear hR hRf hb3 hb4 hF hbV3 hFl
      have HOUT : Hid (∀ w', Fr (fun k => k = A.heap.size ∨ k = w.heap.size + 1) w4 w' → FreshOut Rep w w' (.returned (.tuple #[.agg (sdA (.pointer (some ⟨x, 0, none⟩)) (.pointer (some ⟨cx, 0, none⟩))), .bool true])) p) := fun w' hf => Or.inl ⟨hpb, x, cx, F, (fun k => k = cx ∨ k = gs ∨ k = ga ∨ k = gk), rfl, HSD.out.fr P hf (fun k hk e => by have := HFG.out k (Or.inl hk); omega) (fun k hk e => by have := HFG.out k (Or.inr hk); omega), fun k hk => by have := HFG.out k hk; omega⟩
      clear HSD HFG
      have hg4 := (hbV4.block A.heap.size hgV).trans HV.out
      have hr4 : w4.heap[w.heap.size + 1]? = some (.cells (sdA (.pointer none) (.pointer none)) 31 (0, 0)) := (hbV4.block (w.heap.size + 1) (by omega)).trans ((HBV.out.block _ hA2).trans HAS.out)
      have hp4 := (hbV4.block w.heap.size hwV).trans HVP.out
      have hS4 := HSV.out.keep hbV4
      have HG4 := Go.Proofs.YtpaakikgfojplaaGreat.hid hg4
      have HR4 := Go.Proofs.YtpaakikgfojplaaGreat.hid hr4
      have HP4 := Go.Proofs.YtpaakikgfojplaaGreat.hid hp4
      have HS4 := Go.Proofs.YtpaakikgfojplaaGreat.hid hS4
      have HB4 := Go.Proofs.YtpaakikgfojplaaGreat.hid (HBA.out.trans ((HBV.out.trans (hbV4.mono hAV)).mono (by omega)))
      have hA4 : A.heap.size < w4.heap.size := lt_of_block hg4
      clear hg4 hr4 hp4 hS4 hbV4 hbQ HBV HV HAS HVP HBA
      go_wp2
      go_loopw [11, 12] (fun k i wr => ∃ (m : Nat) (cur : Array Value), m ≤ n + 2 ∧ k = .bool true ∧ i = .int .i64 m ∧ wr.heap[A.heap.size]? = some (.cells cur 3 (0, 0)) ∧ Hid (cur.size = n + 2 ∧ ∀ j, m ≤ j → cur[j]? = (givenL p.stakes)[j]?) ∧ Fr (fun k => k = A.heap.size) w4 wr)
        (fun _ i _ => n + 2 - (intOf i).toNat)
      case atStart => exact ⟨0, (givenL p.stakes).toArray, Nat.zero_le _, rfl, rfl, HG4.out, ⟨by rw [List.size_toArray, given_length, HNN.out], fun j _ => by rw [List.getElem?_toArray]⟩, Fr.refl _ _⟩
      case round =>
        obtain ⟨m, cur, hm, rfl, rfl, hgr, HC, hfr⟩ := hrel
        by_cases hlt : m < n + 2
        · have hlt' : (m : Int) < (n : Int) + 2 := by omega
          have i1 : (0 : Int) ≤ (m : Int) := by omega
          have HNX : Hid (∀ nq, ((wr.drewN nq).setCell ⟨A.heap.size, m, none⟩ (.int .i64 1)).heap[A.heap.size]? = some (.cells (cur.setIfInBounds m (.int .i64 1)) 3 (0, 0))) := fun nq => heap_setCell_same (wr.drewN nq) A.heap.size m _ 3 _ hgr
          have HNY : Hid ((wr.setCell ⟨A.heap.size, m, none⟩ (.int .i64 1)).heap[A.heap.size]? = some (.cells (cur.setIfInBounds m (.int .i64 1)) 3 (0, 0))) := heap_setCell_same wr A.heap.size m _ 3 _ hgr
          have HFN : Hid (∀ nq, Fr (fun k => k = A.heap.size) w4 ((wr.drewN nq).setCell ⟨A.heap.size, m, none⟩ (.int .i64 1))) := fun nq => (show Fr (fun k => k = A.heap.size) w4 (wr.drewN nq) from ⟨hfr.os, hfr.tape, hfr.output, hfr.size, hfr.block⟩).setCell (p := ⟨A.heap.size, m, none⟩) (Or.inl rfl) _
          have HFY : Hid (Fr (fun k => k = A.heap.size) w4 (wr.setCell ⟨A.heap.size, m, none⟩ (.int .i64 1))) := hfr.setCell (p := ⟨A.heap.size, m, none⟩) (Or.inl rfl) _
          have HCN : Hid ((cur.setIfInBounds m (.int .i64 1)).size = n + 2 ∧ ∀ j, m + 1 ≤ j → (cur.setIfInBounds m (.int .i64 1))[j]? = (givenL p.stakes)[j]?) := ⟨by rw [Array.size_setIfInBounds]; exact HC.out.1, fun j hj => by rw [Array.getElem?_setIfInBounds, if_neg (by omega)]; exact HC.out.2 j (by omega)⟩
          have f0 := free_of_cells (j := m) hgr
          have HF0 : Hid (∀ nq, (wr.drewN nq).frozen? ⟨A.heap.size, m, none⟩ = false) := fun nq => free_of_cells (w := wr.drewN nq) (j := m) hgr
          by_cases hlo : m < n
          · have hlo' : (m : Int) < (n : Int) := by omega
            have cg : wr.cell? ⟨A.heap.size, m, none⟩ = some (.int .i64 (p.stakes.getD m 0)) := cell_of_cells hgr ((HC.out.2 m (Nat.le_refl _)).trans (given_lo _ _ (by rw [HNN.out]; exact hlo)))
            obtain ⟨g0, off, e0, cs0⟩ := HS4.out m (by rw [HNN.out]; exact hlo)
            obtain ⟨g1, off1, e1, cs1⟩ := HSA.out m (by rw [HNN.out]; exact hlo)
            have hg1 : g1 < A.heap.size := World.block_lt_of_cell? A _ cs1
            have hge : g0 = g1 := by
              rw [e0] at e1
              simp only [Option.some.injEq, Addr.mk.injEq] at e1
              exact e1.1
            have hne : g0 ≠ A.heap.size := by omega
            have hg0 : g0 < w4.heap.size := World.block_lt_of_cell? w4 _ cs0
            have csr : wr.cell? ⟨g0, off + m, none⟩ = some (.int .i64 (p.stakes.getD m 0)) := (World.cell?_of_block (hfr.block g0 hg0 hne)).trans cs0
            have pp := cell_of_cells (j := 6) ((hfr.block w.heap.size (by omega) (by omega)).trans HP4.out) rfl
            simp only [Option.some.injEq] at e0
            subst e0
            have HCG : Hid (∀ nq, (wr.drewN nq).cell? ⟨A.heap.size, m, none⟩ = some (.int .i64 (p.stakes.getD m 0))) := fun nq => cg
            clear hge hg1 cs0 cs1 e1 hgr hfr HC
            generalize p.stakes.getD m 0 = v at *
            go_wp2
            go_quiet (fail)
            have z0 := HCG.out nq
            have z1 := HF0.out nq
            go_wp2
            go_roundw
            case rel => exact ⟨m + 1, _, by omega, rfl, by go_num, HNX.out _, HCN, HFN.out _⟩
            case measure => simp [intOf]; omega
          · have hlo' : ¬ (m : Int) < (n : Int) := by omega
            have cg : wr.cell? ⟨A.heap.size, m, none⟩ = some (.int .i64 7) := cell_of_cells hgr ((HC.out.2 m (Nat.le_refl _)).trans (given_hi _ _ (by rw [HNN.out]; omega) (by rw [HNN.out]; omega)))
            clear hgr hfr HC
            go_wp2
            go_roundw
            case rel => exact ⟨m + 1, _, by omega, rfl, by go_num, HNY.out, HCN, HFY.out⟩
            case measure => simp [intOf]; omega
        · have hrr := (hfr.block (w.heap.size + 1) (by omega) (by omega)).trans HR4.out
          have HRR := Go.Proofs.YtpaakikgfojplaaGreat.hid hrr
          have HFI : Hid (Fr (fun k => k = A.heap.size ∨ k = w.heap.size + 1) w4 (wr.setRow (w.heap.size + 1) (sdA (.pointer (some ⟨x, 0, none⟩)) (.pointer (some ⟨cx, 0, none⟩))))) := by
            show Fr (fun k => k = A.heap.size ∨ k = w.heap.size + 1) w4 _
            exact fr_setRow (F := fun k => k = A.heap.size ∨ k = w.heap.size + 1) (hfr.mono (fun k _ h => Or.inl h)) (Or.inr rfl) _
          clear hrr hgr hfr HC
          go_wp2_with (refine wpList_store_row rfl 31 _ _ rfl (w.heap.size + 1) (sdA (.pointer (some ⟨x, 0, none⟩)) (.pointer (some ⟨cx, 0, none⟩))) rfl rfl 31 (sdA (.pointer none) (.pointer none)) HRR.out (info_sdA _ _) rfl (sd_one _ _) ?_)
          refine bodyPost_ret (results_ct rfl _ _ _ (w.heap.size + 1) 31 (sdA (.pointer (some ⟨x, 0, none⟩)) (.pointer (some ⟨cx, 0, none⟩))) (0, 0) _ rfl (setRow_heap _ _ _ _ _ _ HRR.out) rfl Tryz.underlying31 (info_sdA _ _)) rfl ⟨?_, below_fr HB4.out HFI.out (fun i hi => by omega)⟩
          exact HOUT.out _ HFI.out
    · have hpb' : parB p = false := by simpa using hpb
      have hnew := P.new_no Q p (some ⟨A.heap.size, 0, none⟩) (n + 2) hstQ hpb'
      unfold parV at hnew
      rw [HNN.out] at hnew
      clear hstQ
      refine hnew.mono ?_
      rintro e w3 ⟨rfl, hb3⟩
      clear hnew
      have hbV3 := hbQ.trans (hb3.mono (by omega))
      clear p0 p1 p2 p3 p4 p5 p6
      have hVP3 := (hbV3.block w.heap.size hwV).trans HVP.out
      have p0 := cell_of_cells (j := 0) hVP3 rfl
      have p1 := cell_of_cells (j := 1) hVP3 rfl
      have p2 := cell_of_cells (j := 2) hVP3 rfl
      have p3 := cell_of_cells (j := 3) hVP3 rfl
      have p4 := cell_of_cells (j := 4) hVP3 rfl
      have p5 := cell_of_cells (j := 5) hVP3 rfl
      have p6 := cell_of_cells (j := 6) hVP3 rfl
      clear hVP3
      go_wp2_with fail
      have hnew := new_no p (some ad) c w3 (HSV.out.keep hbV3) hpb'
      unfold parV at hnew
      rw [HNN.out] at hnew
      refine hnew.mono ?_
      rintro e w4 ⟨rfl, hb4⟩
      clear hnew p0 p1 p2 p3 p4 p5 p6
      have hbV4 := hbV3.trans (hb4.mono hbV3.size)
      have HOUT : Hid (∀ w', Fr (fun k => k = A.heap.size ∨ k = w.heap.size + 1) w4 w' → FreshOut Rep w w' (.returned (.tuple #[.agg (sdA (.pointer none) (.pointer none)), .bool true])) p) := fun w' hf => Or.inr ⟨hpb', rfl⟩
      clear hb3 hb4 hbV3
      have hg4 := (hbV4.block A.heap.size hgV).trans HV.out
      have hr4 : w4.heap[w.heap.size + 1]? = some (.cells (sdA (.pointer none) (.pointer none)) 31 (0, 0)) := (hbV4.block (w.heap.size + 1) (by omega)).trans ((HBV.out.block _ hA2).trans HAS.out)
      have hp4 := (hbV4.block w.heap.size hwV).trans HVP.out
      have hS4 := HSV.out.keep hbV4
      have HG4 := Go.Proofs.YtpaakikgfojplaaGreat.hid hg4
      have HR4 := Go.Proofs.YtpaakikgfojplaaGreat.hid hr4
      have HP4 := Go.Proofs.YtpaakikgfojplaaGreat.hid hp4
      have HS4 := Go.Proofs.YtpaakikgfojplaaGreat.hid hS4
      have HB4 := Go.Proofs.YtpaakikgfojplaaGreat.hid (HBA.out.trans ((HBV.out.trans (hbV4.mono hAV)).mono (by omega)))
      have hA4 : A.heap.size < w4.heap.size := lt_of_block hg4
      clear hg4 hr4 hp4 hS4 hbV4 hbQ HBV HV HAS HVP HBA
      go_wp2
      go_loopw [11, 12] (fun k i wr => ∃ (m : Nat) (cur : Array Value), m ≤ n + 2 ∧ k = .bool true ∧ i = .int .i64 m ∧ wr.heap[A.heap.size]? = some (.cells cur 3 (0, 0)) ∧ Hid (cur.size = n + 2 ∧ ∀ j, m ≤ j → cur[j]? = (givenL p.stakes)[j]?) ∧ Fr (fun k => k = A.heap.size) w4 wr)
        (fun _ i _ => n + 2 - (intOf i).toNat)
      case atStart => exact ⟨0, (givenL p.stakes).toArray, Nat.zero_le _, rfl, rfl, HG4.out, ⟨by rw [List.size_toArray, given_length, HNN.out], fun j _ => by rw [List.getElem?_toArray]⟩, Fr.refl _ _⟩
      case round =>
        obtain ⟨m, cur, hm, rfl, rfl, hgr, HC, hfr⟩ := hrel
        by_cases hlt : m < n + 2
        · have hlt' : (m : Int) < (n : Int) + 2 := by omega
          have i1 : (0 : Int) ≤ (m : Int) := by omega
          have HNX : Hid (∀ nq, ((wr.drewN nq).setCell ⟨A.heap.size, m, none⟩ (.int .i64 1)).heap[A.heap.size]? = some (.cells (cur.setIfInBounds m (.int .i64 1)) 3 (0, 0))) := fun nq => heap_setCell_same (wr.drewN nq) A.heap.size m _ 3 _ hgr
          have HNY : Hid ((wr.setCell ⟨A.heap.size, m, none⟩ (.int .i64 1)).heap[A.heap.size]? = some (.cells (cur.setIfInBounds m (.int .i64 1)) 3 (0, 0))) := heap_setCell_same wr A.heap.size m _ 3 _ hgr
          have HFN : Hid (∀ nq, Fr (fun k => k = A.heap.size) w4 ((wr.drewN nq).setCell ⟨A.heap.size, m, none⟩ (.int .i64 1))) := fun nq => (show Fr (fun k => k = A.heap.size) w4 (wr.drewN nq) from ⟨hfr.os, hfr.tape, hfr.output, hfr.size, hfr.block⟩).setCell (p := ⟨A.heap.size, m, none⟩) (Or.inl rfl) _
          have HFY : Hid (Fr (fun k => k = A.heap.size) w4 (wr.setCell ⟨A.heap.size, m, none⟩ (.int .i64 1))) := hfr.setCell (p := ⟨A.heap.size, m, none⟩) (Or.inl rfl) _
          have HCN : Hid ((cur.setIfInBounds m (.int .i64 1)).size = n + 2 ∧ ∀ j, m + 1 ≤ j → (cur.setIfInBounds m (.int .i64 1))[j]? = (givenL p.stakes)[j]?) := ⟨by rw [Array.size_setIfInBounds]; exact HC.out.1, fun j hj => by rw [Array.getElem?_setIfInBounds, if_neg (by omega)]; exact HC.out.2 j (by omega)⟩
          have f0 := free_of_cells (j := m) hgr
          have HF0 : Hid (∀ nq, (wr.drewN nq).frozen? ⟨A.heap.size, m, none⟩ = false) := fun nq => free_of_cells (w := wr.drewN nq) (j := m) hgr
          by_cases hlo : m < n
          · have hlo' : (m : Int) < (n : Int) := by omega
            have cg : wr.cell? ⟨A.heap.size, m, none⟩ = some (.int .i64 (p.stakes.getD m 0)) := cell_of_cells hgr ((HC.out.2 m (Nat.le_refl _)).trans (given_lo _ _ (by rw [HNN.out]; exact hlo)))
            obtain ⟨g0, off, e0, cs0⟩ := HS4.out m (by rw [HNN.out]; exact hlo)
            obtain ⟨g1, off1, e1, cs1⟩ := HSA.out m (by rw [HNN.out]; exact hlo)
            have hg1 : g1 < A.heap.size := World.block_lt_of_cell? A _ cs1
            have hge : g0 = g1 := by
              rw [e0] at e1
              simp only [Option.some.injEq, Addr.mk.injEq] at e1
              exact e1.1
            have hne : g0 ≠ A.heap.size := by omega
            have hg0 : g0 < w4.heap.size := World.block_lt_of_cell? w4 _ cs0
            have csr : wr.cell? ⟨g0, off + m, none⟩ = some (.int .i64 (p.stakes.getD m 0)) := (World.cell?_of_block (hfr.block g0 hg0 hne)).trans cs0
            have pp := cell_of_cells (j := 6) ((hfr.block w.heap.size (by omega) (by omega)).trans HP4.out) rfl
            simp only [Option.some.injEq] at e0
            subst e0
            have HCG : Hid (∀ nq, (wr.drewN nq).cell? ⟨A.heap.size, m, none⟩ = some (.int .i64 (p.stakes.getD m 0))) := fun nq => cg
            clear hge hg1 cs0 cs1 e1 hgr hfr HC
            generalize p.stakes.getD m 0 = v at *
            go_wp2
            go_quiet (fail)
            have z0 := HCG.out nq
            have z1 := HF0.out nq
            go_wp2
            go_roundw
            case rel => exact ⟨m + 1, _, by omega, rfl, by go_num, HNX.out _, HCN, HFN.out _⟩
            case measure => simp [intOf]; omega
          · have hlo' : ¬ (m : Int) < (n : Int) := by omega
            have cg : wr.cell? ⟨A.heap.size, m, none⟩ = some (.int .i64 7) := cell_of_cells hgr ((HC.out.2 m (Nat.le_refl _)).trans (given_hi _ _ (by rw [HNN.out]; omega) (by rw [HNN.out]; omega)))
            clear hgr hfr HC
            go_wp2
            go_roundw
            case rel => exact ⟨m + 1, _, by omega, rfl, by go_num, HNY.out, HCN, HFY.out⟩
            case measure => simp [intOf]; omega
        · have hrr := (hfr.block (w.heap.size + 1) (by omega) (by omega)).trans HR4.out
          have HRR := Go.Proofs.YtpaakikgfojplaaGreat.hid hrr
          have HFI : Hid (Fr (fun k => k = A.heap.size ∨ k = w.heap.size + 1) w4 (wr.setRow (w.heap.size + 1) (sdA (.pointer none) (.pointer none)))) := by
            show Fr (fun k => k = A.heap.size ∨ k = w.heap.size + 1) w4 _
            exact fr_setRow (F := fun k => k = A.heap.size ∨ k = w.heap.size + 1) (hfr.mono (fun k _ h => Or.inl h)) (Or.inr rfl) _
          clear hrr hgr hfr HC
          go_wp2_with (refine wpList_store_row rfl 31 _ _ rfl (w.heap.size + 1) (sdA (.pointer none) (.pointer none)) rfl rfl 31 (sdA (.pointer none) (.pointer none)) HRR.out (info_sdA _ _) rfl (sd_one _ _) ?_)
          refine bodyPost_ret (results_ct rfl _ _ _ (w.heap.size + 1) 31 (sdA (.pointer none) (.pointer none)) (0, 0) _ rfl (setRow_heap _ _ _ _ _ _ HRR.out) rfl Tryz.underlying31 (info_sdA _ _)) rfl ⟨?_, below_fr HB4.out HFI.out (fun i hi => by omega)⟩
          exact HOUT.out _ HFI.out

end Go.Proofs.YtpaakikgfojplaaGreat

