import Derived.Test.YtpaakikgfojplaaGreatCM34
import Derived.Test.YtpaakikgfojplaaGreatCM35
/-
  THE PROGRAM's New; and that it pays what PSpec asks.
-/
namespace Go.Proofs.YtpaakikgfojplaaGreat
open Go.RowKit Num Bk
set_option linter.unusedVariables false

def bgR (p : Par) : Array Value := if bgOk p then rulA p else zeroR
def bgP (p : Par) : Pg := if bgOk p then firstP p else zeroP
def bgE (p : Par) : Int := if bgOk p then 0 else 1
theorem begin_v (p : Par) (so : Option Addr) (c : Nat) (w : World) (hs : StkAt w so p.stakes) :
    Calls Tryz.prog 16 #[parV p so c] w fun e w' => e = .returned (.tuple #[.agg (bgR p), .agg (pgA (bgP p)), .int .i64 (bgE p)]) ∧ Below w.heap.size w w' := begin_is p so c w hs

theorem two_rows {w W : World} {z1 z2 r1 r2 : Array Value} {t1 t2 : TypeId} (h : (((w.alloc (.cells z1 t1)).alloc (.cells z2 t2)).setRow w.heap.size r1).setRow (w.heap.size + 1) r2 = W) :
    w.heap.size + 2 ≤ W.heap.size ∧ Below w.heap.size w W ∧ W.heap[w.heap.size]? = some (.cells r1 t1 (0, 0)) ∧ W.heap[w.heap.size + 1]? = some (.cells r2 t2 (0, 0)) := by
  subst h
  have h1 := (blocks2 (w := w) (o1 := .cells z1 t1) (o2 := .cells z2 t2) (Below.refl _ _)).2.2.1
  have h2 := (blocks2 (w := w) (o1 := .cells z1 t1) (o2 := .cells z2 t2) (Below.refl _ _)).2.2.2
  have g1 := setRow_heap _ w.heap.size z1 r1 t1 (0, 0) h1
  have g2 : (((w.alloc (.cells z1 t1)).alloc (.cells z2 t2)).setRow w.heap.size r1).heap[w.heap.size + 1]? = some (.cells z2 t2 (0, 0)) := (setRow_other _ _ _ _ (by omega)).trans h2
  have g3 := setRow_heap _ (w.heap.size + 1) z2 r2 t2 (0, 0) g2
  refine ⟨lt_of_block g3, ?_, (setRow_other _ _ _ _ (by omega)).trans g1, g3⟩
  exact Below.setRow (Below.setRow (((Below.refl _ _).alloc (Nat.le_refl _) _).alloc (by simp) _) (Nat.le_refl _) _) (by omega) _

theorem sum_pos {l : List Int} (h : ∀ x ∈ l, 0 ≤ x) (hn : l.sum ≠ 0) : 0 < l.sum ∧ 1 ≤ l.length := by
  have h2 := le_sum l h l.length
  simp [List.getD] at h2
  refine ⟨by omega, ?_⟩
  cases l with
  | nil => simp at hn
  | cons a l => simp

theorem par_bg (p : Par) : ParOk p ↔ bgOk p ∧ 1 ≤ p.depth ∧ p.depth ≤ 8 ∧ 2 ≤ p.room ∧ p.room ≤ 40 := by
  constructor
  · intro h
    have := h.a1
    have := h.a2
    have := h.s2
    exact ⟨⟨h.e1, h.e2, by omega, h.b2, h.a1, h.a2, h.n1, h.n2, h.l2, h.s1, by omega⟩, h.d1, h.d2, h.r1, h.r2⟩
  · rintro ⟨⟨e1, e2, b1, b2, a1, a2, n1, n2, l2, s1, s2⟩, d1, d2, r1, r2⟩
    obtain ⟨g1, g2⟩ := sum_pos (fun x hx => (s1 x hx).1) s2
    exact ⟨d1, d2, e1, e2, r1, r2, b2, a1, a2, n1, n2, g2, l2, s1, g1⟩

theorem one_row {w : World} {b : Nat} {n : Nd} (h : w.heap[b]? = some (.cells (ndA n) 95 (0, 0))) : w.ownsRow 0 95 37 (.slice (some ⟨b, 0, none⟩) 1 1) 1 (nsC [n]) :=
  ⟨rfl, Or.inr ⟨b, 1, ndA n, rfl, Nat.zero_le _, h, Nat.le_refl _, by unfold maxLen; omega, rfl, by
    show (ndC n).take (1 * 37) = _
    rw [List.take_of_length_le (by rw [ndC_length]; omega)]
    simp [nsC]⟩⟩
theorem rep_start {w : World} {x b : Nat} {p : Par} (hp : ParOk p) (hN : w.heap[b]? = some (.cells (ndA (firstN (firstP p))) 95 (0, 0)))
    (hX : w.heap[x]? = some (.cells #[.int .i64 p.epoch, .int .i64 p.a, .int .i64 p.b, .int .i64 (p.stakes.length : Int), .int .i64 (total p), .int .i64 p.depth, .int .i64 p.room, .int .i64 0, .slice (some ⟨b, 0, none⟩) 1 1, .slice none 0 0, .int .i64 0, .int .i64 0, .int .i64 0, .int .i64 0] 66 (0, 0))) : RepP w x (fun k => k = x ∨ k = b) (Bk.start p) := by
  have hfin : fin (Bk.start p) = 0 := by
    have htip : tip (Bk.start p) = 0 := rfl
    unfold fin finOf
    rw [htip, if_pos (by have := hp.d1; show ((height [zeroI] 0 : Nat) : Int) < p.depth; rw [height_zero]; omega)]
  have hline : (line (Bk.start p).all (fin (Bk.start p))).dropLast = [] := by rw [hfin, line_zero]; rfl
  have hnode : (Bk.start p).keep.map (ndOf (Bk.start p).par (Bk.start p).all) = [firstN (firstP p)] := rfl
  refine ⟨b, 1, .slice none 0 0, ⟨?_⟩, ?_⟩
  · rw [hline, hnode]
    refine ⟨?_, ?_, ?_⟩
    · exact hX
    · exact one_row hN
    · exact World.ownsRow_nil _ _ _ _
  · intro k
    simp [Value.ownBlock]

theorem run_storeRlA (w : World) (b : Nat) (cs : Array Value) (hn : cs.size = 5) (h1 : cs.all (·.oneCell') = true) (h : isRl w b = true) : (storeRl (.pointer (some ⟨b, 0, none⟩)) (.agg cs)).run Tryz.prog w = .ok () (w.setRow b cs) := by
  unfold isRl at h
  split at h
  · rename_i cs' t fr hc
    simp only [Bool.and_eq_true, decide_eq_true_eq] at h
    obtain ⟨h2, h3⟩ := h
    subst h3
    unfold storeRl
    simp only [Instr.storeAt, Instr.sureAddr, Sem.run_bind, Sem.run_pure, Result.andThen_ok]
    exact run_storeVar_row w b t 53 cs' cs hc (by rw [hn]; exact info_rul) (by omega) h1
  · simp at h
theorem run_storeRlP (w : World) (b : Nat) (p : Par) (h : isRl w b = true) : (storeRl (.pointer (some ⟨b, 0, none⟩)) (.agg (rulA p))).run Tryz.prog w = .ok () (w.setRow b (rulA p)) := run_storeRlA w b (rulA p) rfl (rul_one p) h
theorem run_storeRlZ (w : World) (b : Nat) (h : isRl w b = true) : (storeRl (.pointer (some ⟨b, 0, none⟩)) (.agg zeroR)).run Tryz.prog w = .ok () (w.setRow b zeroR) := run_storeRlA w b zeroR rfl rul_one0 h

attribute [local go_sem ↓] storePg_eq storeRl_eq
attribute [local go_sem] run_storePg run_storeRlP run_storeRlZ

set_option maxHeartbeats 3200000 in
set_option maxRecDepth 1000000 in
theorem new_bad (p : Par) (so : Option Addr) (c : Nat) (w : World) (hs : StkAt w so p.stakes) (hb : ¬ bgOk p) :
    Calls Tryz.prog 10 #[parV p so c] w fun e w' => e = .returned (.tuple #[.pointer none, .int .i64 1]) ∧ Below w.heap.size w w' := by
  have hRV : bgR p = zeroR := if_neg hb
  have hPV : bgP p = zeroP := if_neg hb
  have hEV : bgE p = 1 := if_neg hb
  unfold parV
  go_enter Tryz.func10, Tryz.ntmps10
  go_upto_region 1 with fail
  generalize hA : w.alloc (.cells #[.int .i64 p.depth, .int .i64 p.epoch, .int .i64 p.room, .int .i64 p.a, .int .i64 p.b, .int .i64 p.nonce, .slice so p.stakes.length c] 24) = A at *
  obtain ⟨hsA, hbA, k0⟩ := below_of hA
  clear hA
  have a0 := cell_of_cells (j := 0) k0 rfl
  have a1 := cell_of_cells (j := 1) k0 rfl
  have a2 := cell_of_cells (j := 2) k0 rfl
  have a3 := cell_of_cells (j := 3) k0 rfl
  have a4 := cell_of_cells (j := 4) k0 rfl
  have a5 := cell_of_cells (j := 5) k0 rfl
  have a6 := cell_of_cells (j := 6) k0 rfl
  go_wp2_with fail
  refine (begin_v p so c A (stk_keep hs hbA)).mono ?_
  rintro e w1 ⟨rfl, hb1⟩
  rw [hRV, hPV, hEV]
  have hs1 := hb1.size
  have m0 : w1.heap[w.heap.size]? = _ := (hb1.block _ (by omega)).trans k0
  have hbw := hbA.trans (hb1.mono (by omega))
  clear a0 a1 a2 a3 a4 a5 a6 k0 hbA hb1 hs hRV hPV hEV
  have hi1 : isRl ((w1.alloc (.cells #[.int .i64 0, .int .i64 0, .int .i64 0, .int .i64 0, .int .i64 0] 53)).alloc (.cells #[.int .i64 0, .int .i64 0, .int .i64 0, .int .i64 0, .int .i64 0, .int .i64 0, .int .i64 0, .int .i64 0, .int .i64 0, .int .i64 0, .int .i64 0, .int .i64 0, .int .i64 0, .int .i64 0, .int .i64 0, .int .i64 0, .int .i64 0, .int .i64 0, .int .i64 0, .int .i64 0, .int .i64 0, .int .i64 0, .int .i64 0, .int .i64 0, .int .i64 0, .int .i64 0, .int .i64 0] 56)) w1.heap.size = true := isRl_of (blocks2 (Below.refl _ _)).2.2.1 rfl
  have hi2 : ∀ cs, isPg (((w1.alloc (.cells #[.int .i64 0, .int .i64 0, .int .i64 0, .int .i64 0, .int .i64 0] 53)).alloc (.cells #[.int .i64 0, .int .i64 0, .int .i64 0, .int .i64 0, .int .i64 0, .int .i64 0, .int .i64 0, .int .i64 0, .int .i64 0, .int .i64 0, .int .i64 0, .int .i64 0, .int .i64 0, .int .i64 0, .int .i64 0, .int .i64 0, .int .i64 0, .int .i64 0, .int .i64 0, .int .i64 0, .int .i64 0, .int .i64 0, .int .i64 0, .int .i64 0, .int .i64 0, .int .i64 0, .int .i64 0] 56)).setRow w1.heap.size cs) (w1.heap.size + 1) = true := fun cs => (isPg_row (by omega)).trans (isPg_of (blocks2 (Below.refl _ _)).2.2.2 rfl)
  go_upto_region 2 with fail
  clear hi1 hi2
  generalize hW : (((w1.alloc (.cells #[.int .i64 0, .int .i64 0, .int .i64 0, .int .i64 0, .int .i64 0] 53)).alloc (.cells #[.int .i64 0, .int .i64 0, .int .i64 0, .int .i64 0, .int .i64 0, .int .i64 0, .int .i64 0, .int .i64 0, .int .i64 0, .int .i64 0, .int .i64 0, .int .i64 0, .int .i64 0, .int .i64 0, .int .i64 0, .int .i64 0, .int .i64 0, .int .i64 0, .int .i64 0, .int .i64 0, .int .i64 0, .int .i64 0, .int .i64 0, .int .i64 0, .int .i64 0, .int .i64 0, .int .i64 0] 56)).setRow w1.heap.size zeroR).setRow (w1.heap.size + 1) (pgA zeroP) = W at *
  obtain ⟨hsW, hbW, q1, q2⟩ := two_rows hW
  clear hW
  have q0 : W.heap[w.heap.size]? = _ := (hbW.block _ (by omega)).trans m0
  have hbw2 := hbw.trans (hbW.mono (by omega))
  generalize w1.heap.size = B at *
  clear m0 hbw hbW
  go_wp2
  go_ret2
  exact ⟨rfl, hbw2⟩

set_option maxHeartbeats 3200000 in
set_option maxRecDepth 1000000 in
theorem new_tree (p : Par) (so : Option Addr) (c : Nat) (w : World) (hs : StkAt w so p.stakes) (hb : bgOk p) (hd : p.depth < 1 ∨ 8 < p.depth ∨ p.room < 2 ∨ 40 < p.room) :
    Calls Tryz.prog 10 #[parV p so c] w fun e w' => e = .returned (.tuple #[.pointer none, .int .i64 1]) ∧ Below w.heap.size w w' := by
  have hRV : bgR p = rulA p := if_pos hb
  have hPV : bgP p = firstP p := if_pos hb
  have hEV : bgE p = 0 := if_pos hb
  have HD := Go.Proofs.YtpaakikgfojplaaGreat.hid hd
  clear hd hb
  unfold parV
  go_enter Tryz.func10, Tryz.ntmps10
  go_upto_region 1 with fail
  generalize hA : w.alloc (.cells #[.int .i64 p.depth, .int .i64 p.epoch, .int .i64 p.room, .int .i64 p.a, .int .i64 p.b, .int .i64 p.nonce, .slice so p.stakes.length c] 24) = A at *
  obtain ⟨hsA, hbA, k0⟩ := below_of hA
  clear hA
  have a0 := cell_of_cells (j := 0) k0 rfl
  have a1 := cell_of_cells (j := 1) k0 rfl
  have a2 := cell_of_cells (j := 2) k0 rfl
  have a3 := cell_of_cells (j := 3) k0 rfl
  have a4 := cell_of_cells (j := 4) k0 rfl
  have a5 := cell_of_cells (j := 5) k0 rfl
  have a6 := cell_of_cells (j := 6) k0 rfl
  go_wp2_with fail
  refine (begin_v p so c A (stk_keep hs hbA)).mono ?_
  rintro e w1 ⟨rfl, hb1⟩
  rw [hRV, hPV, hEV]
  have hs1 := hb1.size
  have m0 : w1.heap[w.heap.size]? = _ := (hb1.block _ (by omega)).trans k0
  have hbw := hbA.trans (hb1.mono (by omega))
  clear a0 a1 a2 a3 a4 a5 a6 k0 hbA hb1 hs hRV hPV hEV
  have hi1 : isRl ((w1.alloc (.cells #[.int .i64 0, .int .i64 0, .int .i64 0, .int .i64 0, .int .i64 0] 53)).alloc (.cells #[.int .i64 0, .int .i64 0, .int .i64 0, .int .i64 0, .int .i64 0, .int .i64 0, .int .i64 0, .int .i64 0, .int .i64 0, .int .i64 0, .int .i64 0, .int .i64 0, .int .i64 0, .int .i64 0, .int .i64 0, .int .i64 0, .int .i64 0, .int .i64 0, .int .i64 0, .int .i64 0, .int .i64 0, .int .i64 0, .int .i64 0, .int .i64 0, .int .i64 0, .int .i64 0, .int .i64 0] 56)) w1.heap.size = true := isRl_of (blocks2 (Below.refl _ _)).2.2.1 rfl
  have hi2 : ∀ cs, isPg (((w1.alloc (.cells #[.int .i64 0, .int .i64 0, .int .i64 0, .int .i64 0, .int .i64 0] 53)).alloc (.cells #[.int .i64 0, .int .i64 0, .int .i64 0, .int .i64 0, .int .i64 0, .int .i64 0, .int .i64 0, .int .i64 0, .int .i64 0, .int .i64 0, .int .i64 0, .int .i64 0, .int .i64 0, .int .i64 0, .int .i64 0, .int .i64 0, .int .i64 0, .int .i64 0, .int .i64 0, .int .i64 0, .int .i64 0, .int .i64 0, .int .i64 0, .int .i64 0, .int .i64 0, .int .i64 0, .int .i64 0] 56)).setRow w1.heap.size cs) (w1.heap.size + 1) = true := fun cs => (isPg_row (by omega)).trans (isPg_of (blocks2 (Below.refl _ _)).2.2.2 rfl)
  go_upto_region 2 with fail
  clear hi1 hi2
  generalize hW : (((w1.alloc (.cells #[.int .i64 0, .int .i64 0, .int .i64 0, .int .i64 0, .int .i64 0] 53)).alloc (.cells #[.int .i64 0, .int .i64 0, .int .i64 0, .int .i64 0, .int .i64 0, .int .i64 0, .int .i64 0, .int .i64 0, .int .i64 0, .int .i64 0, .int .i64 0, .int .i64 0, .int .i64 0, .int .i64 0, .int .i64 0, .int .i64 0, .int .i64 0, .int .i64 0, .int .i64 0, .int .i64 0, .int .i64 0, .int .i64 0, .int .i64 0, .int .i64 0, .int .i64 0, .int .i64 0, .int .i64 0] 56)).setRow w1.heap.size (rulA p)).setRow (w1.heap.size + 1) (pgA (firstP p)) = W at *
  obtain ⟨hsW, hbW, q1, q2⟩ := two_rows hW
  clear hW
  have q0 : W.heap[w.heap.size]? = _ := (hbW.block _ (by omega)).trans m0
  have hbw2 := hbw.trans (hbW.mono (by omega))
  generalize w1.heap.size = B at *
  clear m0 hbw hbW
  have a0 := cell_of_cells (j := 0) q0 rfl
  have a2 := cell_of_cells (j := 2) q0 rfl
  go_wp2_with (refine wpList_load_row rfl 56 _ rfl (B + 1) rfl 56 (pgA (firstP p)) (0, 0) _ q2 Tryz.underlying56 rfl (info_page _) ?_)
  refine (tbegin_no p.depth p.room (firstP p) W HD.out).mono ?_
  rintro e w2 ⟨rfl, hb2⟩
  have HB := Go.Proofs.YtpaakikgfojplaaGreat.hid (fun o => (hbw2.trans (hb2.mono hbw2.size)).alloc (Nat.le_trans hbw2.size hb2.size) o)
  clear a0 a2 q0 q1 q2 hb2 hbw2
  unfold zeroT
  go_wp2
  go_ret2
  exact ⟨rfl, HB.out _⟩

set_option maxHeartbeats 3200000 in
set_option maxRecDepth 1000000 in
theorem new_good (p : Par) (so : Option Addr) (c : Nat) (w : World) (hs : StkAt w so p.stakes) (hok : ParOk p) :
    Calls Tryz.prog 10 #[parV p so c] w fun e w' => ∃ x F, e = .returned (.tuple #[.pointer (some ⟨x, 0, none⟩), .int .i64 0]) ∧ RepP w' x F (Bk.start p) ∧ Below w.heap.size w w' ∧ ∀ k, F k → w.heap.size ≤ k := by
  have hpb := (par_bg p).1 hok
  have hb := hpb.1
  have hRV : bgR p = rulA p := if_pos hb
  have hPV : bgP p = firstP p := if_pos hb
  have hEV : bgE p = 0 := if_pos hb
  have HPB := Go.Proofs.YtpaakikgfojplaaGreat.hid hpb
  have HOK := Go.Proofs.YtpaakikgfojplaaGreat.hid hok
  clear hpb hb hok
  unfold parV
  go_enter Tryz.func10, Tryz.ntmps10
  go_upto_region 1 with fail
  generalize hA : w.alloc (.cells #[.int .i64 p.depth, .int .i64 p.epoch, .int .i64 p.room, .int .i64 p.a, .int .i64 p.b, .int .i64 p.nonce, .slice so p.stakes.length c] 24) = A at *
  obtain ⟨hsA, hbA, k0⟩ := below_of hA
  clear hA
  have a0 := cell_of_cells (j := 0) k0 rfl
  have a1 := cell_of_cells (j := 1) k0 rfl
  have a2 := cell_of_cells (j := 2) k0 rfl
  have a3 := cell_of_cells (j := 3) k0 rfl
  have a4 := cell_of_cells (j := 4) k0 rfl
  have a5 := cell_of_cells (j := 5) k0 rfl
  have a6 := cell_of_cells (j := 6) k0 rfl
  go_wp2_with fail
  refine (begin_v p so c A (stk_keep hs hbA)).mono ?_
  rintro e w1 ⟨rfl, hb1⟩
  rw [hRV, hPV, hEV]
  have hs1 := hb1.size
  have m0 : w1.heap[w.heap.size]? = _ := (hb1.block _ (by omega)).trans k0
  have hbw := hbA.trans (hb1.mono (by omega))
  clear a0 a1 a2 a3 a4 a5 a6 k0 hbA hb1 hs hRV hPV hEV
  have hi1 : isRl ((w1.alloc (.cells #[.int .i64 0, .int .i64 0, .int .i64 0, .int .i64 0, .int .i64 0] 53)).alloc (.cells #[.int .i64 0, .int .i64 0, .int .i64 0, .int .i64 0, .int .i64 0, .int .i64 0, .int .i64 0, .int .i64 0, .int .i64 0, .int .i64 0, .int .i64 0, .int .i64 0, .int .i64 0, .int .i64 0, .int .i64 0, .int .i64 0, .int .i64 0, .int .i64 0, .int .i64 0, .int .i64 0, .int .i64 0, .int .i64 0, .int .i64 0, .int .i64 0, .int .i64 0, .int .i64 0, .int .i64 0] 56)) w1.heap.size = true := isRl_of (blocks2 (Below.refl _ _)).2.2.1 rfl
  have hi2 : ∀ cs, isPg (((w1.alloc (.cells #[.int .i64 0, .int .i64 0, .int .i64 0, .int .i64 0, .int .i64 0] 53)).alloc (.cells #[.int .i64 0, .int .i64 0, .int .i64 0, .int .i64 0, .int .i64 0, .int .i64 0, .int .i64 0, .int .i64 0, .int .i64 0, .int .i64 0, .int .i64 0, .int .i64 0, .int .i64 0, .int .i64 0, .int .i64 0, .int .i64 0, .int .i64 0, .int .i64 0, .int .i64 0, .int .i64 0, .int .i64 0, .int .i64 0, .int .i64 0, .int .i64 0, .int .i64 0, .int .i64 0, .int .i64 0] 56)).setRow w1.heap.size cs) (w1.heap.size + 1) = true := fun cs => (isPg_row (by omega)).trans (isPg_of (blocks2 (Below.refl _ _)).2.2.2 rfl)
  go_upto_region 2 with fail
  clear hi1 hi2
  generalize hW : (((w1.alloc (.cells #[.int .i64 0, .int .i64 0, .int .i64 0, .int .i64 0, .int .i64 0] 53)).alloc (.cells #[.int .i64 0, .int .i64 0, .int .i64 0, .int .i64 0, .int .i64 0, .int .i64 0, .int .i64 0, .int .i64 0, .int .i64 0, .int .i64 0, .int .i64 0, .int .i64 0, .int .i64 0, .int .i64 0, .int .i64 0, .int .i64 0, .int .i64 0, .int .i64 0, .int .i64 0, .int .i64 0, .int .i64 0, .int .i64 0, .int .i64 0, .int .i64 0, .int .i64 0, .int .i64 0, .int .i64 0] 56)).setRow w1.heap.size (rulA p)).setRow (w1.heap.size + 1) (pgA (firstP p)) = W at *
  obtain ⟨hsW, hbW, q1, q2⟩ := two_rows hW
  clear hW
  have q0 : W.heap[w.heap.size]? = _ := (hbW.block _ (by omega)).trans m0
  have hbw2 := hbw.trans (hbW.mono (by omega))
  generalize w1.heap.size = B at *
  clear m0 hbw hbW
  have a0 := cell_of_cells (j := 0) q0 rfl
  have a2 := cell_of_cells (j := 2) q0 rfl
  go_wp2_with (refine wpList_load_row rfl 56 _ rfl (B + 1) rfl 56 (pgA (firstP p)) (0, 0) _ q2 Tryz.underlying56 rfl (info_page _) ?_)
  refine (tbegin_yes p.depth p.room (firstP p) W HPB.out.2.1 HPB.out.2.2.1 HPB.out.2.2.2.1 HPB.out.2.2.2.2).mono ?_
  rintro e w2 ⟨b, rfl, hN, hbb, hb2⟩
  have hs2 := hb2.size
  have r1 : w2.heap[B]? = _ := (hb2.block _ (lt_of_block q1)).trans q1
  have hbw3 := hbw2.trans (hb2.mono hbw2.size)
  have hbl := lt_of_block hN
  have hBl := lt_of_block r1
  have hwb : w.heap.size ≤ b := Nat.le_trans hbw2.size hbb
  clear a0 a2 q0 q1 q2 hb2
  have u0 : w2.cell? ⟨B, 0, none⟩ = some (.int .i64 p.epoch) := cell_of_cells (j := 0) r1 rfl
  have u1 : w2.cell? ⟨B, 1, none⟩ = some (.int .i64 p.a) := cell_of_cells (j := 1) r1 rfl
  have u2 : w2.cell? ⟨B, 2, none⟩ = some (.int .i64 p.b) := cell_of_cells (j := 2) r1 rfl
  have u3 : w2.cell? ⟨B, 3, none⟩ = some (.int .i64 (p.stakes.length : Int)) := cell_of_cells (j := 3) r1 rfl
  have u4 : w2.cell? ⟨B, 4, none⟩ = some (.int .i64 (total p)) := cell_of_cells (j := 4) r1 rfl
  clear r1
  unfold treA
  have HREP : Hid (∀ T, RepP ((w2.alloc T).alloc (.cells #[.int .i64 p.epoch, .int .i64 p.a, .int .i64 p.b, .int .i64 (p.stakes.length : Int), .int .i64 (total p), .int .i64 p.depth, .int .i64 p.room, .int .i64 0, .slice (some ⟨b, 0, none⟩) 1 1, .slice none 0 0, .int .i64 0, .int .i64 0, .int .i64 0, .int .i64 0] 66)) (w2.heap.size + 1) (fun k => k = w2.heap.size + 1 ∨ k = b) (Bk.start p)) := fun T => rep_start HOK.out ((Below.heap_alloc _ _ _ (by simp; omega)).trans ((Below.heap_alloc _ _ _ hbl).trans hN)) (by have := heap_alloc_new (w2.alloc T) (.cells #[.int .i64 p.epoch, .int .i64 p.a, .int .i64 p.b, .int .i64 (p.stakes.length : Int), .int .i64 (total p), .int .i64 p.depth, .int .i64 p.room, .int .i64 0, .slice (some ⟨b, 0, none⟩) 1 1, .slice none 0 0, .int .i64 0, .int .i64 0, .int .i64 0, .int .i64 0] 66); simpa using this)
  have HBF : Hid (∀ T X, Below w.heap.size w ((w2.alloc T).alloc X)) := fun T X => (hbw3.alloc (Nat.le_trans hbw2.size hs2) _).alloc (by have := Nat.le_trans hbw2.size hs2; simp; omega) _
  have hsz3 : w.heap.size ≤ w2.heap.size := Nat.le_trans hbw2.size hs2
  clear hN
  generalize total p = TT at *
  go_wp2
  go_ret2
  refine ⟨w2.heap.size + 1, _, rfl, HREP.out _, HBF.out _ _, ?_⟩
  rintro k (e | e)
  · omega
  · omega

/-- THE PROGRAM PAYS. -/
theorem paid : PSpec RepP where
  fr := fun h hb hG => rep_fr h hb hG
  lt := fun h k hk => rep_lt h k hk
  turn := fun w x F s id slot pool hR hi _ _ _ => pturn_is w x F s id slot pool hR hi
  stake := fun w x F s id pool hR hi _ _ => pstake_is w x F s id pool hR hi
  count := fun w x F s id pool hR hi _ _ => pcount_is w x F s id pool hR hi
  offer := fun w x F s parent h hR hi _ _ => poffer_is w x F s parent h hR hi
  new_no := fun w p so c hs hb => by
    have hno := (parB_false p).1 hb
    rw [par_bg] at hno
    by_cases h : bgOk p
    · exact new_tree p so c w hs h (by
        have : ¬ (1 ≤ p.depth ∧ p.depth ≤ 8 ∧ 2 ≤ p.room ∧ p.room ≤ 40) := fun e => hno ⟨h, e⟩
        omega)
    · exact new_bad p so c w hs h
  new_yes := fun w p so c hs hb => new_good p so c w hs ((parB_iff p).1 hb)
  tip := fun w x F s hR hi => ptip_is w x F s hR hi
  final := fun w x F s hR hi => pfinal_is w x F s hR hi
  kept := fun w x F s hR hi => pkept_is w x F s hR hi
  path := fun w x F s hR hi => ppath_is w x F s hR hi
  look := fun w x F s id hR hi _ => plook_is w x F s id hR hi

end Go.Proofs.YtpaakikgfojplaaGreat

