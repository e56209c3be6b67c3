import Derived.Test.YtpaakikgfojplaaGreatCM15
import Derived.Test.YtpaakikgfojplaaGreatCFresh
/-
  THE WALK of the statements' plays, over what a step owes.
-/
namespace Go.Proofs.YtpaakikgfojplaaGreat
open Go.RowKit Num Bk
set_option linter.unusedVariables false

/-- A step of a script in memory. -/
structure OpAt (w : World) (a : Addr) (o : OpS) : Prop where
  c0 : w.cell? a = some (.int .i64 o.kind)
  c1 : w.cell? ⟨a.block, a.off + 1, none⟩ = some (.bool o.other)
  c2 : w.cell? ⟨a.block, a.off + 2, none⟩ = some (.int .i64 o.A)
  c3 : w.cell? ⟨a.block, a.off + 3, none⟩ = some (.int .i64 o.B)
  c4 : w.cell? ⟨a.block, a.off + 4, none⟩ = some (.int .i64 o.C)
  c5 : w.cell? ⟨a.block, a.off + 5, none⟩ = some (.int .i64 o.h.slot)
  c6 : w.cell? ⟨a.block, a.off + 6, none⟩ = some (.int .i64 o.h.pool)
  c7 : w.cell? ⟨a.block, a.off + 7, none⟩ = some (.int .i64 o.h.proof)
  c8 : w.cell? ⟨a.block, a.off + 8, none⟩ = some (.int .i64 o.h.count)
  c9 : w.cell? ⟨a.block, a.off + 9, none⟩ = some (.int .i64 o.h.frm)
  c10 : w.cell? ⟨a.block, a.off + 10, none⟩ = some (.int .i64 o.h.dst)
  c11 : w.cell? ⟨a.block, a.off + 11, none⟩ = some (.int .i64 o.h.amount)
  c12 : w.cell? ⟨a.block, a.off + 12, none⟩ = some (.string o.S)
/-- A script that came in. -/
def OpsAt (w : World) (a : Option Addr) (l : List OpS) : Prop := ∀ j o, l[j]? = some o → ∃ x, a = some x ∧ OpAt w (x.add (j * 13)) o ∧ OpI o
theorem OpsAt.keep {w W : World} {a : Option Addr} {l : List OpS} (h : OpsAt w a l) (hb : Below w.heap.size w W) : OpsAt W a l := by
  intro j o ho
  obtain ⟨x, e, h0, hi⟩ := h j o ho
  have key : ∀ y v, w.cell? y = some v → W.cell? y = some v := by
    intro y v hc
    rw [hb.cell (World.block_lt_of_cell? w _ hc)]; exact hc
  exact ⟨x, e, ⟨key _ _ h0.c0, key _ _ h0.c1, key _ _ h0.c2, key _ _ h0.c3, key _ _ h0.c4, key _ _ h0.c5, key _ _ h0.c6, key _ _ h0.c7, key _ _ h0.c8, key _ _ h0.c9, key _ _ h0.c10, key _ _ h0.c11, key _ _ h0.c12⟩, hi⟩

/-- Two cells of a block of six. -/
theorem set_two {w : World} {q : Nat} {cs : Array Value} {t : TypeId} (h : w.heap[q]? = some (.cells cs t (0, 0))) (i j : Nat) (u v : Value) {ds : Array Value} (hd : (cs.setIfInBounds i u).setIfInBounds j v = ds) : ((w.drew.setCell ⟨q, i, none⟩ u).setCell ⟨q, j, none⟩ v).heap[q]? = some (.cells ds t (0, 0)) := by
  rw [heap_setCell_same _ q j _ t _ (heap_setCell_same w.drew q i _ t _ h), hd]

/-- What a step of a script owes, up to a kind. -/
def StepOwes (Rep : World → Nat → (Nat → Prop) → St → Prop) (upTo : Int) : Prop :=
  ∀ (w : World) (wd : Nat) (x c : Bool → Nat) (F G : Bool → Nat → Prop) (s : Bool → St) (lv mv : Value) (L M : List Ent) (o : OpS), WAt Rep w wd x c F G s lv mv L M → OpI o → o.kind ≤ upTo → L.length ≤ 1499999999999 →
    Calls Tryz.prog 8 #[.pointer (some ⟨wd, 0, none⟩), opV o] w fun r w' => r = .returned (.bool true) ∧ Stays Rep w w' wd x c F G lv mv L.length

set_option maxHeartbeats 12800000 in
set_option maxRecDepth 1000000 in
theorem plays_any {Rep : World → Nat → (Nat → Prop) → St → Prop} (P : PSpec Rep) (upTo : Int) (hstep : StepOwes Rep upTo) (p : Par) (so : Option Addr) (cp : Nat) (q : Par) (sq : Option Addr) (cq : Nat) (a : Option Addr) (l : List OpS) (cap : Nat) (w : World)
    (hp : StkAt w so p.stakes) (hp0 : so = none → cp = 0) (hpn : p.stakes.length ≤ 17592186044416) (hq : StkAt w sq q.stakes) (hq0 : sq = none → cq = 0) (hqn : q.stakes.length ≤ 17592186044416) (hl : OpsAt w a l) (hln : l.length ≤ 1300000000000) :
    Calls Tryz.prog 6 #[parV p so cp, parV q sq cq, .slice a l.length cap, .int .i64 upTo] w fun r w' => r = .returned (.bool true) ∧ Below w.heap.size w w' := by
  have HP0 := Go.Proofs.YtpaakikgfojplaaGreat.hid hp0
  have HQ0 := Go.Proofs.YtpaakikgfojplaaGreat.hid hq0
  have HST := Go.Proofs.YtpaakikgfojplaaGreat.hid hstep
  clear hp0 hq0 hstep
  unfold parV
  go_enter Tryz.func6, Tryz.ntmps6
  go_wp2_with fail
  generalize hA : (w.alloc (.cells #[.int .i64 p.depth, .int .i64 p.epoch, .int .i64 p.room, .int .i64 p.a, .int .i64 p.b, .int .i64 p.nonce, .slice so p.stakes.length cp] 24)).alloc (.cells #[.int .i64 q.depth, .int .i64 q.epoch, .int .i64 q.room, .int .i64 q.a, .int .i64 q.b, .int .i64 q.nonce, .slice sq q.stakes.length cq] 24) = A at *
  obtain ⟨hsA, hbA, hAp, hAq⟩ := below_two hA
  clear hA
  have HQ := Go.Proofs.YtpaakikgfojplaaGreat.hid (hq.keep hbA)
  have HL := Go.Proofs.YtpaakikgfojplaaGreat.hid (hl.keep hbA)
  have HL0 := Go.Proofs.YtpaakikgfojplaaGreat.hid hl
  have HBA := Go.Proofs.YtpaakikgfojplaaGreat.hid hbA
  have hA1 : w.heap.size + 1 < A.heap.size := by omega
  have hfr := fresh_any P p so cp A (hp.keep hbA) HP0.out hpn
  unfold parV at hfr
  refine hfr.mono ?_
  rintro r w1 ⟨hO1, hb1⟩
  have hq1 := (hb1.block (w.heap.size + 1) hA1).trans hAq
  clear hfr hp hq hl hAp hAq hbA hsA
  rcases hO1 with ⟨hp1, x1, c1, F1, G1, rfl, hS1, hF1⟩ | ⟨hp1, rfl⟩
  · unfold sideV
    go_upto_region 2 with fail
    generalize hB : w1.alloc (.cells #[.pointer (some ⟨x1, 0, none⟩), .pointer (some ⟨c1, 0, none⟩)] 31) = B at *
    obtain ⟨hsB, hbB, hBo⟩ := below_zero hB
    clear hB
    have hq2 := (hbB.block (w.heap.size + 1) (by have := hb1.size; omega)).trans hq1
    have hAB := hb1.trans (hbB.mono hb1.size)
    have j0 := cell_of_cells (j := 0) hq2 rfl
    have j1 := cell_of_cells (j := 1) hq2 rfl
    have j2 := cell_of_cells (j := 2) hq2 rfl
    have j3 := cell_of_cells (j := 3) hq2 rfl
    have j4 := cell_of_cells (j := 4) hq2 rfl
    have j5 := cell_of_cells (j := 5) hq2 rfl
    have j6 := cell_of_cells (j := 6) hq2 rfl
    go_wp2_with fail
    have hfr := fresh_any P q sq cq B (HQ.out.keep hAB) HQ0.out hqn
    unfold parV at hfr
    refine hfr.mono ?_
    rintro r w2 ⟨hO2, hb2⟩
    have hs1' := hb1.size
    have hs2' := hb2.size
    have hBo2 := (hb2.block w1.heap.size (by omega)).trans hBo
    have hl12 : w1.heap.size < w2.heap.size := lt_of_block hBo2
    have e0 := cell_of_cells (j := 0) hBo2 rfl
    have e1 := cell_of_cells (j := 1) hBo2 rfl
    have HBD := Go.Proofs.YtpaakikgfojplaaGreat.hid (HBA.out.trans ((hAB.trans (hb2.mono hAB.size)).mono HBA.out.size))
    clear hfr j0 j1 j2 j3 j4 j5 j6 hq1 hq2 hBo
    rcases hO2 with ⟨hp2, x2, c2, F2, G2, rfl, hS2, hF2⟩ | ⟨hp2, rfl⟩
    · unfold sideV
      go_upto_region 6 with fail
      generalize hD : (w2.alloc (.cells #[.pointer (some ⟨x2, 0, none⟩), .pointer (some ⟨c2, 0, none⟩)] 31)).alloc (.cells #[.pointer none, .pointer none, .pointer none, .pointer none, .slice none 0 0, .slice none 0 0] 38) = D at *
      obtain ⟨hsD, hbD, hD1, hD2⟩ := below_two hD
      clear hD e0 e1
      have hE : D.heap[w1.heap.size]? = _ := (hbD.block w1.heap.size hl12).trans hBo2
      have hwd : w2.heap.size + 1 < D.heap.size := by omega
      have h1D : w1.heap.size < D.heap.size := by omega
      have h2D : w2.heap.size < D.heap.size := by omega
      have HBDD := Go.Proofs.YtpaakikgfojplaaGreat.hid (HBD.out.trans (hbD.mono HBD.out.size))
      have HS2 := Go.Proofs.YtpaakikgfojplaaGreat.hid (hS2.keep P hbD)
      have HS1 := Go.Proofs.YtpaakikgfojplaaGreat.hid ((hS1.keep P (hbB.trans (hb2.mono hbB.size))).keep P hbD)
      have HLD := Go.Proofs.YtpaakikgfojplaaGreat.hid (((HL.out.keep hAB).keep hb2).keep hbD)
      have hl1 : ∀ k, F1 k ∨ G1 k → k < w1.heap.size := fun k hk => hk.elim (P.lt hS1.p k) (hS1.r.lt k)
      have hl2 : ∀ k, F2 k ∨ G2 k → k < w2.heap.size := fun k hk => hk.elim (P.lt hS2.p k) (hS2.r.lt k)
      have HFF : Hid ((∀ k, F1 k ∨ G1 k → A.heap.size ≤ k ∧ k < w1.heap.size) ∧ ∀ k, F2 k ∨ G2 k → B.heap.size ≤ k ∧ k < w2.heap.size) := ⟨fun k hk => ⟨hF1 k hk, hl1 k hk⟩, fun k hk => ⟨hF2 k hk, hl2 k hk⟩⟩
      clear hS1 hS2 hF1 hF2 hl1 hl2 hbD hBo2 hAB hbB hb1 hb2 HBD HQ HL
      have e0 := cell_of_cells (j := 0) hE rfl
      have e1 := cell_of_cells (j := 1) hE rfl
      have d0 := cell_of_cells (j := 0) hD2 rfl
      have d1 := cell_of_cells (j := 1) hD2 rfl
      have g0 := free_of_cells (j := 0) hD2
      have g1 := free_of_cells (j := 1) hD2
      have hne1 : w1.heap.size ≠ w2.heap.size + 1 := by omega
      have hsD' := hsD
      clear hsD
      go_cut [49] (fun u wx => wx.heap[w2.heap.size + 1]? = some (.cells #[.pointer (some ⟨x1, 0, none⟩), .pointer (some ⟨c1, 0, none⟩), .pointer none, .pointer none, .slice none 0 0, .slice none 0 0] 38 (0, 0)) ∧ Fr (fun k => k = w2.heap.size + 1) D wx)
      case first =>
        go_region
        all_goals
          go_wp2
          go_meet
          case rel => exact ⟨set_two hD2 0 1 _ _ rfl, ((show Fr (fun k => k = w2.heap.size + 1) D D.drew from ⟨rfl, rfl, rfl, Nat.le_refl _, fun _ _ _ => rfl⟩).setCell (p := ⟨w2.heap.size + 1, 0, none⟩) (Or.inl rfl) _).setCell (p := ⟨w2.heap.size + 1, 1, none⟩) (Or.inl rfl) _⟩
      case rest =>
      obtain ⟨hW1, hf1⟩ := hcut
      generalize wc = E1 at *
      have hs2 := (hf1.block w2.heap.size h2D (by omega)).trans hD1
      have s0 := cell_of_cells (j := 0) hs2 rfl
      have s1 := cell_of_cells (j := 1) hs2 rfl
      clear e0 e1 d0 d1 g0 g1
      have d2 := cell_of_cells (j := 2) hW1 rfl
      have d3 := cell_of_cells (j := 3) hW1 rfl
      have g2 := free_of_cells (j := 2) hW1
      have g3 := free_of_cells (j := 3) hW1
      go_upto_region 7 with fail
      go_cut [54] (fun u wx => wx.heap[w2.heap.size + 1]? = some (.cells #[.pointer (some ⟨x1, 0, none⟩), .pointer (some ⟨c1, 0, none⟩), .pointer (some ⟨x2, 0, none⟩), .pointer (some ⟨c2, 0, none⟩), .slice none 0 0, .slice none 0 0] 38 (0, 0)) ∧ Fr (fun k => k = w2.heap.size + 1) E1 wx)
      case first =>
        go_region
        all_goals
          go_wp2
          go_meet
          case rel => exact ⟨set_two hW1 2 3 _ _ rfl, ((show Fr (fun k => k = w2.heap.size + 1) E1 E1.drew from ⟨rfl, rfl, rfl, Nat.le_refl _, fun _ _ _ => rfl⟩).setCell (p := ⟨w2.heap.size + 1, 2, none⟩) (Or.inl rfl) _).setCell (p := ⟨w2.heap.size + 1, 3, none⟩) (Or.inl rfl) _⟩
      case rest =>
      obtain ⟨hW2, hf2⟩ := hcut
      generalize wc = E2 at *
      have hf := hf1.trans hf2
      have HWA : Hid (WAt Rep E2 (w2.heap.size + 1) (fun b => if b then x2 else x1) (fun b => if b then c2 else c1) (fun b => if b then F2 else F1) (fun b => if b then G2 else G1) (fun b => if b then Bk.start q else Bk.start p) (.slice none 0 0) (.slice none 0 0) [] []) := by
        refine ⟨⟨hW2, ?_, ?_, ?_, World.ownsRow_nil _ _ _ _, World.ownsRow_nil _ _ _ _, fun i e h => by simp at h, fun i e h => by simp at h, fun e h => by simp at h, fun k h => by simp [Value.ownBlock] at h⟩, rfl, by simp⟩
        · intro b
          cases b
          · exact HS1.out.fr P hf (fun k hk e => by have := HFF.out.1 k (Or.inl hk); omega) (fun k hk e => by have := HFF.out.1 k (Or.inr hk); omega)
          · exact HS2.out.fr P hf (fun k hk e => by have := HFF.out.2 k (Or.inl hk); omega) (fun k hk e => by have := HFF.out.2 k (Or.inr hk); omega)
        · intro k h1 h2
          have := HFF.out.1 k h1
          have := HFF.out.2 k h2
          omega
        · intro b k hk
          refine ⟨?_, by simp [Value.ownBlock], by simp [Value.ownBlock], by simp, by simp⟩
          cases b
          · have := HFF.out.1 k hk; omega
          · have := HFF.out.2 k hk; omega
      have HOW : Hid (∀ k, HOwn (fun b => if b then F2 else F1) (fun b => if b then G2 else G1) (w2.heap.size + 1) (.slice none 0 0) (.slice none 0 0) k → w.heap.size ≤ k) := by
        rintro k (⟨b, hk⟩ | h | h | h)
        · cases b
          · have := HFF.out.1 k hk; omega
          · have := HFF.out.2 k hk; omega
        · omega
        · simp [Value.ownBlock] at h
        · simp [Value.ownBlock] at h
      have HBE := Go.Proofs.YtpaakikgfojplaaGreat.hid (below_fr HBDD.out hf (fun i hi => by omega))
      have HLE : Hid (∀ W', Below w.heap.size w W' → OpsAt W' a l) := fun W' hb => HL0.out.keep hb
      clear hW1 hW2 hf1 hf2 hf s0 s1 d2 d3 g2 g3 HS1 HS2 HLD HFF HBDD hD1 hD2 hE hs2
      generalize (fun b : Bool => if b then x2 else x1) = X at *
      generalize (fun b : Bool => if b then c2 else c1) = C at *
      generalize (fun b : Bool => if b then F2 else F1) = F0 at *
      generalize (fun b : Bool => if b then G2 else G1) = G0 at *
      generalize (fun b : Bool => if b then Bk.start q else Bk.start p) = S0 at *
      generalize hnn : l.length = n at *
      generalize w2.heap.size + 1 = wd at *
      go_wp2
      go_loopw [14] (fun i wr => ∃ (k : Nat) (F G : Bool → Nat → Prop) (s : Bool → St) (lv mv : Value) (L M : List Ent), k ≤ n ∧ i = .int .i64 k ∧ Hid (WAt Rep wr wd X C F G s lv mv L M ∧ (∀ k, HOwn F G wd lv mv k → w.heap.size ≤ k) ∧ Below w.heap.size w wr ∧ L.length ≤ k))
        (fun i _ => n - (intOf i).toNat)
      case atStart => exact ⟨0, F0, G0, S0, _, _, [], [], Nat.zero_le _, rfl, HWA.out, HOW.out, HBE.out, Nat.le_refl _⟩
      case round =>
        clear HWA HOW HBE
        obtain ⟨k, F, G, s, lv, mv, L, M, hk, rfl, HH⟩ := hrel
        by_cases hlt : k < n
        · have hlt' : (k : Int) < (n : Int) := by omega
          obtain ⟨o, ho⟩ : ∃ o, l[k]? = some o := ⟨l[k]'(by omega), List.getElem?_eq_getElem (by omega)⟩
          obtain ⟨y, rfl, hop, hoi⟩ := HLE.out _ HH.out.2.2.1 k o ho
          have k0 := hop.c0
          have k1 := hop.c1
          have k2 := hop.c2
          have k3 := hop.c3
          have k4 := hop.c4
          have k5 := hop.c5
          have k6 := hop.c6
          have k7 := hop.c7
          have k8 := hop.c8
          have k9 := hop.c9
          have k10 := hop.c10
          have k11 := hop.c11
          have k12 := hop.c12
          have HOI := Go.Proofs.YtpaakikgfojplaaGreat.hid hoi
          clear hop hoi ho
          by_cases hkd : upTo < o.kind
          · go_wp2
            go_roundw
            case rel => exact ⟨k + 1, F, G, s, lv, mv, L, M, by omega, by go_num, HH.out.1, HH.out.2.1, HH.out.2.2.1, Nat.le_succ_of_le HH.out.2.2.2⟩
            case measure => simp [intOf]; omega
          · go_wp2_with fail
            have hcall := HST.out wr wd X C F G s lv mv L M o HH.out.1 HOI.out (by omega) (by have := HH.out.2.2.2; omega)
            unfold opV at hcall
            rw [show opA o = #[.int .i64 o.kind, .bool o.other, .int .i64 o.A, .int .i64 o.B, .int .i64 o.C, .int .i64 o.h.slot, .int .i64 o.h.pool, .int .i64 o.h.proof, .int .i64 o.h.count, .int .i64 o.h.frm, .int .i64 o.h.dst, .int .i64 o.h.amount, .string o.S] from rfl] at hcall
            refine hcall.mono ?_
            rintro r w5 ⟨rfl, F', G', s', lv', mv', L', M', hW5, hf5, ho5, hl5⟩
            have HH5 : Hid (WAt Rep w5 wd X C F' G' s' lv' mv' L' M' ∧ (∀ k, HOwn F' G' wd lv' mv' k → w.heap.size ≤ k) ∧ Below w.heap.size w w5 ∧ L'.length ≤ k + 1) := ⟨hW5, fun j hj => by
              rcases ho5 j hj with h | h
              · exact HH.out.2.1 j h
              · have := HH.out.2.2.1.size; omega, below_fr HH.out.2.2.1 hf5 HH.out.2.1, by have := HH.out.2.2.2; omega⟩
            clear hcall hf5 ho5 hl5 HH k0 k1 k2 k3 k4 k5 k6 k7 k8 k9 k10 k11 k12
            go_wp2_with fail
            refine (wlooks_any hW5).mono ?_
            rintro r w6 ⟨rfl, rfl⟩
            clear hW5
            go_wp2
            go_roundw
            case rel => exact ⟨k + 1, F', G', s', lv', mv', L', M', by omega, by go_num, HH5⟩
            case measure => simp [intOf]; omega
        · have HB := Go.Proofs.YtpaakikgfojplaaGreat.hid HH.out.2.2.1
          clear HH
          go_wp2
          go_ret
          exact ⟨rfl, HB.out⟩
    · have HFIN := Go.Proofs.YtpaakikgfojplaaGreat.hid (fun cs => (HBD.out.alloc HBD.out.size cs))
      clear hBo2 HBD
      go_wp2
      go_ret
      exact ⟨rfl, HFIN.out _⟩
  · go_upto_region 2 with fail
    generalize hB : w1.alloc (.cells #[.pointer none, .pointer none] 31) = B at *
    obtain ⟨hsB, hbB, hBo⟩ := below_zero hB
    clear hB
    have hq2 := (hbB.block (w.heap.size + 1) (by have := hb1.size; omega)).trans hq1
    have hAB := hb1.trans (hbB.mono hb1.size)
    have j0 := cell_of_cells (j := 0) hq2 rfl
    have j1 := cell_of_cells (j := 1) hq2 rfl
    have j2 := cell_of_cells (j := 2) hq2 rfl
    have j3 := cell_of_cells (j := 3) hq2 rfl
    have j4 := cell_of_cells (j := 4) hq2 rfl
    have j5 := cell_of_cells (j := 5) hq2 rfl
    have j6 := cell_of_cells (j := 6) hq2 rfl
    go_wp2_with fail
    have hfr := fresh_any P q sq cq B (HQ.out.keep hAB) HQ0.out hqn
    unfold parV at hfr
    refine hfr.mono ?_
    rintro r w2 ⟨hO2, hb2⟩
    have hs1' := hb1.size
    have hs2' := hb2.size
    have hBo2 := (hb2.block w1.heap.size (by omega)).trans hBo
    have hl12 : w1.heap.size < w2.heap.size := lt_of_block hBo2
    have e0 := cell_of_cells (j := 0) hBo2 rfl
    have e1 := cell_of_cells (j := 1) hBo2 rfl
    have HBD := Go.Proofs.YtpaakikgfojplaaGreat.hid (HBA.out.trans ((hAB.trans (hb2.mono hAB.size)).mono HBA.out.size))
    clear hfr j0 j1 j2 j3 j4 j5 j6 hq1 hq2 hBo
    rcases hO2 with ⟨hp2, x2, c2, F2, G2, rfl, hS2, hF2⟩ | ⟨hp2, rfl⟩
    · unfold sideV
      have HFIN := Go.Proofs.YtpaakikgfojplaaGreat.hid (fun cs => (HBD.out.alloc HBD.out.size cs))
      clear hBo2 HBD
      go_wp2
      go_ret
      exact ⟨rfl, HFIN.out _⟩
    · have HFIN := Go.Proofs.YtpaakikgfojplaaGreat.hid (fun cs => (HBD.out.alloc HBD.out.size cs))
      clear hBo2 HBD
      go_wp2
      go_ret
      exact ⟨rfl, HFIN.out _⟩

end Go.Proofs.YtpaakikgfojplaaGreat

