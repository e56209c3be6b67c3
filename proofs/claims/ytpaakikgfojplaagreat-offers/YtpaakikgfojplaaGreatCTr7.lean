import Derived.Test.YtpaakikgfojplaaGreatCM30
import Derived.Deep.RegionHeldLaw
/-
  THE WALKS of the program's tree: Add.
-/
namespace Go.Proofs.YtpaakikgfojplaaGreat
open Go.RowKit Num Bk
set_option linter.unusedVariables false

theorem ChAt.acc {w : World} {x gk ck : Nat} {pv : Value} {ps : List Nat} {p : Par} {acc acc' : Int} {ns : List Nd} {past : List Nat} (h : ChAt w x gk ck pv ps p acc ns past) : ChAt (w.setCell ⟨x, 7, none⟩ (.int .i64 acc')) x gk ck pv ps p acc' ns past := by
  obtain ⟨hn1, hn2⟩ := h.ne
  refine ⟨?_, ?_, ?_⟩
  · rw [heap_setCell_same w x 7 _ 66 _ h.blk]
    simp
  · exact ownsRow_setCell_other h.kep (by simpa [Value.ownBlock] using Ne.symm hn1) _
  · exact ownsRow_setCell_other h.pst (fun e => (hn2 x (by simpa using e)).1 rfl) _

theorem far_cells {W w5 : World} {o : Obj} {gk n c : Nat} (h : (W.alloc o).grownBy w5 (Value.slice (some ⟨gk, 0, none⟩) n c).ownBlock) (b : Nat) (hb : b < W.heap.size) (hn : b ≠ gk) (j : Nat) : w5.cell? ⟨b, j, none⟩ = W.cell? ⟨b, j, none⟩ :=
  (h.cell_far ⟨b, j, none⟩ (by simp; omega) (by simp [Value.ownBlock]; exact hn)).trans (World.cell?_alloc_past _ _ _ hb)
theorem far_free {W w5 : World} {o : Obj} {gk n c : Nat} (h : (W.alloc o).grownBy w5 (Value.slice (some ⟨gk, 0, none⟩) n c).ownBlock) (b : Nat) (hb : b < W.heap.size) (hn : b ≠ gk) (j : Nat) : w5.frozen? ⟨b, j, none⟩ = W.frozen? ⟨b, j, none⟩ :=
  (h.frozen_far ⟨b, j, none⟩ (by simp; omega) (by simp [Value.ownBlock]; exact hn)).trans (World.frozen?_alloc_past _ _ _ hb)

theorem far_part {W w5 : World} {o : Obj} {gk n c : Nat} (h : (W.alloc o).grownBy w5 (Value.slice (some ⟨gk, 0, none⟩) n c).ownBlock) (b : Nat) (hb : b < W.heap.size) (hn : b ≠ gk) {p m : Nat} : okP w5 b p m = okP W b p m ∧ rdP w5 b p m = rdP W b p m := by
  have hc : ∀ j, w5.cell? ⟨b, p + j, none⟩ = W.cell? ⟨b, p + j, none⟩ := fun j => far_cells h b hb hn _
  unfold okP rdP
  simp only [hc]
  exact ⟨trivial, trivial⟩
theorem cell_set1 {w : World} {x i b j : Nat} {v : Value} (h : b ≠ x ∨ i ≠ j) : (w.setCell ⟨x, i, none⟩ v).cell? ⟨b, j, none⟩ = w.cell? ⟨b, j, none⟩ := by
  rw [World.cell?_setCell_other _ _ _ _ (by
    intro e
    rcases h with h | h
    · exact h (congrArg Addr.block e).symm
    · exact h (congrArg Addr.off e))]
theorem okP_set1 {w : World} {x i b o n : Nat} {v : Value} (hb : b ≠ x) : okP (w.setCell ⟨x, i, none⟩ v) b o n = okP w b o n ∧ rdP (w.setCell ⟨x, i, none⟩ v) b o n = rdP w b o n := by
  have hc : ∀ j, (w.setCell ⟨x, i, none⟩ v).cell? ⟨b, o + j, none⟩ = w.cell? ⟨b, o + j, none⟩ := fun j => cell_set1 (Or.inl hb)
  unfold okP rdP
  simp only [hc]
  exact ⟨trivial, trivial⟩

theorem add_put {W w5 : World} {x gk ck g5 cap5 : Nat} {pv : Value} {ps : List Nat} {p : Par} {acc : Int} {ns : List Nd} {past : List Nat} {n : Nd} (h : ChAt W x gk ck pv ps p acc ns past) (o : Obj) (hgrow : (W.alloc o).grownBy w5 (some gk))
    (hown : w5.ownsRow 0 95 37 (.slice (some ⟨g5, 0, none⟩) (ns.length + 1) cap5) (ns.length + 1) (nsC ns ++ ndC n)) (hat : some gk = some g5 ∨ g5 = W.heap.size + 1) :
    ∃ gk' ck', ChAt (w5.setCell ⟨x, 8, none⟩ (.slice (some ⟨g5, 0, none⟩) (ns.length + 1) cap5)) x gk' ck' pv ps p acc (ns ++ [n]) past ∧ Fr (fun k => k = x ∨ k = gk ∨ pv.ownBlock = some k) W (w5.setCell ⟨x, 8, none⟩ (.slice (some ⟨g5, 0, none⟩) (ns.length + 1) cap5)) ∧ (gk' = gk ∨ W.heap.size ≤ gk') := by
  obtain ⟨hn1, hn2⟩ := h.ne
  obtain ⟨l1, l2, l3⟩ := h.lts
  have hF5 : Fr (fun b => b = gk) W w5 := ((Fr.refl _ W).alloc o).grown hgrow (by intro k e; simp at e; exact Or.inl e.symm)
  have hb5 : w5.heap[x]? = W.heap[x]? := hF5.block x l1 hn1
  have hg5 : g5 = gk ∨ W.heap.size ≤ g5 := by
    rcases hat with h | h
    · simp at h; exact Or.inl h.symm
    · exact Or.inr (by omega)
  have hxg : x ≠ g5 := by rcases hg5 with h | h; rw [h]; exact hn1; omega
  refine ⟨g5, cap5, ⟨?_, ?_, ?_⟩, (hF5.mono (by intro k _ h; exact Or.inr (Or.inl h))).setCell (Or.inl (Or.inl rfl)) _, hg5⟩
  · rw [heap_setCell_same w5 x 8 _ 66 _ (hb5.trans h.blk)]
    simp
  · have := ownsRow_setCell_other hown (a := ⟨x, 8, none⟩) (by simpa [Value.ownBlock] using Ne.symm hxg) (.slice (some ⟨g5, 0, none⟩) (ns.length + 1) cap5)
    rw [nsC_append, List.length_append]
    simpa [nsC] using this
  · exact ownsRow_setCell_other (row_fr h.pst hF5 (fun g e => by intro e2; subst e2; exact (hn2 _ e).2 rfl)) (fun e => (hn2 x (by simpa using e)).1 rfl) _

/-- The header's node. -/
def addN (acc : Int) (q : Nd) (h : Hdr) (g : Pg) : Nd := ⟨acc + 1, q.id, q.height + 1, h, g⟩

def appendNs (args : Array Value) : Sem Value := Builtin.append_ #[59, 59] 59 args
theorem appendNs_eq (args : Array Value) : Builtin.append_ #[59, 59] 59 args = appendNs args := rfl

attribute [local go_sem ↓] loadPg_eq buildNd_eq buildNs_eq appendNs_eq
attribute [local go_sem] run_loadPg run_buildNd run_buildNs

set_option maxHeartbeats 6400000 in
set_option maxRecDepth 1000000 in
theorem add_yes (x gk ck : Nat) (pv : Value) {ps : List Nat} (p : Par) (acc : Int) (ns : List Nd) (past : List Nat) (q : Nd) (h : Hdr) (g : Pg) (o : Nat) (w : World) (hr : ChAt w x gk ck pv ps p acc ns past) (hl : (ns.length : Int) < p.room) (hrm : p.room ≤ 40) (hl1 : 1 ≤ ns.length) (hl2 : past.length ≤ 100000) (hd1 : 1 ≤ p.depth) (hd2 : p.depth ≤ 8) (ho : (ns.getD 0 zeroN).id = (o : Int)) (ha0 : 0 ≤ acc) (ha1 : acc ≤ 1000000) (hq0 : 0 ≤ q.height) (hq1 : q.height ≤ 1000000) (hh : hasN ns q.id h = false) :
    Calls Tryz.prog 76 #[.pointer (some ⟨x, 5, none⟩), ndV q, hdrV h, pageV g] w fun e w' => e = .returned (.tuple #[.int .i64 (acc + 1), .int .i64 0]) ∧ Chd w w' x gk pv ps p (acc + 1) (setN (ns ++ [addN acc q h g]) past p.depth.toNat o) (setP (ns ++ [addN acc q h g]) past p.depth.toNat o) := by
  obtain ⟨i1, hj, hy0, hy1, hy2⟩ := info_parts Tryz.info95
  obtain ⟨a0, a1, a2, a3, a4, a5, a6⟩ := h
  show Calls Tryz.prog _ #[.pointer (some ⟨x, 5, none⟩), .agg (ndA q), .agg #[.int .i64 a0, .int .i64 a1, .int .i64 a2, .int .i64 a3, .int .i64 a4, .int .i64 a5, .int .i64 a6], .agg (pgA g)] w _
  go_enter Tryz.func76, Tryz.ntmps76
  go_upto_region 1 with fail
  generalize hA : ((w.alloc (.cells (ndA q) 95)).alloc (.cells #[.int .i64 a0, .int .i64 a1, .int .i64 a2, .int .i64 a3, .int .i64 a4, .int .i64 a5, .int .i64 a6] 40)).alloc (.cells (pgA g) 56) = A at *
  obtain ⟨hsA, hbA, kA0, kA1, kA2⟩ : w.heap.size + 3 ≤ A.heap.size ∧ Below w.heap.size w A ∧ A.heap[w.heap.size]? = some (.cells (ndA q) 95 (0, 0)) ∧ A.heap[w.heap.size + 1]? = some (.cells #[.int .i64 a0, .int .i64 a1, .int .i64 a2, .int .i64 a3, .int .i64 a4, .int .i64 a5, .int .i64 a6] 40 (0, 0)) ∧ A.heap[w.heap.size + 2]? = some (.cells (pgA g) 56 (0, 0)) := by
    subst hA
    exact blocks3 (Below.refl _ _)
  clear hA
  have hrA := hr.keep hbA
  have e0 : A.cell? ⟨w.heap.size, 0, none⟩ = some (.int .i64 q.id) := cell_of_cells (j := 0) kA0 rfl
  have f0 : A.cell? ⟨w.heap.size + 1, 0, none⟩ = some (.int .i64 a0) := cell_of_cells (j := 0) kA1 rfl
  have f1 : A.cell? ⟨w.heap.size + 1, 1, none⟩ = some (.int .i64 a1) := cell_of_cells (j := 1) kA1 rfl
  have f2 : A.cell? ⟨w.heap.size + 1, 2, none⟩ = some (.int .i64 a2) := cell_of_cells (j := 2) kA1 rfl
  have f3 : A.cell? ⟨w.heap.size + 1, 3, none⟩ = some (.int .i64 a3) := cell_of_cells (j := 3) kA1 rfl
  have f4 : A.cell? ⟨w.heap.size + 1, 4, none⟩ = some (.int .i64 a4) := cell_of_cells (j := 4) kA1 rfl
  have f5 : A.cell? ⟨w.heap.size + 1, 5, none⟩ = some (.int .i64 a5) := cell_of_cells (j := 5) kA1 rfl
  have f6 : A.cell? ⟨w.heap.size + 1, 6, none⟩ = some (.int .i64 a6) := cell_of_cells (j := 6) kA1 rfl
  go_wp2_with fail
  refine (twin_is x gk ck pv p acc ns past q.id ⟨a0, a1, a2, a3, a4, a5, a6⟩ A hrA (by omega)).mono ?_
  rintro r w1 ⟨rfl, hb1⟩
  rw [hh]
  generalize twinN ns q.id ⟨a0, a1, a2, a3, a4, a5, a6⟩ = TW at *
  have hs1 := hb1.size
  have hr1 := hrA.keep hb1
  have k0 : w1.heap[w.heap.size]? = _ := (hb1.block _ (by omega)).trans kA0
  have k1 : w1.heap[w.heap.size + 1]? = _ := (hb1.block _ (by omega)).trans kA1
  have k2 : w1.heap[w.heap.size + 2]? = _ := (hb1.block _ (by omega)).trans kA2
  have hbw := hbA.trans (hb1.mono (by omega))
  clear e0 f0 f1 f2 f3 f4 f5 f6 kA0 kA1 kA2 hrA hb1 hbA
  have c6 := cell_of_cells (j := 6) hr1.blk rfl
  have c7 := cell_of_cells (j := 7) hr1.blk rfl
  have c8 := cell_of_cells (j := 8) hr1.blk rfl
  have z7 := free_of_cells (j := 7) hr1.blk
  go_wp2
  go_quiet (fail)
  go_upto_region 7 with fail
  have hrW : ChAt ((w1.drewN nq).setCell ⟨x, 7, none⟩ (.int .i64 (acc + 1))) x gk ck pv ps p (acc + 1) ns past := (show ChAt (w1.drewN nq) x gk ck pv ps p acc ns past from ⟨hr1.blk, hr1.kep, hr1.pst⟩).acc
  have hxn := hr1.ne
  have hxl := hr.lts
  have j0 : ((w1.drewN nq).setCell ⟨x, 7, none⟩ (.int .i64 (acc + 1))).heap[w.heap.size]? = _ := (Below.heap_setCell _ _ _ _ (show w.heap.size ≠ x by omega)).trans k0
  have j1 : ((w1.drewN nq).setCell ⟨x, 7, none⟩ (.int .i64 (acc + 1))).heap[w.heap.size + 1]? = _ := (Below.heap_setCell _ _ _ _ (show w.heap.size + 1 ≠ x by omega)).trans k1
  have j2 : ((w1.drewN nq).setCell ⟨x, 7, none⟩ (.int .i64 (acc + 1))).heap[w.heap.size + 1 + 1]? = _ := (Below.heap_setCell _ _ _ _ (show w.heap.size + 2 ≠ x by omega)).trans k2
  have hfW : Fr (fun k => k = x ∨ k = gk ∨ pv.ownBlock = some k) w ((w1.drewN nq).setCell ⟨x, 7, none⟩ (.int .i64 (acc + 1))) := ((Fr.of_below hbw _ (fun k h1 h2 => by omega)).drewN nq).setCell (Or.inl (Or.inl rfl)) _
  generalize (w1.drewN nq).setCell ⟨x, 7, none⟩ (.int .i64 (acc + 1)) = W at *
  clear c6 c7 c8 z7 k0 k1 k2 hr1 hbw
  have hsW : w.heap.size + 3 ≤ W.heap.size := lt_of_block j2
  generalize hb0 : w.heap.size = b0 at *
  generalize hb1 : b0 + 1 = b1 at *
  generalize hb2 : b1 + 1 = b2 at *
  have c7 : W.cell? ⟨x, 7, none⟩ = some (.int .i64 (acc + 1)) := cell_of_cells (j := 7) hrW.blk rfl
  have c8 : W.cell? ⟨x, 8, none⟩ = some (.slice (some ⟨gk, 0, none⟩) ns.length ck) := cell_of_cells (j := 8) hrW.blk rfl
  have z8 := free_of_cells (j := 8) hrW.blk
  have e0 : W.cell? ⟨b0, 0, none⟩ = some (.int .i64 q.id) := cell_of_cells (j := 0) j0 rfl
  have e2 : W.cell? ⟨b0, 2, none⟩ = some (.int .i64 q.height) := cell_of_cells (j := 2) j0 rfl
  have f0 : W.cell? ⟨b1, 0, none⟩ = some (.int .i64 a0) := cell_of_cells (j := 0) j1 rfl
  have f1 : W.cell? ⟨b1, 1, none⟩ = some (.int .i64 a1) := cell_of_cells (j := 1) j1 rfl
  have f2 : W.cell? ⟨b1, 2, none⟩ = some (.int .i64 a2) := cell_of_cells (j := 2) j1 rfl
  have f3 : W.cell? ⟨b1, 3, none⟩ = some (.int .i64 a3) := cell_of_cells (j := 3) j1 rfl
  have f4 : W.cell? ⟨b1, 4, none⟩ = some (.int .i64 a4) := cell_of_cells (j := 4) j1 rfl
  have f5 : W.cell? ⟨b1, 5, none⟩ = some (.int .i64 a5) := cell_of_cells (j := 5) j1 rfl
  have f6 : W.cell? ⟨b1, 6, none⟩ = some (.int .i64 a6) := cell_of_cells (j := 6) j1 rfl
  have hrg : W.rangeAt b2 0 (pgA g).toList := fun j v hv => cell_of_cells (j := 0 + j) j2 (by simpa using hv)
  have huP : Tryz.prog.underlying 56 = _ := Tryz.underlying56
  have hiP : (Tryz.prog.info? 56).map (·.size) = some (pgA g).toList.length := info_page g
  generalize hqi : q.id = qi at *
  generalize hqh : q.height = qh at *
  have hwr : IntKind.i64.wrap (qh + 1) = qh + 1 := IntWalk.i64_in _ ⟨by omega, by omega⟩
  have po := page_at (w := W) (B := b2) (g := g) j2
  have pok := po.1
  have prd := po.2
  have pok2 : okP W.drew b2 0 27 = true := pok
  have prd2 : rdP W.drew b2 0 27 = pgA g := prd
  clear po
  clear hrg huP hiP
  have HJ := Go.Proofs.YtpaakikgfojplaaGreat.hid (And.intro j0 (And.intro j1 j2))
  have HRW := Go.Proofs.YtpaakikgfojplaaGreat.hid hrW
  have HFW := Go.Proofs.YtpaakikgfojplaaGreat.hid hfW
  clear j0 j1 j2 hrW hfW
  have hown1 := HRW.out.kep
  have hxW := HRW.out.lts.1
  have hgW := HRW.out.lts.2.1
  have h0W : b0 < W.heap.size := by omega
  have h1W : b1 < W.heap.size := by omega
  have h2W : b2 < W.heap.size := by omega
  have h0n : b0 ≠ gk := by omega
  have h1n : b1 ≠ gk := by omega
  have h2n : b2 ≠ gk := by omega
  have hx0 : x ≠ b0 := by omega
  have hx1 : x ≠ b1 := by omega
  have hx2 : x ≠ b2 := by omega
  have HOWN : Hid ((W.alloc (.cells (ndA ⟨acc + 1, qi, qh + 1, ⟨a0, a1, a2, a3, a4, a5, a6⟩, g⟩) 95)).drew.ownsRow 0 95 37 (.slice (some ⟨gk, 0, none⟩) ns.length ck) ns.length (nsC ns)) := hown1.alloc _
  have HNEWS : Hid (∀ j u, (ndC ⟨acc + 1, qi, qh + 1, ⟨a0, a1, a2, a3, a4, a5, a6⟩, g⟩)[j]? = some u → (W.alloc (.cells (ndA ⟨acc + 1, qi, qh + 1, ⟨a0, a1, a2, a3, a4, a5, a6⟩, g⟩) 95)).drew.cell? ((⟨W.heap.size, 0, none⟩ : Addr).add j) = some u) := World.news_of_block (w := (W.alloc (.cells (ndA ⟨acc + 1, qi, qh + 1, ⟨a0, a1, a2, a3, a4, a5, a6⟩, g⟩) 95)).drew) (cs := (ndA ⟨acc + 1, qi, qh + 1, ⟨a0, a1, a2, a3, a4, a5, a6⟩, g⟩)) (t := 95) (fr := (0, 0)) (heap_alloc_new W _)
  have HSZ : Hid ((W.alloc (.cells (ndA ⟨acc + 1, qi, qh + 1, ⟨a0, a1, a2, a3, a4, a5, a6⟩, g⟩) 95)).drew.heap.size = W.heap.size + 1) := by show (W.alloc _).heap.size = _; simp
  have HBS : Hid (0 ≤ (W.alloc (.cells (ndA ⟨acc + 1, qi, qh + 1, ⟨a0, a1, a2, a3, a4, a5, a6⟩, g⟩) 95)).drew.heap.size) := Nat.zero_le _
  have HML : Hid (ns.length + 1 ≤ maxLen) := by show _ ≤ _; unfold maxLen; omega
  have HBY : Hid ((ns.length + 1) * 296 ≤ 140737488355328) := by show _ ≤ _; omega
  obtain ⟨gq5, cap5, w5, hrun, hown5, hgrow5, hat5, hlt5⟩ := run_append_lies (P := Tryz.prog) (W.alloc (.cells (ndA ⟨acc + 1, qi, qh + 1, ⟨a0, a1, a2, a3, a4, a5, a6⟩, g⟩) 95)).drew 59 59 0 95 i1 (.agg (ndA zeroN)) 37 296 Tryz.underlying59 hj hy0 hy1 hy2 rfl (by decide) (.slice (some ⟨gk, 0, none⟩) ns.length ck) ns.length (nsC ns) HOWN.out ⟨W.heap.size, 0, none⟩ 1 1 (ndC ⟨acc + 1, qi, qh + 1, ⟨a0, a1, a2, a3, a4, a5, a6⟩, g⟩) rfl HNEWS.out (nd_oneL _) (by decide) HML.out HBY.out HBS.out (W.heap.size + 1) HSZ.out
  have hrun2 : (appendNs #[.slice (some ⟨gk, 0, none⟩) ns.length ck, .slice (some ⟨W.heap.size, 0, none⟩) 1 1]).run Tryz.prog (W.alloc (.cells (ndA ⟨acc + 1, qi, qh + 1, ⟨a0, a1, a2, a3, a4, a5, a6⟩, g⟩) 95)).drew = .ok (.slice (some ⟨gq5, 0, none⟩) (ns.length + 1) cap5) w5 := hrun
  have hg5 : (W.alloc (.cells (ndA ⟨acc + 1, qi, qh + 1, ⟨a0, a1, a2, a3, a4, a5, a6⟩, g⟩) 95)).grownBy w5 (Value.slice (some ⟨gk, 0, none⟩) ns.length ck).ownBlock := ⟨hgrow5.os, hgrow5.tape, hgrow5.output, hgrow5.size, hgrow5.block⟩
  have m8 := (far_cells hg5 x hxW hxn.1 8).trans c8
  have kz := (far_free hg5 x hxW hxn.1 8).trans z8
  have HPUT := Go.Proofs.YtpaakikgfojplaaGreat.hid (add_put HRW.out _ hg5 hown5 hat5)
  clear hrun hown5 hgrow5 hat5 hg5 HOWN HNEWS HSZ HBS HML HBY hown1
  go_cut [] (fun wx => ∃ gk' ck', ChAt wx x gk' ck' pv ps p (acc + 1) (ns ++ [⟨acc + 1, qi, qh + 1, ⟨a0, a1, a2, a3, a4, a5, a6⟩, g⟩]) past ∧ Fr (fun k => k = x ∨ k = gk ∨ pv.ownBlock = some k) W wx ∧ (gk' = gk ∨ W.heap.size ≤ gk'))
  case first =>
    go_region
    all_goals
      go_wp2
      go_meet
      case rel => exact HPUT.out
  case rest =>
    obtain ⟨gk1, ck1, hC1, hF1, hg1⟩ := hcut
    have hadd : addN acc q ⟨a0, a1, a2, a3, a4, a5, a6⟩ g = ⟨acc + 1, qi, qh + 1, ⟨a0, a1, a2, a3, a4, a5, a6⟩, g⟩ := by unfold addN; rw [hqi, hqh]
    have ho1 : ((ns ++ [(⟨acc + 1, qi, qh + 1, ⟨a0, a1, a2, a3, a4, a5, a6⟩, g⟩ : Nd)]).getD 0 zeroN).id = (o : Int) := by
      rw [← ho]
      cases ns with
      | nil => simp at hl1
      | cons a l => rfl
    have hlen : (ns ++ [(⟨acc + 1, qi, qh + 1, ⟨a0, a1, a2, a3, a4, a5, a6⟩, g⟩ : Nd)]).length ≤ 90 ∧ 1 ≤ (ns ++ [(⟨acc + 1, qi, qh + 1, ⟨a0, a1, a2, a3, a4, a5, a6⟩, g⟩ : Nd)]).length := by simp; omega
    have HFC := Go.Proofs.YtpaakikgfojplaaGreat.hid (HFW.out.trans' hF1 (fun i _ h => h))
    have HG1 := Go.Proofs.YtpaakikgfojplaaGreat.hid hg1
    have hsw := HFW.out.size
    clear pok prd pok2 prd2 hrun2 m8 kz HPUT c7 c8 z8 e0 e2 f0 f1 f2 f3 f4 f5 f6 hF1 hg1 HRW HJ HFW
    generalize hNS : ns ++ [(⟨acc + 1, qi, qh + 1, ⟨a0, a1, a2, a3, a4, a5, a6⟩, g⟩ : Nd)] = NS at *
    go_wp2_with fail
    refine (settle_is x gk1 ck1 pv p (acc + 1) NS past o wc hC1 hlen.1 hlen.2 hl2 hd1 hd2 ho1).mono ?_
    rintro e w8 ⟨rfl, hch⟩
    have HCH := Go.Proofs.YtpaakikgfojplaaGreat.hid hch
    obtain ⟨gk2, ck2, pv2, hC2, hF2, hg2, hp2⟩ := hch
    have c7 := cell_of_cells (j := 7) hC2.blk rfl
    clear hC2 hF2 hg2 hp2 hC1
    go_wp2
    go_ret2
    refine ⟨rfl, ?_⟩
    rw [hadd, hNS]
    exact Chd.trans HFC.out (by
      rcases HG1.out with h | h
      · exact Or.inl h
      · exact Or.inr (by omega)) (fun k e => Or.inl e) HCH.out

set_option maxHeartbeats 3200000 in
set_option maxRecDepth 1000000 in
theorem add_no (x gk ck : Nat) (pv : Value) {ps : List Nat} (p : Par) (acc : Int) (ns : List Nd) (past : List Nat) (q : Nd) (h : Hdr) (g : Pg) (w : World) (hr : ChAt w x gk ck pv ps p acc ns past) (hl : ns.length ≤ 90) (hno : hasN ns q.id h = true ∨ p.room ≤ ns.length) :
    Calls Tryz.prog 76 #[.pointer (some ⟨x, 5, none⟩), ndV q, hdrV h, pageV g] w fun e w' => e = .returned (.tuple #[.int .i64 (if hasN ns q.id h = true then twinN ns q.id h else 0), .int .i64 (if hasN ns q.id h = true then 10 else 11)]) ∧ Below w.heap.size w w' := by
  obtain ⟨a0, a1, a2, a3, a4, a5, a6⟩ := h
  show Calls Tryz.prog _ #[.pointer (some ⟨x, 5, none⟩), .agg (ndA q), .agg #[.int .i64 a0, .int .i64 a1, .int .i64 a2, .int .i64 a3, .int .i64 a4, .int .i64 a5, .int .i64 a6], .agg (pgA g)] w _
  have HER := Go.Proofs.YtpaakikgfojplaaGreat.hid (show (if hasN ns q.id ⟨a0, a1, a2, a3, a4, a5, a6⟩ = true then (10 : Int) else 11) = (if hasN ns q.id ⟨a0, a1, a2, a3, a4, a5, a6⟩ = true then (10 : Int) else 11) from rfl)
  generalize hER : (if hasN ns q.id ⟨a0, a1, a2, a3, a4, a5, a6⟩ = true then (10 : Int) else 11) = ER at *
  clear HER
  have HER := Go.Proofs.YtpaakikgfojplaaGreat.hid hER
  clear hER
  generalize hEI : (if hasN ns q.id ⟨a0, a1, a2, a3, a4, a5, a6⟩ = true then twinN ns q.id ⟨a0, a1, a2, a3, a4, a5, a6⟩ else 0) = EI at *
  have HEI := Go.Proofs.YtpaakikgfojplaaGreat.hid hEI
  clear hEI
  go_enter Tryz.func76, Tryz.ntmps76
  go_upto_region 1 with fail
  generalize hA : ((w.alloc (.cells (ndA q) 95)).alloc (.cells #[.int .i64 a0, .int .i64 a1, .int .i64 a2, .int .i64 a3, .int .i64 a4, .int .i64 a5, .int .i64 a6] 40)).alloc (.cells (pgA g) 56) = A at *
  obtain ⟨hsA, hbA, kA0, kA1, kA2⟩ : w.heap.size + 3 ≤ A.heap.size ∧ Below w.heap.size w A ∧ A.heap[w.heap.size]? = some (.cells (ndA q) 95 (0, 0)) ∧ A.heap[w.heap.size + 1]? = some (.cells #[.int .i64 a0, .int .i64 a1, .int .i64 a2, .int .i64 a3, .int .i64 a4, .int .i64 a5, .int .i64 a6] 40 (0, 0)) ∧ A.heap[w.heap.size + 2]? = some (.cells (pgA g) 56 (0, 0)) := by
    subst hA
    exact blocks3 (Below.refl _ _)
  clear hA
  have hrA := hr.keep hbA
  have e0 : A.cell? ⟨w.heap.size, 0, none⟩ = some (.int .i64 q.id) := cell_of_cells (j := 0) kA0 rfl
  have f0 : A.cell? ⟨w.heap.size + 1, 0, none⟩ = some (.int .i64 a0) := cell_of_cells (j := 0) kA1 rfl
  have f1 : A.cell? ⟨w.heap.size + 1, 1, none⟩ = some (.int .i64 a1) := cell_of_cells (j := 1) kA1 rfl
  have f2 : A.cell? ⟨w.heap.size + 1, 2, none⟩ = some (.int .i64 a2) := cell_of_cells (j := 2) kA1 rfl
  have f3 : A.cell? ⟨w.heap.size + 1, 3, none⟩ = some (.int .i64 a3) := cell_of_cells (j := 3) kA1 rfl
  have f4 : A.cell? ⟨w.heap.size + 1, 4, none⟩ = some (.int .i64 a4) := cell_of_cells (j := 4) kA1 rfl
  have f5 : A.cell? ⟨w.heap.size + 1, 5, none⟩ = some (.int .i64 a5) := cell_of_cells (j := 5) kA1 rfl
  have f6 : A.cell? ⟨w.heap.size + 1, 6, none⟩ = some (.int .i64 a6) := cell_of_cells (j := 6) kA1 rfl
  go_wp2_with fail
  refine (twin_is x gk ck pv p acc ns past q.id ⟨a0, a1, a2, a3, a4, a5, a6⟩ A hrA (by omega)).mono ?_
  rintro r w1 ⟨rfl, hb1⟩
  have hr1 := hrA.keep hb1
  have hbw := hbA.trans (hb1.mono (by omega))
  clear e0 f0 f1 f2 f3 f4 f5 f6 kA0 kA1 kA2 hrA hb1 hbA
  cases hh : hasN ns q.id ⟨a0, a1, a2, a3, a4, a5, a6⟩
  · have her : ER = 11 := by rw [← HER.out, hh]; rfl
    have hei : EI = 0 := by rw [← HEI.out, hh]; rfl
    have hroom : p.room ≤ ns.length := by
      rcases hno with h | h
      · rw [hh] at h; simp at h
      · exact h
    have c6 := cell_of_cells (j := 6) hr1.blk rfl
    have c8 := cell_of_cells (j := 8) hr1.blk rfl
    subst her
    subst hei
    clear hr1 HER HEI hno
    generalize twinN ns q.id ⟨a0, a1, a2, a3, a4, a5, a6⟩ = TW at *
    go_wp2
    go_quiet (fail)
    go_wp2
    go_ret2
    exact ⟨rfl, drawB hbw _⟩
  · have her : ER = 10 := by rw [← HER.out, hh]; rfl
    have hei : EI = twinN ns q.id ⟨a0, a1, a2, a3, a4, a5, a6⟩ := by rw [← HEI.out, hh]; rfl
    subst her
    rw [← hei]
    clear hr1 HER HEI hno hei
    go_wp2
    go_ret2
    exact ⟨rfl, hbw⟩

end Go.Proofs.YtpaakikgfojplaaGreat

