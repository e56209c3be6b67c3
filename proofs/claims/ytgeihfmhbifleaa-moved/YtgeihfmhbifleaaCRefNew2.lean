import Derived.Test.YtgeihfmhbifleaaCM19
/-
  THE WALKS of beaconref: New, Kept, Look.
-/
namespace Go.Proofs.Ytgeihfmhbifleaa
open Go.RowKit Num Bk
set_option linter.unusedVariables false

theorem StkAt.src {w : World} {so : Option Addr} {l : List Int} (h : StkAt w so l) : ∀ ad, so = some ad → ∀ j v, (icells l)[j]? = some v → w.cell? (ad.add j) = some v := by
  intro ad e j v hv
  have hj : j < l.length := by
    have := (List.getElem?_eq_some_iff.1 hv).1
    rwa [icells_length] at this
  obtain ⟨g, off, e', hc⟩ := h j hj
  rw [e] at e'
  simp at e'
  subst e'
  rw [Addr.add_lit, hc]
  rw [icells_at l j hj] at hv
  exact hv

theorem StkAt.keep {w w' : World} {so : Option Addr} {l : List Int} (h : StkAt w so l) (hb : Below w.heap.size w w') : StkAt w' so l := by
  intro j hj
  obtain ⟨g, off, e', hc⟩ := h j hj
  refine ⟨g, off, e', ?_⟩
  rw [hb.cell (p := ⟨g, off + j, none⟩) (World.block_lt_of_cell? w _ hc)]
  exact hc

set_option maxHeartbeats 1600000 in
set_option maxRecDepth 1000000 in
theorem new_no (p : Par) (so : Option Addr) (c : Nat) (w : World) (hs : StkAt w so p.stakes) (hn : parB p = false) :
    Calls Try.prog 64 #[parV p so c] w fun e w' => e = .returned (.tuple #[.pointer none, .int .i64 1]) ∧ Below w.heap.size w w' := by
  unfold parV
  go_enter Try.func64, Try.ntmps64
  go_wp2_with fail
  have hb0 : Below w.heap.size w (w.alloc (.cells #[.int .i64 p.depth, .int .i64 p.epoch, .int .i64 p.room, .int .i64 p.a, .int .i64 p.b, .int .i64 p.nonce, .slice so p.stakes.length c] 31)) := (Below.refl _ _).alloc (Nat.le_refl _) _
  refine (may_any p so c _ (hs.keep hb0)).mono ?_
  rintro e w1 ⟨rfl, hb1⟩
  rw [hn]
  have HB := Go.Proofs.Ytgeihfmhbifleaa.hid (hb0.trans (hb1.mono (by simp)))
  clear hb0 hb1
  go_wp2
  go_ret2
  exact ⟨rfl, HB.out⟩

set_option maxHeartbeats 3200000 in
set_option maxRecDepth 1000000 in
theorem new_yes (p : Par) (so : Option Addr) (c : Nat) (w : World) (hs : StkAt w so p.stakes) (hn : parB p = true) :
    Calls Try.prog 64 #[parV p so c] w fun e w' => ∃ x gs cs ga ca gk ck, e = .returned (.tuple #[.pointer (some ⟨x, 0, none⟩), .int .i64 0]) ∧ RefAt w' x gs cs ga ca gk ck (Bk.start p) ∧ Below w.heap.size w w' ∧ w.heap.size ≤ x ∧ w.heap.size ≤ gs ∧ w.heap.size ≤ ga ∧ w.heap.size ≤ gk := by
  have hok := (parB_iff p).1 hn
  have l1 := hok.l1
  have l2 := hok.l2
  unfold parV
  go_enter Try.func64, Try.ntmps64
  go_wp2_with fail
  generalize hA : w.alloc (.cells #[.int .i64 p.depth, .int .i64 p.epoch, .int .i64 p.room, .int .i64 p.a, .int .i64 p.b, .int .i64 p.nonce, .slice so p.stakes.length c] 31) = A at *
  obtain ⟨hsA, hbA, hAR⟩ := below_zero hA
  clear hA
  refine (may_any p so c _ (hs.keep hbA)).mono ?_
  rintro e w1 ⟨rfl, hb1⟩
  rw [hn]
  have hs1 := hb1.size
  have hR1 : w1.heap[w.heap.size]? = some (.cells #[.int .i64 p.depth, .int .i64 p.epoch, .int .i64 p.room, .int .i64 p.a, .int .i64 p.b, .int .i64 p.nonce, .slice so p.stakes.length c] 31 (0, 0)) := by
    rw [hb1.block _ (by omega)]; exact hAR
  have hbw := hbA.trans (hb1.mono (by omega))
  have c6 := cell_of_cells (j := 6) hR1 rfl
  have hsrc := (hs.keep hbw).src
  have hnone : so = none → p.stakes.length = 0 := by
    intro e
    obtain ⟨g, off, e', _⟩ := hs 0 (by omega)
    rw [e] at e'; cases e'
  clear hb1 hbA hAR
  go_wp2_with fail
  refine (copied_any so p.stakes.length c p.stakes _ rfl hnone hsrc (by omega)).mono ?_
  rintro e w2 ⟨g, rfl, ho, hb2⟩
  have hs2 := hb2.size
  have hR2 : w2.heap[w.heap.size]? = some (.cells #[.int .i64 p.depth, .int .i64 p.epoch, .int .i64 p.room, .int .i64 p.a, .int .i64 p.b, .int .i64 p.nonce, .slice so p.stakes.length c] 31 (0, 0)) := by
    rw [hb2.block _ (by omega)]; exact hR1
  have hbw2 := hbw.trans (hb2.mono (by omega))
  have hgl := ho.lt g rfl
  have r0 := cell_of_cells (j := 0) hR2 rfl
  have r1 := cell_of_cells (j := 1) hR2 rfl
  have r2 := cell_of_cells (j := 2) hR2 rfl
  have r3 := cell_of_cells (j := 3) hR2 rfl
  have r4 := cell_of_cells (j := 4) hR2 rfl
  have r5 := cell_of_cells (j := 5) hR2 rfl
  have r6 := cell_of_cells (j := 6) hR2 rfl
  have f6 := free_of_cells (j := 6) hR2
  have hxg : g ≠ w.heap.size := by omega
  have hos : (w2.setCell ⟨w.heap.size, 6, none⟩ (.slice (some ⟨g, 0, none⟩) p.stakes.length p.stakes.length)).ownsRow 0 3 1 (.slice (some ⟨g, 0, none⟩) p.stakes.length p.stakes.length) p.stakes.length (icells p.stakes) :=
    ownsRow_setCell_other (row_weak ho (Nat.zero_le _)) (by simpa [Value.ownBlock] using hxg) _
  have HB := Go.Proofs.Ytgeihfmhbifleaa.hid (hbw2.setCell (p := ⟨w.heap.size, 6, none⟩) (by exact Nat.le_refl _) (.slice (some ⟨g, 0, none⟩) p.stakes.length p.stakes.length))
  have HOS := Go.Proofs.Ytgeihfmhbifleaa.hid hos
  have HSW := Go.Proofs.Ytgeihfmhbifleaa.hid (show (w2.setCell ⟨w.heap.size, 6, none⟩ (.slice (some ⟨g, 0, none⟩) p.stakes.length p.stakes.length)).heap.size = w2.heap.size by simp [World.setCell])
  clear hb2 hbw hR1 c6 hos ho hsrc
  go_wp2
  go_ret2
  generalize w2.setCell ⟨w.heap.size, 6, none⟩ (.slice (some ⟨g, 0, none⟩) p.stakes.length p.stakes.length) = W at *
  have hsW : W.heap.size = w2.heap.size := HSW.out
  refine ⟨w2.heap.size + 1 + 1, g, p.stakes.length, w2.heap.size, 1, w2.heap.size + 1, 1, rfl, ⟨?_, ?_, ?_, ?_, by omega⟩, ?_, by omega, by have := hgl.1; omega, by omega, by omega⟩
  · have := heap_alloc_new ((W.alloc (.cells #[.int .i64 0, .int .i64 0, .int .i64 0, .int .i64 0, .int .i64 0, .int .i64 0, .int .i64 0, .int .i64 0] 132)).alloc (.cells #[.int .i64 0] 3)) (.cells #[.int .i64 p.depth, .int .i64 p.epoch, .int .i64 p.room, .int .i64 p.a, .int .i64 p.b, .int .i64 p.nonce, .slice (some ⟨g, 0, none⟩) p.stakes.length p.stakes.length, .slice (some ⟨w2.heap.size, 0, none⟩) 1 1, .slice (some ⟨w2.heap.size + 1, 0, none⟩) 1 1, .int .i64 0, .int .i64 0, .int .i64 0, .int .i64 0] 136)
    simp only [World.size_alloc, hsW] at this
    exact this
  · exact ((HOS.out.alloc _).alloc _).alloc _
  · have h := World.ownsRow_lit (base := 0) (e := 132) (size := 8) W #[.int .i64 0, .int .i64 0, .int .i64 0, .int .i64 0, .int .i64 0, .int .i64 0, .int .i64 0, .int .i64 0] 1 (Nat.zero_le _) (by unfold maxLen; omega) rfl
    rw [hsW] at h
    exact (h.alloc _).alloc _
  · have h := World.ownsRow_lit (base := 0) (e := 3) (size := 1) (W.alloc (.cells #[.int .i64 0, .int .i64 0, .int .i64 0, .int .i64 0, .int .i64 0, .int .i64 0, .int .i64 0, .int .i64 0] 132)) #[.int .i64 0] 1 (Nat.zero_le _) (by unfold maxLen; omega) rfl
    simp only [World.size_alloc, hsW] at h
    exact h.alloc _
  · exact ((HB.out.alloc (by omega) _).alloc (by simp; omega) _).alloc (by simp; omega) _

theorem dcells_icells (l : List Nat) : dcells l = icells (l.map fun (n : Nat) => (n : Int)) := by simp [dcells, icells]

set_option maxHeartbeats 400000 in
theorem kept_any (x gs cs ga ca gk ck : Nat) (s : St) (w : World) (hr : RefAt w x gs cs ga ca gk ck s) (hi : Wk s) :
    Calls Try.prog 97 #[.pointer (some ⟨x, 0, none⟩)] w fun e w' => ∃ g, e = .returned (.slice (some ⟨g, 0, none⟩) s.keep.length s.keep.length) ∧ w'.ownsRow w.heap.size 3 1 (.slice (some ⟨g, 0, none⟩) s.keep.length s.keep.length) s.keep.length (dcells s.keep) ∧ Below w.heap.size w w' := by
  have c8 := cell_of_cells (j := 8) hr.blk rfl
  have kl := hi.kl
  have hsrc : ∀ ad, some (⟨gk, 0, none⟩ : Addr) = some ad → ∀ j v, (icells (s.keep.map fun (n : Nat) => (n : Int)))[j]? = some v → w.cell? (ad.add j) = some v := by
    intro ad e j v hv
    simp at e
    subst e
    rw [← dcells_icells] at hv
    exact hr.kep.cells rfl j v hv
  go_enter Try.func97, Try.ntmps97
  go_wp2_with fail
  refine (copied_any (some ⟨gk, 0, none⟩) s.keep.length ck (s.keep.map fun (n : Nat) => (n : Int)) _ (by simp) (by intro e; cases e) hsrc (by omega)).mono ?_
  rintro e w2 ⟨g, rfl, ho, hb2⟩
  rw [← dcells_icells] at ho
  have HO := Go.Proofs.Ytgeihfmhbifleaa.hid ho
  clear ho hsrc c8
  go_wp2
  go_ret
  exact ⟨g, rfl, HO.out, hb2⟩

def lookV (s : St) (id : Int) : Value :=
  if missing s id = 0 then .agg #[.int .i64 (hd s.all id.toNat).slot, .int .i64 (hd s.all id.toNat).pool, .int .i64 (hd s.all id.toNat).proof, .int .i64 (hd s.all id.toNat).count, .int .i64 (hd s.all id.toNat).frm, .int .i64 (hd s.all id.toNat).dst, .int .i64 (hd s.all id.toNat).amount, .int .i64 (pa s.all id.toNat : Nat), .int .i64 (height s.all id.toNat : Nat)]
  else .agg #[.int .i64 0, .int .i64 0, .int .i64 0, .int .i64 0, .int .i64 0, .int .i64 0, .int .i64 0, .int .i64 0, .int .i64 0]

end Go.Proofs.Ytgeihfmhbifleaa

