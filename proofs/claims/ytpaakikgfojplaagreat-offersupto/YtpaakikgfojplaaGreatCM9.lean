import Derived.Test.YtpaakikgfojplaaGreatCRefLine
import Derived.Deep.RegionHeld3
import Derived.Deep.DrawnRows
import Derived.Test.YtpaakikgfojplaaGreatCM7
/-
  THE WALKS of beaconref: Path, Final, missing, pool, slots; what goes with a header.
-/
namespace Go.Proofs.YtpaakikgfojplaaGreat
open Go.RowKit Num Bk
set_option linter.unusedVariables false

set_option maxHeartbeats 400000 in
theorem path_any (x gs cs ga ca gk ck : Nat) (s : St) (w : World) (hr : RefAt w x gs cs ga ca gk ck s) (hi : Wk s) :
    Calls Tryz.prog 39 #[.pointer (some ⟨x, 0, none⟩)] w fun e w' => ∃ g cap, e = .returned (.slice (some ⟨g, 0, none⟩) (line s.all (tip s)).length cap) ∧
      w'.ownsRow w.heap.size 3 1 (.slice (some ⟨g, 0, none⟩) (line s.all (tip s)).length cap) (line s.all (tip s)).length (dcells (line s.all (tip s))) ∧ Below w.heap.size w w' := by
  have ht := hi.klt _ hi.tip
  go_enter Tryz.func39, Tryz.ntmps39
  go_wp2_with fail
  refine (tip_any x gs cs ga ca gk ck s _ hr hi).mono ?_
  rintro e w1 ⟨rfl, hb⟩
  have hsz := hb.size
  go_wp2_with fail
  refine (line_any x gs cs ga ca gk ck s (tip s) _ (hr.keep hb) hi ht).mono ?_
  rintro e w2 ⟨g, cap, rfl, ho, hb2⟩
  have HO := Go.Proofs.YtpaakikgfojplaaGreat.hid ho
  have HB := Go.Proofs.YtpaakikgfojplaaGreat.hid (hb.trans (hb2.mono hsz))
  clear ho hb hb2
  go_wp2
  go_ret
  exact ⟨g, cap, rfl, row_weak HO.out hsz, HB.out⟩

set_option maxHeartbeats 800000 in
theorem final_any (x gs cs ga ca gk ck : Nat) (s : St) (w : World) (hr : RefAt w x gs cs ga ca gk ck s) (hi : Wk s) :
    Calls Tryz.prog 33 #[.pointer (some ⟨x, 0, none⟩)] w fun e w' => e = .returned (.int .i64 ((fin s : Nat) : Int)) ∧ Below w.heap.size w w' := by
  have ht := hi.klt _ hi.tip
  have hh := hi.hs _ ht
  have hl := line_length hi.tree (tip s)
  have d1 := hi.d1
  have d2 := hi.d2
  go_enter Tryz.func33, Tryz.ntmps33
  go_wp2_with fail
  refine (path_any x gs cs ga ca gk ck s _ hr hi).mono ?_
  rintro e w1 ⟨g, cap, rfl, ho, hb⟩
  have hr1 := hr.keep hb
  have c0 := cell_of_cells (j := 0) hr1.blk rfl
  by_cases hd : (height s.all (tip s) : Int) < s.par.depth
  · have hf : fin s = 0 := by unfold fin finOf; rw [if_pos hd]
    have HF := Go.Proofs.YtpaakikgfojplaaGreat.hid hf
    have hd' : ((((line s.all (tip s)).length : Nat) : Int)) ≤ s.par.depth := by rw [hl]; omega
    clear hf hr1 ho hl hr
    generalize (line s.all (tip s)).length = n at *
    go_wp2
    go_ret
    exact ⟨by rw [HF.out]; rfl, hb⟩
  · obtain ⟨dn, hdn⟩ : ∃ n : Nat, s.par.depth = (n : Int) := ⟨s.par.depth.toNat, by omega⟩
    have hdt : s.par.depth.toNat = dn := by omega
    have hf : fin s = (line s.all (tip s)).getD (height s.all (tip s) - dn) 0 := by unfold fin finOf; rw [if_neg hd, hdt]
    have c1 := (ho.cellAt (height s.all (tip s) - dn) (by omega)).trans (dcells_at _ _ (by omega))
    rw [← hf] at c1
    rw [hdn] at c0
    have e1 : height s.all (tip s) - dn + dn = height s.all (tip s) := by omega
    generalize height s.all (tip s) - dn = m at *
    have hlen : (line s.all (tip s)).length = m + dn + 1 := by omega
    rw [hlen]
    have hmb : m ≤ 20000 := by omega
    have hdb : dn ≤ 20000 := by omega
    have hd2 : 1 ≤ dn := by omega
    have i1 : (0 : Int) ≤ (m : Int) := by omega
    clear hf hl hr1 ho hr hlen hdt hd d1 d2 e1 hdn hh
    go_wp2
    go_ret
    exact ⟨rfl, hb⟩


set_option maxHeartbeats 800000 in
theorem missing_any (x gs cs ga ca gk ck : Nat) (s : St) (id : Int) (w : World) (hr : RefAt w x gs cs ga ca gk ck s) (hi : Wk s) :
    Calls Tryz.prog 53 #[.pointer (some ⟨x, 0, none⟩), .int .i64 id] w fun e w' => e = .returned (.int .i64 (missing s id)) ∧ Below w.heap.size w w' := by
  have kl := hi.kl
  have c8 := cell_of_cells (j := 8) hr.blk rfl
  go_enter Tryz.func53, Tryz.ntmps53
  go_wp2_with fail
  refine (in_any 0 gk ck s.keep id _ hr.kep (by omega)).mono ?_
  rintro e w1 ⟨rfl, rfl⟩
  cases hk : has s.keep id
  · go_wp2_with fail
    refine (final_any x gs cs ga ca gk ck s _ hr hi).mono ?_
    rintro e w1 ⟨rfl, hb⟩
    have hsz := hb.size
    go_wp2_with fail
    refine (line_any x gs cs ga ca gk ck s (fin s) _ (hr.keep hb) hi hi.fin_lt).mono ?_
    rintro e w2 ⟨g, cap, rfl, ho, hb2⟩
    have hll : (line s.all (fin s)).length ≤ 1000000 := by
      have := line_length hi.tree (fin s)
      have := hi.hs _ hi.fin_lt
      omega
    have HB := Go.Proofs.YtpaakikgfojplaaGreat.hid (hb.trans (hb2.mono hsz))
    clear hb hb2
    go_wp2_with fail
    refine (in_any _ g cap (line s.all (fin s)) id _ ho hll).mono ?_
    rintro e w3 ⟨rfl, rfl⟩
    have hm : missing s id = if has (line s.all (fin s)) id then 2 else 3 := by unfold missing; rw [hk]; rfl
    clear ho hk
    cases h2 : has (line s.all (fin s)) id
    · rw [h2] at hm
      have HM := Go.Proofs.YtpaakikgfojplaaGreat.hid hm
      clear hm h2
      go_wp2
      go_ret
      exact ⟨by rw [HM.out]; rfl, HB.out⟩
    · rw [h2] at hm
      have HM := Go.Proofs.YtpaakikgfojplaaGreat.hid hm
      clear hm h2
      go_wp2
      go_ret
      exact ⟨by rw [HM.out]; rfl, HB.out⟩
  · have HM := Go.Proofs.YtpaakikgfojplaaGreat.hid (show missing s id = 0 by unfold missing; rw [hk]; rfl)
    clear hk
    go_wp2
    go_ret
    exact ⟨by rw [HM.out]; rfl, Below.refl _ _⟩

set_option maxHeartbeats 400000 in
theorem pool_any (x gs cs ga ca gk ck : Nat) (s : St) (n : Int) (w : World) (hr : RefAt w x gs cs ga ca gk ck s) :
    Calls Tryz.prog 55 #[.pointer (some ⟨x, 0, none⟩), .int .i64 n] w fun e w' => e = .returned (.bool (poolOk s n)) ∧ w = w' := by
  have c6 := cell_of_cells (j := 6) hr.blk rfl
  have hp : poolOk s n = (decide (0 ≤ n) && decide (n < s.par.stakes.length)) := rfl
  have HP := Go.Proofs.YtpaakikgfojplaaGreat.hid hp
  clear hp hr
  by_cases h1 : 0 ≤ n
  · by_cases h2 : n < (s.par.stakes.length : Int)
    · go_enter Tryz.func55, Tryz.ntmps55
      go_wp2
      go_ret
      exact ⟨by rw [HP.out]; simp [h1, h2], rfl⟩
    · go_enter Tryz.func55, Tryz.ntmps55
      go_wp2
      go_ret
      exact ⟨by rw [HP.out]; simp [h2], rfl⟩
  · go_enter Tryz.func55, Tryz.ntmps55
    go_wp2
    go_ret
    exact ⟨by rw [HP.out]; simp; omega, rfl⟩

/-- A header's seven cells. -/
structure HdrAt (w : World) (g i : Nat) (h : Hdr) : Prop where
  c0 : w.cell? ⟨g, i * 8, none⟩ = some (.int .i64 h.slot)
  c1 : w.cell? ⟨g, i * 8 + 1, none⟩ = some (.int .i64 h.pool)
  c2 : w.cell? ⟨g, i * 8 + 2, none⟩ = some (.int .i64 h.proof)
  c3 : w.cell? ⟨g, i * 8 + 3, none⟩ = some (.int .i64 h.count)
  c4 : w.cell? ⟨g, i * 8 + 4, none⟩ = some (.int .i64 h.frm)
  c5 : w.cell? ⟨g, i * 8 + 5, none⟩ = some (.int .i64 h.dst)
  c6 : w.cell? ⟨g, i * 8 + 6, none⟩ = some (.int .i64 h.amount)

theorem RefAt.hdr_at {w : World} {x gs cs ga ca gk ck : Nat} {s : St} (h : RefAt w x gs cs ga ca gk ck s) {i : Nat} (hi : i < s.all.length) : HdrAt w ga i (hd s.all i) := by
  have key : ∀ j, j < 8 → w.cell? ⟨ga, i * 8 + j, none⟩ = (itcells (item s.all i))[j]? := fun j hj => by
    rw [h.all.cellAt _ (by omega), acells_at _ _ _ hi hj]
  exact ⟨key 0 (by omega), key 1 (by omega), key 2 (by omega), key 3 (by omega), key 4 (by omega), key 5 (by omega), key 6 (by omega)⟩

set_option maxHeartbeats 800000 in
theorem slots_any (x gs cs ga ca gk ck : Nat) (s : St) (id : Nat) (slot : Int) (w : World) (hr : RefAt w x gs cs ga ca gk ck s) (hi : Wk s) (hl : id < s.all.length) :
    Calls Tryz.prog 54 #[.pointer (some ⟨x, 0, none⟩), .int .i64 (id : Int), .int .i64 slot] w fun e w' => e = .returned (.bool (slotOk s id slot)) ∧ w = w' := by
  have c7 := cell_of_cells (j := 7) hr.blk rfl
  have h0 := (hr.hdr_at hl).c0
  have hsm := hi.small
  have HP := Go.Proofs.YtpaakikgfojplaaGreat.hid (show slotOk s id slot = (decide (0 ≤ slot) && decide (slot ≤ 10000) && (decide (id = 0) || decide ((hd s.all id).slot < slot))) from rfl)
  clear hr hi
  generalize (hd s.all id).slot = q at *
  by_cases h1 : slot < 0
  · go_enter Tryz.func54, Tryz.ntmps54
    go_wp2
    go_ret
    exact ⟨by rw [HP.out]; simp [show ¬ 0 ≤ slot by omega], rfl⟩
  · by_cases h2 : 10000 < slot
    · go_enter Tryz.func54, Tryz.ntmps54
      go_wp2
      go_ret
      exact ⟨by rw [HP.out]; simp [show ¬ slot ≤ 10000 by omega], rfl⟩
    · by_cases h3 : id = 0
      · subst h3
        go_enter Tryz.func54, Tryz.ntmps54
        go_wp2
        go_ret
        exact ⟨by rw [HP.out]; simp; omega, rfl⟩
      · have h3' : ((id : Int) == 0) = false := by rw [beq_eq_false_iff_ne]; omega
        by_cases h4 : q < slot
        · go_enter Tryz.func54, Tryz.ntmps54
          go_wp2
          go_ret
          exact ⟨by rw [HP.out]; simp [h4, show 0 ≤ slot by omega, show slot ≤ 10000 by omega], rfl⟩
        · go_enter Tryz.func54, Tryz.ntmps54
          go_wp2
          go_ret
          exact ⟨by rw [HP.out]; simp [h4, h3], rfl⟩

end Go.Proofs.YtpaakikgfojplaaGreat

/-
  The statements' book (package beaconkeep) in memory; line, has, tip, final, kept.
-/
namespace Go.Proofs.YtpaakikgfojplaaGreat
open Go.RowKit Num Bk
set_option linter.unusedVariables false

end Go.Proofs.YtpaakikgfojplaaGreat

/-
  THE WALKS of the statements' book: has, tip, final, kept, begins.
-/
namespace Go.Proofs.YtpaakikgfojplaaGreat
open Go.RowKit Num Bk
set_option linter.unusedVariables false

end Go.Proofs.YtpaakikgfojplaaGreat

/-
  THE WALKS of the statements' book: count, ahead, stake, running.
-/
namespace Go.Proofs.YtpaakikgfojplaaGreat
open Go.RowKit Num Bk
set_option linter.unusedVariables false

/-- A pool's stake behind a header. -/
def stakeOf (s : St) (id pN : Nat) : Int := (stakesAt s.par s.all id).getD pN 0

end Go.Proofs.YtpaakikgfojplaaGreat

