/-
  THE WALKS of beaconref: Turn (whole), there, refused.
-/
import Derived.Test.YtfpbkiknfkjpbaaRefTurn
namespace Go.Proofs.Ytfpbkiknfkjpbaa
open Go.RowKit Num Bk
set_option linter.unusedVariables false

theorem below_zero {w A : World} {cs : Array Value} {t : TypeId} (hA : w.alloc (.cells cs t) = A) : A.heap.size = w.heap.size + 1 ∧ Below w.heap.size w A ∧ A.heap[w.heap.size]? = some (.cells cs t (0, 0)) := by
  subst hA
  exact ⟨by simp, (Below.refl _ _).alloc (Nat.le_refl _) _, heap_alloc_new w _⟩

set_option maxHeartbeats 1600000 in
set_option maxRecDepth 1000000 in
theorem turn_no (x gs cs ga ca gk ck : Nat) (s : St) (id slot pool : Int) (w : World) (hr : RefAt w x gs cs ga ca gk ck s) (hv : Inv s) (he : turnErr s id slot pool ≠ 0) :
    Calls Try.prog 73 #[.pointer (some ⟨x, 0, none⟩), .int .i64 id, .int .i64 slot, .int .i64 pool] w fun e w' => e = .returned (.tuple #[.agg #[.int .i64 0, .int .i64 0, .int .i64 0, .bool false], .int .i64 (turnErr s id slot pool)]) ∧ Below w.heap.size w w' := by
  have hi := hv.wk
  have he' : turnErr s id slot pool = if missing s id ≠ 0 then missing s id else if slotOk s id.toNat slot = false then 4 else if poolOk s pool = false then 5 else 0 := rfl
  go_enter Try.func73, Try.ntmps73
  go_wp2_with fail
  refine (missing_any x gs cs ga ca gk ck s id _ (hr.keep ((Below.refl _ _).alloc (Nat.le_refl _) _)) hi).mono ?_
  rintro e w1 ⟨rfl, hb1⟩
  generalize hA : w.alloc (.cells #[.int .i64 0, .int .i64 0, .int .i64 0, .bool false] 50) = A at *
  obtain ⟨hsA, hbA, hAR⟩ := below_zero hA
  clear hA
  have hbw := hbA.trans (hb1.mono (by omega))
  have hr1 := hr.keep hbw
  have hR1 : w1.heap[w.heap.size]? = some (.cells #[.int .i64 0, .int .i64 0, .int .i64 0, .bool false] 50 (0, 0)) := by
    rw [hb1.block _ (by omega)]; exact hAR
  have r0 := cell_of_cells (j := 0) hR1 rfl
  have r1 := cell_of_cells (j := 1) hR1 rfl
  have r2 := cell_of_cells (j := 2) hR1 rfl
  have r3 := cell_of_cells (j := 3) hR1 rfl
  have q0 := free_of_cells (j := 0) hR1
  have q1 := free_of_cells (j := 1) hR1
  have q2 := free_of_cells (j := 2) hR1
  have q3 := free_of_cells (j := 3) hR1
  have HFB := Go.Proofs.Ytfpbkiknfkjpbaa.hid ((((hbw.setCell (p := ⟨w.heap.size, 0, none⟩) (by exact Nat.le_refl _) (.int .i64 0)).setCell (p := ⟨w.heap.size, 1, none⟩) (by exact Nat.le_refl _) (.int .i64 0)).setCell (p := ⟨w.heap.size, 2, none⟩) (by exact Nat.le_refl _) (.int .i64 0)).setCell (p := ⟨w.heap.size, 3, none⟩) (by exact Nat.le_refl _) (.bool false))
  by_cases hm : missing s id = 0
  · obtain ⟨k, hk, rfl⟩ := missing_zero hm
    have hkl := inv_lt hv hk
    rw [hm]
    rw [if_neg (by simp [hm]), Int.toNat_natCast] at he'
    clear hbA hAR hb1 hR1 hm hr
    go_wp2_with fail
    refine (slots_any x gs cs ga ca gk ck s k slot _ hr1 hi hkl).mono ?_
    rintro e w2 ⟨rfl, rfl⟩
    go_wp2_with fail
    refine (pool_any x gs cs ga ca gk ck s pool _ hr1).mono ?_
    rintro e w2 ⟨rfl, rfl⟩
    clear hr1
    cases hs : slotOk s k slot
    · rw [if_pos hs] at he'
      have HE := Go.Proofs.Ytfpbkiknfkjpbaa.hid he'
      clear he' hs he
      go_wp2
      refine bodyPost_ret (v := .tuple #[.agg #[.int .i64 0, .int .i64 0, .int .i64 0, .bool false], .int .i64 4]) (by simp [results, Try.results73, go_sem, r0, r1, r2, r3]) rfl ⟨by rw [HE.out], HFB.out⟩
    · rw [if_neg (by simp [hs])] at he'
      cases hp : poolOk s pool
      · rw [if_pos hp] at he'
        have HE := Go.Proofs.Ytfpbkiknfkjpbaa.hid he'
        clear he' hs he hp
        go_wp2
        refine bodyPost_ret (v := .tuple #[.agg #[.int .i64 0, .int .i64 0, .int .i64 0, .bool false], .int .i64 5]) (by simp [results, Try.results73, go_sem, r0, r1, r2, r3]) rfl ⟨by rw [HE.out], HFB.out⟩
      · rw [if_neg (by simp [hp])] at he'
        exact absurd he' he
  · rw [if_pos (by simpa using hm)] at he'
    have HE := Go.Proofs.Ytfpbkiknfkjpbaa.hid he'
    have hb : (missing s id != 0) = true := by simpa using hm
    clear he' he hr hr1 hbA hAR hb1 hR1
    generalize missing s id = mm at *
    go_wp2
    refine bodyPost_ret (v := .tuple #[.agg #[.int .i64 0, .int .i64 0, .int .i64 0, .bool false], .int .i64 mm]) (by simp [results, Try.results73, go_sem, r0, r1, r2, r3]) rfl ⟨by rw [HE.out], HFB.out⟩

theorem turn_ok {s : St} (hv : Inv s) {id slot pool : Int} (he : turnErr s id slot pool = 0) : ∃ k pN : Nat, id = (k : Int) ∧ pool = (pN : Int) ∧ k ∈ s.keep ∧ missing s id = 0 ∧ slotOk s k slot = true ∧ pN < s.par.stakes.length := by
  unfold turnErr at he
  by_cases hm : missing s id = 0
  · rw [if_neg (by simpa using hm)] at he
    obtain ⟨k, hk, rfl⟩ := missing_zero hm
    rw [Int.toNat_natCast] at he
    cases hs : slotOk s k slot
    · rw [if_pos hs] at he; omega
    · rw [if_neg (by simp [hs])] at he
      cases hp : poolOk s pool
      · rw [if_pos hp] at he; omega
      · simp [poolOk] at hp
        obtain ⟨pN, rfl⟩ := Int.eq_ofNat_of_zero_le hp.1
        exact ⟨k, pN, rfl, rfl, hk, hm, hs, by omega⟩
  · rw [if_pos (by simpa using hm)] at he; omega

theorem turn_any (x gs cs ga ca gk ck : Nat) (s : St) (id slot pool : Int) (w : World) (hr : RefAt w x gs cs ga ca gk ck s) (hv : Inv s) :
    Calls Try.prog 73 #[.pointer (some ⟨x, 0, none⟩), .int .i64 id, .int .i64 slot, .int .i64 pool] w fun e w' => e = .returned (.tuple #[turnV s id slot pool, .int .i64 (turnErr s id slot pool)]) ∧ Below w.heap.size w w' := by
  by_cases he : turnErr s id slot pool = 0
  · obtain ⟨k, pN, rfl, rfl, hk, hm, hs, hp⟩ := turn_ok hv he
    refine (turn_yes x gs cs ga ca gk ck s k slot pN w hr hv hm hk hs hp).mono ?_
    rintro e w' ⟨rfl, hb⟩
    refine ⟨?_, hb⟩
    unfold turnV
    rw [if_pos he, he, Int.toNat_natCast]
  · refine (turn_no x gs cs ga ca gk ck s id slot pool w hr hv he).mono ?_
    rintro e w' ⟨rfl, hb⟩
    refine ⟨?_, hb⟩
    unfold turnV
    rw [if_neg he]

end Go.Proofs.Ytfpbkiknfkjpbaa
