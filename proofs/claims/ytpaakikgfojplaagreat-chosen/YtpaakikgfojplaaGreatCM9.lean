import Derived.Test.YtpaakikgfojplaaGreatCRefTurn
/-
  THE WALKS of beaconref: Turn (whole), there, refused.
-/
namespace Go.Proofs.YtpaakikgfojplaaGreat
open Go.RowKit Num Bk
set_option linter.unusedVariables false

theorem below_zero {w A : World} {cs : Array Value} {t : TypeId} (hA : w.alloc (.cells cs t) = A) : A.heap.size = w.heap.size + 1 ∧ Below w.heap.size w A ∧ A.heap[w.heap.size]? = some (.cells cs t (0, 0)) := by
  subst hA
  exact ⟨by simp, (Below.refl _ _).alloc (Nat.le_refl _) _, heap_alloc_new w _⟩

set_option maxHeartbeats 1600000 in
set_option maxRecDepth 1000000 in
theorem turn_no (x gs cs ga ca gk ck : Nat) (s : St) (id slot pool : Int) (w : World) (hr : RefAt w x gs cs ga ca gk ck s) (hv : Inv s) (he : turnErr s id slot pool ≠ 0) :
    Calls Tryz.prog 23 #[.pointer (some ⟨x, 0, none⟩), .int .i64 id, .int .i64 slot, .int .i64 pool] w fun e w' => e = .returned (.tuple #[.agg #[.int .i64 0, .int .i64 0, .int .i64 0, .bool false], .int .i64 (turnErr s id slot pool)]) ∧ Below w.heap.size w w' := by
  have hi := hv.wk
  have he' : turnErr s id slot pool = if missing s id ≠ 0 then missing s id else if slotOk s id.toNat slot = false then 4 else if poolOk s pool = false then 5 else 0 := rfl
  go_enter Tryz.func23, Tryz.ntmps23
  go_wp2_with fail
  refine (missing_any x gs cs ga ca gk ck s id _ (hr.keep ((Below.refl _ _).alloc (Nat.le_refl _) _)) hi).mono ?_
  rintro e w1 ⟨rfl, hb1⟩
  generalize hA : w.alloc (.cells #[.int .i64 0, .int .i64 0, .int .i64 0, .bool false] 77) = A at *
  obtain ⟨hsA, hbA, hAR⟩ := below_zero hA
  clear hA
  have hbw := hbA.trans (hb1.mono (by omega))
  have hr1 := hr.keep hbw
  have hR1 : w1.heap[w.heap.size]? = some (.cells #[.int .i64 0, .int .i64 0, .int .i64 0, .bool false] 77 (0, 0)) := by
    rw [hb1.block _ (by omega)]; exact hAR
  have r0 := cell_of_cells (j := 0) hR1 rfl
  have r1 := cell_of_cells (j := 1) hR1 rfl
  have r2 := cell_of_cells (j := 2) hR1 rfl
  have r3 := cell_of_cells (j := 3) hR1 rfl
  have q0 := free_of_cells (j := 0) hR1
  have q1 := free_of_cells (j := 1) hR1
  have q2 := free_of_cells (j := 2) hR1
  have q3 := free_of_cells (j := 3) hR1
  have HFB := Go.Proofs.YtpaakikgfojplaaGreat.hid ((((hbw.setCell (p := ⟨w.heap.size, 0, none⟩) (by exact Nat.le_refl _) (.int .i64 0)).setCell (p := ⟨w.heap.size, 1, none⟩) (by exact Nat.le_refl _) (.int .i64 0)).setCell (p := ⟨w.heap.size, 2, none⟩) (by exact Nat.le_refl _) (.int .i64 0)).setCell (p := ⟨w.heap.size, 3, none⟩) (by exact Nat.le_refl _) (.bool false))
  by_cases hm : missing s id = 0
  · obtain ⟨k, hk, rfl⟩ := missing_zero hm
    have hkl := inv_lt hv hk
    rw [hm]
    rw [if_neg (by simp [hm]), Int.toNat_natCast] at he'
    clear hbA hAR hb1 hR1 hm hr
    go_wp2_with fail
    refine (slots_any x gs cs ga ca gk ck s k slot _ hr1 hi hkl).mono ?_
    rintro e w2 ⟨rfl, rfl⟩
    go_wp2_with fail
    refine (pool_any x gs cs ga ca gk ck s pool _ hr1).mono ?_
    rintro e w2 ⟨rfl, rfl⟩
    clear hr1
    cases hs : slotOk s k slot
    · rw [if_pos hs] at he'
      have HE := Go.Proofs.YtpaakikgfojplaaGreat.hid he'
      clear he' hs he
      go_wp2
      refine bodyPost_ret (v := .tuple #[.agg #[.int .i64 0, .int .i64 0, .int .i64 0, .bool false], .int .i64 4]) (by simp [results, Tryz.results23, go_sem, r0, r1, r2, r3]) rfl ⟨by rw [HE.out], HFB.out⟩
    · rw [if_neg (by simp [hs])] at he'
      cases hp : poolOk s pool
      · rw [if_pos hp] at he'
        have HE := Go.Proofs.YtpaakikgfojplaaGreat.hid he'
        clear he' hs he hp
        go_wp2
        refine bodyPost_ret (v := .tuple #[.agg #[.int .i64 0, .int .i64 0, .int .i64 0, .bool false], .int .i64 5]) (by simp [results, Tryz.results23, go_sem, r0, r1, r2, r3]) rfl ⟨by rw [HE.out], HFB.out⟩
      · rw [if_neg (by simp [hp])] at he'
        exact absurd he' he
  · rw [if_pos (by simpa using hm)] at he'
    have HE := Go.Proofs.YtpaakikgfojplaaGreat.hid he'
    have hb : (missing s id != 0) = true := by simpa using hm
    clear he' he hr hr1 hbA hAR hb1 hR1
    generalize missing s id = mm at *
    go_wp2
    refine bodyPost_ret (v := .tuple #[.agg #[.int .i64 0, .int .i64 0, .int .i64 0, .bool false], .int .i64 mm]) (by simp [results, Tryz.results23, go_sem, r0, r1, r2, r3]) rfl ⟨by rw [HE.out], HFB.out⟩

theorem turn_ok {s : St} (hv : Inv s) {id slot pool : Int} (he : turnErr s id slot pool = 0) : ∃ k pN : Nat, id = (k : Int) ∧ pool = (pN : Int) ∧ k ∈ s.keep ∧ missing s id = 0 ∧ slotOk s k slot = true ∧ pN < s.par.stakes.length := by
  unfold turnErr at he
  by_cases hm : missing s id = 0
  · rw [if_neg (by simpa using hm)] at he
    obtain ⟨k, hk, rfl⟩ := missing_zero hm
    rw [Int.toNat_natCast] at he
    cases hs : slotOk s k slot
    · rw [if_pos hs] at he; omega
    · rw [if_neg (by simp [hs])] at he
      cases hp : poolOk s pool
      · rw [if_pos hp] at he; omega
      · simp [poolOk] at hp
        obtain ⟨pN, rfl⟩ := Int.eq_ofNat_of_zero_le hp.1
        exact ⟨k, pN, rfl, rfl, hk, hm, hs, by omega⟩
  · rw [if_pos (by simpa using hm)] at he; omega

theorem turn_any (x gs cs ga ca gk ck : Nat) (s : St) (id slot pool : Int) (w : World) (hr : RefAt w x gs cs ga ca gk ck s) (hv : Inv s) :
    Calls Tryz.prog 23 #[.pointer (some ⟨x, 0, none⟩), .int .i64 id, .int .i64 slot, .int .i64 pool] w fun e w' => e = .returned (.tuple #[turnV s id slot pool, .int .i64 (turnErr s id slot pool)]) ∧ Below w.heap.size w w' := by
  by_cases he : turnErr s id slot pool = 0
  · obtain ⟨k, pN, rfl, rfl, hk, hm, hs, hp⟩ := turn_ok hv he
    refine (turn_yes x gs cs ga ca gk ck s k slot pN w hr hv hm hk hs hp).mono ?_
    rintro e w' ⟨rfl, hb⟩
    refine ⟨?_, hb⟩
    unfold turnV
    rw [if_pos he, he, Int.toNat_natCast]
  · refine (turn_no x gs cs ga ca gk ck s id slot pool w hr hv he).mono ?_
    rintro e w' ⟨rfl, hb⟩
    refine ⟨?_, hb⟩
    unfold turnV
    rw [if_neg he]

end Go.Proofs.YtpaakikgfojplaaGreat

/-
  Two headers compared, as one operation.
-/
namespace Go.Proofs.YtpaakikgfojplaaGreat
open Go.RowKit Num Bk

theorem run_eql_hdr (w : World) (b0 b1 b2 b3 b4 b5 b6 a0 a1 a2 a3 a4 a5 a6 : Int) :
    (binOp .eql 40 (.agg #[.int .i64 b0, .int .i64 b1, .int .i64 b2, .int .i64 b3, .int .i64 b4, .int .i64 b5, .int .i64 b6]) (.agg #[.int .i64 a0, .int .i64 a1, .int .i64 a2, .int .i64 a3, .int .i64 a4, .int .i64 a5, .int .i64 a6])).run Tryz.prog w =
      .ok (.bool (eqH ⟨b0, b1, b2, b3, b4, b5, b6⟩ ⟨a0, a1, a2, a3, a4, a5, a6⟩)) w := by
  go_simp
  unfold eqH
  (repeat' split) <;> simp_all
end Go.Proofs.YtpaakikgfojplaaGreat

/-
  THE WALKS of beaconref: there.
-/
namespace Go.Proofs.YtpaakikgfojplaaGreat
open Go.RowKit Num Bk
set_option linter.unusedVariables false
attribute [local go_sem ↓] run_eql_hdr

def hdrV (h : Hdr) : Value := .agg #[.int .i64 h.slot, .int .i64 h.pool, .int .i64 h.proof, .int .i64 h.count, .int .i64 h.frm, .int .i64 h.dst, .int .i64 h.amount]

/-- Is k the header with this parent that is the same in all? -/
def isIt (s : St) (parent : Int) (h : Hdr) (k : Nat) : Bool := decide (0 < k) && ((pa s.all k : Int) == parent) && eqH (hd s.all k) h

theorem there_eq (s : St) (parent : Int) (h : Hdr) : there s parent h = (s.keep.find? (isIt s parent h)).getD 0 := rfl

theorem find_take (P : Nat → Bool) (l : List Nat) (k : Nat) (h : k < l.length) : (l.take (k + 1)).find? P = (((l.take k).find? P).or (if P (l.getD k 0) then some (l.getD k 0) else none)) := by
  rw [take_succ_getD l k h, List.find?_append]
  simp only [List.find?_cons, List.find?_nil]
  cases P (l.getD k 0) <;> rfl

theorem find_some_take (P : Nat → Bool) (l : List Nat) (k v : Nat) (h : (l.take k).find? P = some v) : l.find? P = some v := by
  have e : l = l.take k ++ l.drop k := (List.take_append_drop k l).symm
  rw [e, List.find?_append, h]; rfl

set_option maxHeartbeats 3200000 in
set_option maxRecDepth 1000000 in
theorem there_any (x gs cs ga ca gk ck : Nat) (s : St) (parent : Int) (h : Hdr) (w : World) (hr : RefAt w x gs cs ga ca gk ck s) (hi : Wk s) :
    Calls Tryz.prog 74 #[.pointer (some ⟨x, 0, none⟩), .int .i64 parent, hdrV h] w fun e w' => e = .returned (.int .i64 ((there s parent h : Nat) : Int)) ∧ Below w.heap.size w w' := by
  have hkl := hi.kl
  have hsm := hi.small
  obtain ⟨a0, a1, a2, a3, a4, a5, a6⟩ := h
  have HT := Go.Proofs.YtpaakikgfojplaaGreat.hid (there_eq s parent ⟨a0, a1, a2, a3, a4, a5, a6⟩)
  have HP := Go.Proofs.YtpaakikgfojplaaGreat.hid (fun k => show isIt s parent ⟨a0, a1, a2, a3, a4, a5, a6⟩ k = (decide (0 < k) && ((pa s.all k : Int) == parent) && eqH (hd s.all k) ⟨a0, a1, a2, a3, a4, a5, a6⟩) from rfl)
  generalize isIt s parent ⟨a0, a1, a2, a3, a4, a5, a6⟩ = P at *
  unfold hdrV
  go_enter Tryz.func74, Tryz.ntmps74
  go_wp2
  generalize hA : w.alloc (.cells #[.int .i64 a0, .int .i64 a1, .int .i64 a2, .int .i64 a3, .int .i64 a4, .int .i64 a5, .int .i64 a6] 40) = A at *
  obtain ⟨hsA, hbA, hAR⟩ := below_zero hA
  clear hA
  have hrA := hr.keep hbA
  clear hr
  go_loopw [7] (fun i wr => ∃ k : Nat, k ≤ s.keep.length ∧ i = .int .i64 k ∧ Hid ((s.keep.take k).find? P = none) ∧ Below A.heap.size A wr)
    (fun i _ => s.keep.length - (intOf i).toNat)
  case atStart => exact ⟨0, Nat.zero_le _, rfl, by unfold Hid; simp, Below.refl _ _⟩
  case round =>
    obtain ⟨k, hk, rfl, HN, hbel⟩ := hrel
    have hrr := hrA.keep hbel
    have hsz := hbel.size
    have c8 := cell_of_cells (j := 8) hrr.blk rfl
    by_cases hlt : k < s.keep.length
    · have c7 := cell_of_cells (j := 7) hrr.blk rfl
      have ck2 := hrr.keep_at hlt
      have hft := find_take P s.keep k hlt
      have hdm : s.keep.getD k 0 ∈ s.keep := by
        rw [show s.keep.getD k 0 = s.keep[k] from by simp [List.getD, hlt]]
        exact List.getElem_mem hlt
      have hdl := hi.klt _ hdm
      have hPd := HP.out (s.keep.getD k 0)
      rw [HN.out] at hft
      have hc := hrr.hdr_at hdl
      have hpar := hrr.par_at hdl
      have hlts := hrr.lts
      have hA1 : wr.heap[w.heap.size]? = some (.cells #[.int .i64 a0, .int .i64 a1, .int .i64 a2, .int .i64 a3, .int .i64 a4, .int .i64 a5, .int .i64 a6] 40 (0, 0)) := by
        rw [hbel.block _ (by omega)]; exact hAR
      have p0 := cell_of_cells (j := 0) hA1 rfl
      have p1 := cell_of_cells (j := 1) hA1 rfl
      have p2 := cell_of_cells (j := 2) hA1 rfl
      have p3 := cell_of_cells (j := 3) hA1 rfl
      have p4 := cell_of_cells (j := 4) hA1 rfl
      have p5 := cell_of_cells (j := 5) hA1 rfl
      have p6 := cell_of_cells (j := 6) hA1 rfl
      have HFT := Go.Proofs.YtpaakikgfojplaaGreat.hid hft
      clear hft HN hdm
      generalize s.keep.getD k 0 = d at *
      have h0 := hc.c0
      have h1 := hc.c1
      have h2 := hc.c2
      have h3 := hc.c3
      have h4 := hc.c4
      have h5 := hc.c5
      have h6 := hc.c6
      generalize hd s.all d = H at *
      generalize pa s.all d = pd at *
      obtain ⟨b0, b1, b2, b3, b4, b5, b6⟩ := H
      simp only at *
      have i1 : (0 : Int) ≤ (k : Int) := by omega
      have i2 : (k : Int) < ((s.keep.length : Nat) : Int) := by omega
      have i3 : (0 : Int) ≤ (d : Int) := by omega
      have i4 : (d : Int) < ((s.all.length : Nat) : Int) := by omega
      have hwl : w.heap.size < wr.heap.size := by omega
      have hl1 := hlts.1
      have hl2 := hlts.2.2.1
      have hl3 := hlts.2.2.2
      clear hc hrr hA1 hlts
      go_wp2
      go_region_held3 (fun w' => w'.cell? ⟨x, 7, none⟩ = some (.slice (some ⟨ga, 0, none⟩) s.all.length ca) ∧ w'.cell? ⟨x, 8, none⟩ = some (.slice (some ⟨gk, 0, none⟩) s.keep.length ck) ∧ w'.cell? ⟨gk, k, none⟩ = some (.int .i64 (d : Int)) ∧ w'.cell? ⟨ga, d * 8, none⟩ = some (.int .i64 b0) ∧ w'.cell? ⟨ga, d * 8 + 1, none⟩ = some (.int .i64 b1) ∧ w'.cell? ⟨ga, d * 8 + 2, none⟩ = some (.int .i64 b2) ∧ w'.cell? ⟨ga, d * 8 + 3, none⟩ = some (.int .i64 b3) ∧ w'.cell? ⟨ga, d * 8 + 4, none⟩ = some (.int .i64 b4) ∧ w'.cell? ⟨ga, d * 8 + 5, none⟩ = some (.int .i64 b5) ∧ w'.cell? ⟨ga, d * 8 + 6, none⟩ = some (.int .i64 b6) ∧ w'.cell? ⟨ga, d * 8 + 7, none⟩ = some (.int .i64 (pd : Int))) (go_keep) (fail)
      have HPD := Go.Proofs.YtpaakikgfojplaaGreat.hid hPd
      clear hPd
      by_cases z1 : 0 < d
      · by_cases z2 : (pd : Int) = parent
        · have z2' : ((pd : Int) == parent) = true := by simp [z2]
          have hPe : P d = eqH ⟨b0, b1, b2, b3, b4, b5, b6⟩ ⟨a0, a1, a2, a3, a4, a5, a6⟩ := by rw [HPD.out, z2']; simp [z1]
          generalize hee : eqH ⟨b0, b1, b2, b3, b4, b5, b6⟩ ⟨a0, a1, a2, a3, a4, a5, a6⟩ = ee at *
          cases ee
          · have HPF := Go.Proofs.YtpaakikgfojplaaGreat.hid hPe
            clear hPe
            go_wp2
            go_roundw
            case rel =>
              refine ⟨k + 1, by omega, by go_num, ?_, (hbel.alloc (by omega) _).drew⟩
              show _ = _
              rw [HFT.out, HPF.out]; rfl
            case measure => simp [intOf]; omega
          · have hft := HFT.out
            rw [hPe] at hft
            have hT : there s parent ⟨a0, a1, a2, a3, a4, a5, a6⟩ = d := by
              rw [HT.out, find_some_take P s.keep (k + 1) d hft]; rfl
            have HTD := Go.Proofs.YtpaakikgfojplaaGreat.hid hT
            have HB := Go.Proofs.YtpaakikgfojplaaGreat.hid (hbA.trans ((hbel.alloc (by omega) (.cells #[.int .i64 b0, .int .i64 b1, .int .i64 b2, .int .i64 b3, .int .i64 b4, .int .i64 b5, .int .i64 b6, .int .i64 (pd : Int)] 70)).drew.mono (by omega)))
            clear hT hft hPe z2
            go_wp2
            go_ret
            exact ⟨by rw [HTD.out]; rfl, HB.out⟩
        · have z2' : ((pd : Int) == parent) = false := by simp [z2]
          have hP : P d = false := by rw [HPD.out, z2']; simp
          have HPF := Go.Proofs.YtpaakikgfojplaaGreat.hid hP
          clear hP
          go_wp2
          go_roundw
          case rel =>
            refine ⟨k + 1, by omega, by go_num, ?_, (hbel.alloc (by omega) _).drew⟩
            show _ = _
            rw [HFT.out, HPF.out]; rfl
          case measure => simp [intOf]; omega
      · have hP : P d = false := by rw [HPD.out]; simp [z1]
        have HPF := Go.Proofs.YtpaakikgfojplaaGreat.hid hP
        clear hP
        go_wp2
        go_roundw
        case rel =>
          refine ⟨k + 1, by omega, by go_num, ?_, (hbel.alloc (by omega) _).drew⟩
          show _ = _
          rw [HFT.out, HPF.out]; rfl
        case measure => simp [intOf]; omega
    · have hkk : k = s.keep.length := by omega
      have hT : there s parent ⟨a0, a1, a2, a3, a4, a5, a6⟩ = 0 := by
        have h1 := HN.out
        rw [hkk, List.take_length] at h1
        rw [HT.out, h1]; rfl
      have HTZ := Go.Proofs.YtpaakikgfojplaaGreat.hid hT
      have HB := Go.Proofs.YtpaakikgfojplaaGreat.hid (hbA.trans (hbel.mono (by omega)))
      clear hT hkk HN hrr hbel
      go_wp2
      go_ret
      exact ⟨by rw [HTZ.out]; rfl, HB.out⟩
end Go.Proofs.YtpaakikgfojplaaGreat

/-
  THE WALKS of beaconref: refused.
-/
namespace Go.Proofs.YtpaakikgfojplaaGreat
open Go.RowKit Num Bk
set_option linter.unusedVariables false

set_option maxHeartbeats 6400000 in
set_option maxRecDepth 1000000 in
theorem refused_any (x gs cs ga ca gk ck : Nat) (s : St) (parent : Int) (h : Hdr) (w : World) (hr : RefAt w x gs cs ga ca gk ck s) (hv : Inv s) :
    Calls Tryz.prog 48 #[.pointer (some ⟨x, 0, none⟩), .int .i64 parent, hdrV h] w fun e w' => e = .returned (.int .i64 (refused s parent h)) ∧ Below w.heap.size w w' := by
  have hi := hv.wk
  obtain ⟨a0, a1, a2, a3, a4, a5, a6⟩ := h
  have hre : refused s parent ⟨a0, a1, a2, a3, a4, a5, a6⟩ = if turnErr s parent a0 a1 ≠ 0 then turnErr s parent a0 a1
      else if a3 ≠ countAt s.all a1 parent.toNat ∧ a3 ≠ countAt s.all a1 parent.toNat + 1 then 6
      else if poolOk s a4 = false ∨ poolOk s a5 = false then 7
      else if a6 < 0 ∨ (stakesAt s.par s.all parent.toNat).getD a4.toNat 0 < a6 then 7
      else if a2 ≠ proofAt s parent.toNat a0 a1 then 8
      else if leadsAt s parent.toNat a0 a1 = false then 9
      else if 0 < there s parent ⟨a0, a1, a2, a3, a4, a5, a6⟩ then 10
      else 0 := rfl
  unfold hdrV
  go_enter Tryz.func48, Tryz.ntmps48
  go_wp2_with fail
  generalize hA : w.alloc (.cells #[.int .i64 a0, .int .i64 a1, .int .i64 a2, .int .i64 a3, .int .i64 a4, .int .i64 a5, .int .i64 a6] 40) = A at *
  obtain ⟨hsA, hbA, hAR⟩ := below_zero hA
  clear hA
  have hrA := hr.keep hbA
  clear hr
  refine (turn_any x gs cs ga ca gk ck s parent a0 a1 _ hrA hv).mono ?_
  rintro e w1 ⟨rfl, hb1⟩
  have hr1 := hrA.keep hb1
  have hs1 := hb1.size
  clear hrA
  have hA1 : w1.heap[w.heap.size]? = some (.cells #[.int .i64 a0, .int .i64 a1, .int .i64 a2, .int .i64 a3, .int .i64 a4, .int .i64 a5, .int .i64 a6] 40 (0, 0)) := by
    rw [hb1.block _ (by omega)]; exact hAR
  have hbw1 := hbA.trans (hb1.mono (by omega))
  by_cases het : turnErr s parent a0 a1 = 0
  · obtain ⟨k, pN, rfl, rfl, hk, hm, hs, hp⟩ := turn_ok hv het
    have hkl := inv_lt hv hk
    rw [if_neg (by simpa using het)] at hre
    rw [Int.toNat_natCast] at hre
    have htv : turnV s (k : Int) a0 (pN : Int) = .agg #[.int .i64 (nonceAt s k a0), .int .i64 (proofAt s k a0 pN), .int .i64 (stakeAt s k a0 pN), .bool (leadsAt s k a0 pN)] := by unfold turnV; rw [if_pos het, Int.toNat_natCast]
    rw [htv, het]
    clear htv het hs hm
    generalize nonceAt s k a0 = NC at *
    generalize proofAt s k a0 pN = PF at *
    generalize stakeAt s k a0 pN = SK at *
    generalize leadsAt s k a0 pN = LL at *
    have p0 := cell_of_cells (j := 0) hA1 rfl
    have p1 := cell_of_cells (j := 1) hA1 rfl
    have p2 := cell_of_cells (j := 2) hA1 rfl
    have p3 := cell_of_cells (j := 3) hA1 rfl
    have p4 := cell_of_cells (j := 4) hA1 rfl
    have p5 := cell_of_cells (j := 5) hA1 rfl
    have p6 := cell_of_cells (j := 6) hA1 rfl
    have hws1 : w.heap.size < w1.heap.size := by omega
    clear hb1 hAR
    go_wp2_with fail
    generalize hB : w1.alloc (.cells #[.int .i64 NC, .int .i64 PF, .int .i64 SK, .bool LL] 77) = B at *
    obtain ⟨hsB, hbB, hBR⟩ := below_zero hB
    clear hB p0 p1 p2 p3 p4 p5 p6
    have hrB := hr1.keep hbB
    clear hr1
    refine (counts_any x gs cs ga ca gk ck s k (pN : Int) _ hrB hi hkl).mono ?_
    rintro e w2 ⟨rfl, hb2⟩
    have hr2 := hrB.keep hb2
    have hs2 := hb2.size
    have hcb := count_bounds hv (pN : Int) k hkl
    have hhs := height_small hv hkl
    have hA2 : w2.heap[w.heap.size]? = some (.cells #[.int .i64 a0, .int .i64 (pN : Int), .int .i64 a2, .int .i64 a3, .int .i64 a4, .int .i64 a5, .int .i64 a6] 40 (0, 0)) := by
      rw [hb2.block _ (by omega), hbB.block _ hws1]; exact hA1
    have hB2 : w2.heap[w1.heap.size]? = some (.cells #[.int .i64 NC, .int .i64 PF, .int .i64 SK, .bool LL] 77 (0, 0)) := by
      rw [hb2.block _ (by omega)]; exact hBR
    have hbw2 := hbw1.trans ((hbB.mono (by omega)).trans (hb2.mono (by omega)))
    clear hrB hA1 hb2 hbB hBR hbw1
    have p0 := cell_of_cells (j := 0) hA2 rfl
    have p1 := cell_of_cells (j := 1) hA2 rfl
    have p2 := cell_of_cells (j := 2) hA2 rfl
    have p3 := cell_of_cells (j := 3) hA2 rfl
    have p4 := cell_of_cells (j := 4) hA2 rfl
    have p5 := cell_of_cells (j := 5) hA2 rfl
    have p6 := cell_of_cells (j := 6) hA2 rfl
    generalize countAt s.all (pN : Int) k = cn at *
    have hq1 : 0 ≤ cn := hcb.1
    have hq2 : cn ≤ 10001 := by omega
    by_cases y1 : a3 ≠ cn ∧ a3 ≠ cn + 1
    · rw [if_pos y1] at hre
      have HRE := Go.Proofs.YtpaakikgfojplaaGreat.hid hre
      have z1 : (a3 != cn) = true := by simpa using y1.1
      have z2 : (a3 != cn + 1) = true := by simpa using y1.2
      clear hre hr2 y1
      go_wp2
      go_ret
      exact ⟨by rw [HRE.out]; rfl, hbw2⟩
    · rw [if_neg y1] at hre
      have key : ∀ (K : Prop), ((a3 != cn) = false → K) → ((a3 != cn) = true → (a3 != cn + 1) = false → K) → K := by
        intro K h1 h2
        by_cases e1 : a3 = cn
        · exact h1 (by simp [e1])
        · exact h2 (by simpa using e1) (by simp; omega)
      refine key _ (fun z1 => ?_) (fun z1 z2 => ?_)
      all_goals
        clear key y1
        go_wp2_with fail
        refine (pool_any x gs cs ga ca gk ck s a4 _ hr2).mono ?_
        rintro e w3 ⟨rfl, rfl⟩
        go_wp2_with fail
        refine (pool_any x gs cs ga ca gk ck s a5 _ hr2).mono ?_
        rintro e w3 ⟨rfl, rfl⟩
        by_cases y2 : poolOk s a4 = false ∨ poolOk s a5 = false
        · rw [if_pos y2] at hre
          have HRE := Go.Proofs.YtpaakikgfojplaaGreat.hid hre
          clear hre hr2
          generalize poolOk s a4 = u4 at *
          generalize poolOk s a5 = u5 at *
          cases u4
          · clear y2
            go_wp2
            go_ret
            exact ⟨by rw [HRE.out]; rfl, hbw2⟩
          · have e5 : u5 = false := by simpa using y2
            subst e5
            clear y2
            go_wp2
            go_ret
            exact ⟨by rw [HRE.out]; rfl, hbw2⟩
        · rw [if_neg y2] at hre
          have e4 : poolOk s a4 = true := by cases e : poolOk s a4 <;> simp_all
          have e5 : poolOk s a5 = true := by cases e : poolOk s a5 <;> simp_all
          rw [e4, e5]
          simp [poolOk] at e4
          obtain ⟨fN, rfl⟩ := Int.eq_ofNat_of_zero_le e4.1
          clear y2 e5
          go_wp2_with fail
          refine (stakes_any x gs cs ga ca gk ck s k _ hr2 hv hkl).mono ?_
          rintro e w3 ⟨g, rfl, ho, hb3⟩
          have hr3 := hr2.keep hb3
          have hs3 := hb3.size
          have hlen := (stakes_ok hv k hkl).len
          have cf := (ho.cellAt fN (by omega)).trans (icells_at _ fN (by omega))
          have hA3 : w3.heap[w.heap.size]? = some (.cells #[.int .i64 a0, .int .i64 (pN : Int), .int .i64 a2, .int .i64 a3, .int .i64 (fN : Int), .int .i64 a5, .int .i64 a6] 40 (0, 0)) := by
            rw [hb3.block _ (by omega)]; exact hA2
          have hB3 : w3.heap[w1.heap.size]? = some (.cells #[.int .i64 NC, .int .i64 PF, .int .i64 SK, .bool LL] 77 (0, 0)) := by
            rw [hb3.block _ (by omega)]; exact hB2
          have hbw3 := hbw2.trans (hb3.mono (by omega))
          clear hr2 hA2 hB2 hb3 hbw2 ho hlen p0 p1 p2 p3 p4 p5 p6
          have p0 := cell_of_cells (j := 0) hA3 rfl
          have p1 := cell_of_cells (j := 1) hA3 rfl
          have p2 := cell_of_cells (j := 2) hA3 rfl
          have p3 := cell_of_cells (j := 3) hA3 rfl
          have p4 := cell_of_cells (j := 4) hA3 rfl
          have p5 := cell_of_cells (j := 5) hA3 rfl
          have p6 := cell_of_cells (j := 6) hA3 rfl
          have t0 := cell_of_cells (j := 0) hB3 rfl
          have t1 := cell_of_cells (j := 1) hB3 rfl
          have t2 := cell_of_cells (j := 2) hB3 rfl
          have t3 := cell_of_cells (j := 3) hB3 rfl
          rw [Int.toNat_natCast] at hre
          generalize (stakesAt s.par s.all k).getD fN 0 = cv at *
          have j1 : (0 : Int) ≤ (fN : Int) := by omega
          have j2 : (fN : Int) < ((s.par.stakes.length : Nat) : Int) := by omega
          by_cases y3 : a6 < 0
          · rw [if_pos (Or.inl y3)] at hre
            have HRE := Go.Proofs.YtpaakikgfojplaaGreat.hid hre
            clear hre hr3
            have y3' : decide (a6 < 0) = true := by simpa using y3
            go_wp2
            go_quiet (fail)
            go_wp2
            go_ret
            exact ⟨by rw [HRE.out]; rfl, by repeat (first | exact hbw3 | refine drawB ?_ _)⟩
          · have y3' : decide (a6 < 0) = false := by simpa using y3
            by_cases y4 : cv < a6
            · rw [if_pos (Or.inr y4)] at hre
              have HRE := Go.Proofs.YtpaakikgfojplaaGreat.hid hre
              clear hre hr3
              go_wp2
              go_quiet (fail)
              go_wp2
              go_ret
              exact ⟨by rw [HRE.out]; rfl, by repeat (first | exact hbw3 | refine drawB ?_ _)⟩
            · rw [if_neg (by omega)] at hre
              by_cases y5 : a2 ≠ PF
              · rw [if_pos y5] at hre
                have HRE := Go.Proofs.YtpaakikgfojplaaGreat.hid hre
                have y5' : (a2 != PF) = true := by simpa using y5
                clear hre hr3 y5
                go_wp2
                go_quiet (fail)
                go_wp2
                go_ret
                exact ⟨by rw [HRE.out]; rfl, by repeat (first | exact hbw3 | refine drawB ?_ _)⟩
              · rw [if_neg y5] at hre
                have y5' : (a2 != PF) = false := by simpa using y5
                cases LL
                · rw [if_pos rfl] at hre
                  have HRE := Go.Proofs.YtpaakikgfojplaaGreat.hid hre
                  clear hre hr3 y5
                  go_wp2
                  go_quiet (fail)
                  go_wp2
                  go_ret
                  exact ⟨by rw [HRE.out]; rfl, by repeat (first | exact hbw3 | refine drawB ?_ _)⟩
                · rw [if_neg (by simp)] at hre
                  clear y5
                  go_wp2
                  go_quiet (fail)
                  go_wp2_with fail
                  have hr4 := hr3.keep (drawB (Below.refl w3.heap.size w3) nq)
                  refine (there_any x gs cs ga ca gk ck s (k : Int) ⟨a0, (pN : Int), a2, a3, (fN : Int), a5, a6⟩ _ hr4 hi).mono ?_
                  rintro e w5 ⟨rfl, hb5⟩
                  have HB5 := Go.Proofs.YtpaakikgfojplaaGreat.hid ((drawB hbw3 nq).trans (hb5.mono (by have := hbw3.size; exact this)))
                  clear hr3 hr4 hb5
                  generalize there s (k : Int) ⟨a0, (pN : Int), a2, a3, (fN : Int), a5, a6⟩ = th at *
                  by_cases y6 : 0 < th
                  · rw [if_pos y6] at hre
                    have HRE := Go.Proofs.YtpaakikgfojplaaGreat.hid hre
                    clear hre
                    go_wp2
                    go_ret
                    exact ⟨by rw [HRE.out]; rfl, HB5.out⟩
                  · rw [if_neg y6] at hre
                    have HRE := Go.Proofs.YtpaakikgfojplaaGreat.hid hre
                    clear hre
                    go_wp2
                    go_ret
                    exact ⟨by rw [HRE.out]; rfl, HB5.out⟩
  · rw [if_pos (by simpa using het)] at hre
    have HRE := Go.Proofs.YtpaakikgfojplaaGreat.hid hre
    have hb : (turnErr s parent a0 a1 != 0) = true := by simpa using het
    have htv : turnV s parent a0 a1 = .agg #[.int .i64 0, .int .i64 0, .int .i64 0, .bool false] := by unfold turnV; rw [if_neg het]
    rw [htv]
    have HB := Go.Proofs.YtpaakikgfojplaaGreat.hid (hbw1.alloc (by omega) (.cells #[.int .i64 0, .int .i64 0, .int .i64 0, .bool false] 77))
    clear hre htv hr1 hb1
    generalize turnErr s parent a0 a1 = te at *
    go_wp2
    go_ret
    exact ⟨by rw [HRE.out]; rfl, HB.out⟩
end Go.Proofs.YtpaakikgfojplaaGreat

