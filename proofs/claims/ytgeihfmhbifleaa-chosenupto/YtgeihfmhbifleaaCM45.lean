import Derived.Test.YtgeihfmhbifleaaCM32
import Derived.Test.YtgeihfmhbifleaaCM40
import Derived.Test.YtgeihfmhbifleaaCM27
/-
  THE WALKS of the statements' sameInts and tells.
-/
namespace Go.Proofs.Ytgeihfmhbifleaa
open Go.RowKit Num Bk
set_option linter.unusedVariables false

set_option maxHeartbeats 1600000 in
set_option maxRecDepth 1000000 in
theorem bsame_is (b1 g1 c1 b2 g2 c2 : Nat) (ds : List Nat) (w : World) (h1 : w.ownsRow b1 3 1 (.slice (some ⟨g1, 0, none⟩) ds.length c1) ds.length (dcells ds)) (h2 : w.ownsRow b2 3 1 (.slice (some ⟨g2, 0, none⟩) ds.length c2) ds.length (dcells ds)) (hl : ds.length ≤ 1000000) :
    Calls Try.prog 59 #[.slice (some ⟨g1, 0, none⟩) ds.length c1, .slice (some ⟨g2, 0, none⟩) ds.length c2] w fun e w' => e = .returned (.bool true) ∧ Below w.heap.size w w' := by
  go_enter Try.func59, Try.ntmps59
  go_wp2
  go_loopw [5] (fun i wr => ∃ k : Nat, k ≤ ds.length ∧ i = .int .i64 k ∧ Below w.heap.size w wr) (fun i _ => ds.length - (intOf i).toNat)
  case atStart => exact ⟨0, Nat.zero_le _, rfl, Below.refl _ _⟩
  case round =>
    obtain ⟨k, hk, rfl, hbel⟩ := hrel
    by_cases hlt : k < ds.length
    · have c1 := ((row_keep h1 hbel (Nat.le_refl _)).cellAt k (by omega)).trans (dcells_at ds k hlt)
      have c2 := ((row_keep h2 hbel (Nat.le_refl _)).cellAt k (by omega)).trans (dcells_at ds k hlt)
      have i1 : (0 : Int) ≤ (k : Int) := by omega
      have i2 : (k : Int) < ((ds.length : Nat) : Int) := by omega
      generalize ds.getD k 0 = d at *
      clear h1 h2
      go_wp2
      go_quiet (fail)
      go_wp2
      go_roundw
      case rel => exact ⟨k + 1, by omega, by go_num, drawB hbel _⟩
      case measure => simp [intOf]; omega
    · go_wp2
      go_ret
      exact ⟨rfl, hbel⟩

set_option maxHeartbeats 3200000 in
set_option maxRecDepth 1000000 in
theorem tells_any {Rep : World → Nat → (Nat → Prop) → St → Prop} (P : PSpec Rep) (b xc gs cs ga ca : Nat) (s : St) (F : Nat → Prop) (w : World) (hb : Both Rep w b xc gs cs ga ca F s) :
    Calls Try.prog 31 #[.pointer (some ⟨b, 0, none⟩)] w fun e w' => e = .returned (.bool true) ∧ Below w.heap.size w w' := by
  have hv := hb.inv
  have hw := hv.wk
  have htl := inv_lt hv hv.tipin
  have hkl := hw.kl
  have hll := line_length hv.tree (tip s)
  have hhs := height_small hv htl
  have hsm := hw.small
  have hnl : (line s.all (tip s)).length ≤ 20000 := by omega
  clear hll hhs
  go_enter Try.func31, Try.ntmps31
  have c0 := cell_of_cells (j := 0) hb.book.blk rfl
  go_wp2_with fail
  refine (P.tip w xc F s hb.rep hv).mono ?_
  rintro e w1 ⟨rfl, hb1⟩
  have hB1 := hb.keep P hb1
  clear c0
  have c0 := cell_of_cells (j := 0) hB1.book.blk rfl
  go_wp2_with fail
  refine (P.final w1 xc F s hB1.rep hv).mono ?_
  rintro e w2 ⟨rfl, hb2⟩
  have hB2 := hB1.keep P hb2
  have hbw2 := hb1.trans (hb2.mono hb1.size)
  clear c0 hB1 hb1 hb2
  have c0 := cell_of_cells (j := 0) hB2.book.blk rfl
  go_wp2_with fail
  refine (P.kept w2 xc F s hB2.rep hv).mono ?_
  rintro e w3 ⟨gk, ck, rfl, hok, hb3⟩
  have hB3 := hB2.keep P hb3
  have hbw3 := hbw2.trans (hb3.mono hbw2.size)
  clear c0 hB2 hb3 hbw2
  have c0 := cell_of_cells (j := 0) hB3.book.blk rfl
  go_wp2_with fail
  refine (P.path w3 xc F s hB3.rep hv).mono ?_
  rintro e w4 ⟨gp, cp, rfl, hop, hb4⟩
  have hB4 := hB3.keep P hb4
  have hok4 := row_keep hok hb4 (Nat.le_refl _)
  have hbw4 := hbw3.trans (hb4.mono hbw3.size)
  clear c0 hB3 hb4 hbw3 hok hb
  go_wp2_with fail
  refine (btip_any b xc gs cs ga ca s _ hB4.book hv).mono ?_
  rintro e w5 ⟨rfl, hb5⟩
  have hB5 := hB4.keep P hb5
  have hok5 := row_keep hok4 hb5 (Nat.le_refl _)
  have hop5 := row_keep hop hb5 (Nat.le_refl _)
  have hbw5 := hbw4.trans (hb5.mono hbw4.size)
  clear hB4 hb5 hbw4 hok4 hop
  go_wp2_with fail
  refine (bfinal_any b xc gs cs ga ca s _ hB5.book hv).mono ?_
  rintro e w6 ⟨rfl, hb6⟩
  have hB6 := hB5.keep P hb6
  have hok6 := row_keep hok5 hb6 (Nat.le_refl _)
  have hop6 := row_keep hop5 hb6 (Nat.le_refl _)
  have hbw6 := hbw5.trans (hb6.mono hbw5.size)
  clear hB5 hb6 hbw5 hok5 hop5
  go_wp2_with fail
  refine (bkept_any b xc gs cs ga ca s _ hB6.book hv).mono ?_
  rintro e w7 ⟨g7, c7, rfl, ho7, hb7⟩
  have hB7 := hB6.keep P hb7
  have hok7 := row_keep hok6 hb7 (Nat.le_refl _)
  have hop7 := row_keep hop6 hb7 (Nat.le_refl _)
  have hbw7 := hbw6.trans (hb7.mono hbw6.size)
  clear hB6 hb7 hbw6 hok6 hop6
  go_wp2_with fail
  refine (bsame_is _ gk ck _ g7 c7 s.keep _ hok7 ho7 (by omega)).mono ?_
  rintro e w8 ⟨rfl, hb8⟩
  have hB8 := hB7.keep P hb8
  have hop8 := row_keep hop7 hb8 (Nat.le_refl _)
  have hbw8 := hbw7.trans (hb8.mono hbw7.size)
  clear hB7 hb8 hbw7 hok7 hop7 ho7
  go_wp2_with fail
  refine (bline_any b xc gs cs ga ca s (tip s) _ hB8.book hw htl).mono ?_
  rintro e w9 ⟨g9, c9, rfl, ho9, hb9⟩
  have hop9 := row_keep hop8 hb9 (Nat.le_refl _)
  have HB9 := Go.Proofs.Ytgeihfmhbifleaa.hid (hbw8.trans (hb9.mono hbw8.size))
  clear hB8 hb9 hbw8 hop8
  clear htl hw
  generalize hLL : line s.all (tip s) = L at *
  generalize tip s = tp at *
  generalize fin s = fn at *
  rw [List.length_reverse] at ho9 ⊢
  have HO9 := Go.Proofs.Ytgeihfmhbifleaa.hid ho9
  have HP9 := Go.Proofs.Ytgeihfmhbifleaa.hid hop9
  clear ho9 hop9
  go_wp2
  go_loopw [11] (fun i wr => ∃ k : Nat, k ≤ L.length ∧ i = .int .i64 k ∧ Below w9.heap.size w9 wr) (fun i _ => L.length - (intOf i).toNat)
  case atStart => exact ⟨0, Nat.zero_le _, rfl, Below.refl _ _⟩
  case round =>
    obtain ⟨k, hk, rfl, hbel⟩ := hrel
    by_cases hlt : k < L.length
    · obtain ⟨m, hm⟩ : ∃ m, L.length = m + k + 1 := ⟨L.length - k - 1, by omega⟩
      have cp := ((row_keep HP9.out hbel (Nat.le_refl _)).cellAt k (by omega)).trans (dcells_at L k hlt)
      have cr := ((row_keep HO9.out hbel (Nat.le_refl _)).cellAt m (by omega)).trans (dcells_at L.reverse m (by rw [List.length_reverse]; omega))
      have h2 : L.reverse.getD m 0 = L.getD k 0 := by
        simp only [List.getD, List.getElem?_reverse (show m < L.length by omega)]
        rw [show L.length - 1 - m = k by omega]
      rw [h2] at cr
      have i1 : (0 : Int) ≤ (k : Int) := by omega
      have i2 : (0 : Int) ≤ (m : Int) := by omega
      have hmb : m ≤ 20000 := by omega
      have hkb : k ≤ 20000 := by omega
      clear h2
      generalize L.getD k 0 = d at *
      rw [hm]
      clear HO9 HP9 hLL
      go_wp2
      go_quiet (fail)
      go_wp2
      go_roundw
      case rel => exact ⟨k + 1, by omega, by go_num, drawB hbel _⟩
      case measure => simp [intOf]; omega
    · clear HO9 HP9
      go_wp2
      go_ret
      exact ⟨rfl, HB9.out.trans (hbel.mono HB9.out.size)⟩

end Go.Proofs.Ytgeihfmhbifleaa

/-
  MATHEMATICS: headers with one thing in them that may not be, and how they are refused.
-/
namespace Go.Proofs.Ytgeihfmhbifleaa
open Go.RowKit Num Bk
set_option linter.unusedVariables false

/-- A header with one thing in it that may not be. -/
def spoiltH (s : St) (id : Nat) (h : Hdr) (k : Int) : Hdr :=
  if k = 0 then { h with slot := beginsAt s id - 1 }
  else if k = 1 then { h with slot := 10001 }
  else if k = 2 then { h with pool := np s }
  else if k = 3 then { h with pool := -1 }
  else if k = 4 then { h with count := countAt s.all h.pool id + 2 }
  else if k = 5 then { h with count := countAt s.all h.pool id - 1 }
  else if k = 6 then { h with amount := stakeOf s id h.frm.toNat + 1 }
  else if k = 7 then { h with amount := -1 }
  else if k = 8 then { h with dst := np s }
  else if k = 9 then { h with frm := -1 }
  else if k = 10 then { h with proof := (h.proof + 1) % 1024 }
  else { h with proof := h.proof + 1024 }
def spoiltE (k : Int) : Int := if k ≤ 1 then 4 else if k ≤ 3 then 5 else if k ≤ 5 then 6 else if k ≤ 9 then 7 else 8

theorem offerErr_of {s : St} {parent : Int} {h : Hdr} {e : Int} (h1 : refused s parent h = e) (h2 : e ≠ 0) : offerErr s parent h = e := by
  unfold offerErr
  rw [h1, if_pos h2]

theorem offer_bad {s : St} {parent : Int} {h : Hdr} {e : Int} (h1 : offerErr s parent h = e) (h2 : e ≠ 0) : offer s parent h = s ∧ offerId s parent h = 0 := by
  unfold offer offerId
  rw [if_neg (by rw [h1]; exact h2), if_neg (by rw [h1]; exact h2)]
  exact ⟨rfl, rfl⟩

/-- What Turn says of a slot behind a kept header. -/
theorem turn_parts {s : St} {id : Nat} {slot pool : Int} (hk : id ∈ s.keep) (h : turnErr s (id : Int) slot pool = 0) : slotOk s id slot = true ∧ poolOk s pool = true := by
  unfold turnErr at h
  rw [if_neg (by simp [missing_keep hk]), Int.toNat_natCast] at h
  cases h1 : slotOk s id slot
  · rw [h1] at h; simp at h
  · rw [h1] at h
    simp at h
    cases h2 : poolOk s pool
    · rw [h2] at h; simp at h
    · exact ⟨rfl, rfl⟩

theorem refused_slot {s : St} {id : Nat} {h : Hdr} (hk : id ∈ s.keep) (h1 : slotOk s id h.slot = false) : refused s (id : Int) h = 4 := by
  have ht : turnErr s (id : Int) h.slot h.pool = 4 := by
    unfold turnErr
    rw [if_neg (by simp [missing_keep hk]), Int.toNat_natCast, if_pos h1]
  unfold refused
  rw [ht, if_pos (by decide)]

theorem refused_pool {s : St} {id : Nat} {h : Hdr} (hk : id ∈ s.keep) (h1 : slotOk s id h.slot = true) (h2 : poolOk s h.pool = false) : refused s (id : Int) h = 5 := by
  have ht : turnErr s (id : Int) h.slot h.pool = 5 := by
    unfold turnErr
    rw [if_neg (by simp [missing_keep hk]), Int.toNat_natCast, if_neg (by simp [h1]), if_pos h2]
  unfold refused
  rw [ht, if_pos (by decide)]

theorem refused_count {s : St} {id : Nat} {h : Hdr} (ht : turnErr s (id : Int) h.slot h.pool = 0) (h1 : h.count ≠ countAt s.all h.pool id) (h2 : h.count ≠ countAt s.all h.pool id + 1) : refused s (id : Int) h = 6 := by
  unfold refused
  rw [if_neg (by simp [ht]), Int.toNat_natCast, if_pos ⟨h1, h2⟩]

theorem refused_move {s : St} {id : Nat} {h : Hdr} (ht : turnErr s (id : Int) h.slot h.pool = 0) (hc : h.count = countAt s.all h.pool id ∨ h.count = countAt s.all h.pool id + 1)
    (hm : poolOk s h.frm = false ∨ poolOk s h.dst = false ∨ h.amount < 0 ∨ (stakesAt s.par s.all id).getD h.frm.toNat 0 < h.amount) : refused s (id : Int) h = 7 := by
  unfold refused
  rw [if_neg (by simp [ht]), Int.toNat_natCast, if_neg (by rintro ⟨a, b⟩; rcases hc with e | e; exact a e; exact b e)]
  by_cases h1 : poolOk s h.frm = false ∨ poolOk s h.dst = false
  · rw [if_pos h1]
  · rw [if_neg h1, if_pos]
    rcases hm with h | h | h | h
    · exact absurd (Or.inl h) h1
    · exact absurd (Or.inr h) h1
    · exact Or.inl h
    · exact Or.inr h

theorem refused_proof {s : St} {id : Nat} {h : Hdr} (ht : turnErr s (id : Int) h.slot h.pool = 0) (hc : h.count = countAt s.all h.pool id ∨ h.count = countAt s.all h.pool id + 1)
    (hf : poolOk s h.frm = true) (hd : poolOk s h.dst = true) (h0 : 0 ≤ h.amount) (h1 : h.amount ≤ (stakesAt s.par s.all id).getD h.frm.toNat 0) (hp : h.proof ≠ proofAt s id h.slot h.pool) : refused s (id : Int) h = 8 := by
  unfold refused
  rw [if_neg (by simp [ht]), Int.toNat_natCast, if_neg (by rintro ⟨a, b⟩; rcases hc with e | e; exact a e; exact b e), if_neg (by simp [hf, hd]), if_neg (by omega), if_pos hp]

theorem refused_leader {s : St} {id : Nat} {h : Hdr} (ht : turnErr s (id : Int) h.slot h.pool = 0) (hc : h.count = countAt s.all h.pool id ∨ h.count = countAt s.all h.pool id + 1)
    (hf : poolOk s h.frm = true) (hd : poolOk s h.dst = true) (h0 : 0 ≤ h.amount) (h1 : h.amount ≤ (stakesAt s.par s.all id).getD h.frm.toNat 0) (hp : h.proof = proofAt s id h.slot h.pool) (hl : leadsAt s id h.slot h.pool = false) : refused s (id : Int) h = 9 := by
  unfold refused
  rw [if_neg (by simp [ht]), Int.toNat_natCast, if_neg (by rintro ⟨a, b⟩; rcases hc with e | e; exact a e; exact b e), if_neg (by simp [hf, hd]), if_neg (by omega), if_neg (by simp [hp]), if_pos hl]

theorem spoilt_err {s : St} (hv : Inv s) {id : Nat} (hk : id ∈ s.keep) {h : Hdr} (m : MadeOk s id h) (k : Int) (h0 : 0 ≤ k) (h1 : k < 12) : offerErr s (id : Int) (spoiltH s id h k) = spoiltE k ∧ spoiltE k ≠ 0 ∧ HdrI (spoiltH s id h k) := by
  have hl := inv_lt hv hk
  have hb := begins_bounds hv hl
  have hn := np_bounds hv
  have hnp : np s = (s.par.stakes.length : Int) := rfl
  obtain ⟨hts, htp⟩ := turn_parts hk m.turn
  have hcb := count_bounds hv h.pool id hl
  have hhb := height_small hv hl
  have hsb := stake_bounds hv hl h.frm.toNat
  have htt := (total_small hv.par).2
  have hdb := drawN_bounds (nonceAt s id h.slot) h.slot h.pool
  have hpr : h.proof = drawN (nonceAt s id h.slot) h.slot h.pool := m.proof
  have hso : stakeOf s id h.frm.toNat = (stakesAt s.par s.all id).getD h.frm.toNat 0 := rfl
  have mi := m.is
  have key : refused s (id : Int) (spoiltH s id h k) = spoiltE k ∧ HdrI (spoiltH s id h k) := by
    unfold spoiltH
    by_cases e : k = 0
    · rw [if_pos e]; subst e
      refine ⟨refused_slot hk ?_, ⟨i64_of (by show _ ≤ beginsAt s id - 1; omega) (by show beginsAt s id - 1 ≤ _; omega), mi.a1, mi.a2, mi.a3, mi.a4, mi.a5, mi.a6⟩⟩
      show slotOk s id (beginsAt s id - 1) = false
      unfold slotOk beginsAt
      by_cases h0 : id = 0
      · rw [if_pos h0]; simp
      · rw [if_neg h0]; simp [h0]
    rw [if_neg e]
    by_cases e : k = 1
    · rw [if_pos e]; subst e
      refine ⟨refused_slot hk ?_, ⟨i64_of (by show _ ≤ (10001 : Int); omega) (by show (10001 : Int) ≤ _; omega), mi.a1, mi.a2, mi.a3, mi.a4, mi.a5, mi.a6⟩⟩
      show slotOk s id 10001 = false
      simp [slotOk]
    rw [if_neg e]
    by_cases e : k = 2
    · rw [if_pos e]; subst e
      refine ⟨refused_pool hk hts ?_, ⟨mi.a0, i64_of (by show _ ≤ np s; omega) (by show np s ≤ _; omega), mi.a2, mi.a3, mi.a4, mi.a5, mi.a6⟩⟩
      show poolOk s (np s) = false
      simp [poolOk, hnp]
    rw [if_neg e]
    by_cases e : k = 3
    · rw [if_pos e]; subst e
      refine ⟨refused_pool hk hts ?_, ⟨mi.a0, i64_of (by show _ ≤ (-1 : Int); omega) (by show (-1 : Int) ≤ _; omega), mi.a2, mi.a3, mi.a4, mi.a5, mi.a6⟩⟩
      show poolOk s (-1) = false
      simp [poolOk]
    rw [if_neg e]
    by_cases e : k = 4
    · rw [if_pos e]; subst e
      refine ⟨refused_count m.turn ?_ ?_, ⟨mi.a0, mi.a1, mi.a2, i64_of (by show _ ≤ countAt s.all h.pool id + 2; omega) (by show countAt s.all h.pool id + 2 ≤ _; omega), mi.a4, mi.a5, mi.a6⟩⟩
      · show countAt s.all h.pool id + 2 ≠ countAt s.all h.pool id; omega
      · show countAt s.all h.pool id + 2 ≠ countAt s.all h.pool id + 1; omega
    rw [if_neg e]
    by_cases e : k = 5
    · rw [if_pos e]; subst e
      refine ⟨refused_count m.turn ?_ ?_, ⟨mi.a0, mi.a1, mi.a2, i64_of (by show _ ≤ countAt s.all h.pool id - 1; omega) (by show countAt s.all h.pool id - 1 ≤ _; omega), mi.a4, mi.a5, mi.a6⟩⟩
      · show countAt s.all h.pool id - 1 ≠ countAt s.all h.pool id; omega
      · show countAt s.all h.pool id - 1 ≠ countAt s.all h.pool id + 1; omega
    rw [if_neg e]
    by_cases e : k = 6
    · rw [if_pos e]; subst e
      refine ⟨refused_move m.turn m.count (Or.inr (Or.inr (Or.inr ?_))), ⟨mi.a0, mi.a1, mi.a2, mi.a3, mi.a4, mi.a5, i64_of (by show _ ≤ stakeOf s id h.frm.toNat + 1; omega) (by show stakeOf s id h.frm.toNat + 1 ≤ _; omega)⟩⟩
      show (stakesAt s.par s.all id).getD h.frm.toNat 0 < stakeOf s id h.frm.toNat + 1
      omega
    rw [if_neg e]
    by_cases e : k = 7
    · rw [if_pos e]; subst e
      refine ⟨refused_move m.turn m.count (Or.inr (Or.inr (Or.inl ?_))), ⟨mi.a0, mi.a1, mi.a2, mi.a3, mi.a4, mi.a5, i64_of (by show _ ≤ (-1 : Int); omega) (by show (-1 : Int) ≤ _; omega)⟩⟩
      show (-1 : Int) < 0
      omega
    rw [if_neg e]
    by_cases e : k = 8
    · rw [if_pos e]; subst e
      refine ⟨refused_move m.turn m.count (Or.inr (Or.inl ?_)), ⟨mi.a0, mi.a1, mi.a2, mi.a3, mi.a4, i64_of (by show _ ≤ np s; omega) (by show np s ≤ _; omega), mi.a6⟩⟩
      show poolOk s (np s) = false
      simp [poolOk, hnp]
    rw [if_neg e]
    by_cases e : k = 9
    · rw [if_pos e]; subst e
      refine ⟨refused_move m.turn m.count (Or.inl ?_), ⟨mi.a0, mi.a1, mi.a2, mi.a3, i64_of (by show _ ≤ (-1 : Int); omega) (by show (-1 : Int) ≤ _; omega), mi.a5, mi.a6⟩⟩
      show poolOk s (-1) = false
      simp [poolOk]
    rw [if_neg e]
    by_cases e : k = 10
    · rw [if_pos e]; subst e
      refine ⟨refused_proof m.turn m.count m.frm m.dst m.am0 m.am1 ?_, ⟨mi.a0, mi.a1, i64_of (by show _ ≤ (h.proof + 1) % 1024; omega) (by show (h.proof + 1) % 1024 ≤ _; omega), mi.a3, mi.a4, mi.a5, mi.a6⟩⟩
      show (h.proof + 1) % 1024 ≠ drawN (nonceAt s id h.slot) h.slot h.pool
      omega
    rw [if_neg e]
    have e : k = 11 := by omega
    subst e
    refine ⟨refused_proof m.turn m.count m.frm m.dst m.am0 m.am1 ?_, ⟨mi.a0, mi.a1, i64_of (by show _ ≤ h.proof + 1024; omega) (by show h.proof + 1024 ≤ _; omega), mi.a3, mi.a4, mi.a5, mi.a6⟩⟩
    show h.proof + 1024 ≠ drawN (nonceAt s id h.slot) h.slot h.pool
    omega
  have hne : spoiltE k ≠ 0 := by
    unfold spoiltE
    repeat' split
    all_goals decide
  exact ⟨offerErr_of key.1 hne, hne, key.2⟩

/-- Behind a header that never was. -/
theorem never_err {s : St} (hv : Inv s) (h : Hdr) : missing s (s.all.length : Int) = 3 ∧ offerErr s (s.all.length : Int) h = 3 := by
  have hm : missing s (s.all.length : Int) = 3 := by
    unfold missing
    rw [if_neg, if_neg]
    · intro e
      rw [has_nat] at e
      have := line_le hv.tree _ _ e
      have := fin_lt hv
      omega
    · intro e
      rw [has_nat] at e
      have := inv_lt hv e
      omega
  have ht : turnErr s (s.all.length : Int) h.slot h.pool = 3 := by
    unfold turnErr
    rw [hm, if_pos (by decide)]
  refine ⟨hm, offerErr_of (e := 3) ?_ (by decide)⟩
  unfold refused
  rw [ht, if_pos (by decide)]
theorem minus_err {s : St} (hv : Inv s) : missing s (-1) = 3 := by
  unfold missing
  rw [if_neg, if_neg]
  · intro e
    rw [has_iff] at e
    obtain ⟨k, _, h⟩ := e
    omega
  · intro e
    rw [has_iff] at e
    obtain ⟨k, _, h⟩ := e
    omega

/-- A header of a pool that does not lead. -/
def plainH (s : St) (id : Nat) (pool : Nat) : Hdr := ⟨beginsAt s id, pool, proofAt s id (beginsAt s id) pool, countAt s.all (pool : Int) id, 0, 0, 0⟩
theorem plain_err {s : St} (hv : Inv s) {id : Nat} (hk : id ∈ s.keep) {pool : Nat} (hp : pool < s.par.stakes.length) (hb : beginsAt s id ≤ 10000) (hl : leadsAt s id (beginsAt s id) (pool : Int) = false) :
    turnErr s (id : Int) (beginsAt s id) (pool : Int) = 0 ∧ offerErr s (id : Int) (plainH s id pool) = 9 ∧ HdrI (plainH s id pool) := by
  have hil := inv_lt hv hk
  have hnp : np s = (s.par.stakes.length : Int) := rfl
  have hbb := begins_bounds hv hil
  have hcb := count_bounds hv (pool : Int) id hil
  have hhb := height_small hv hil
  have hsb := stake_bounds hv hil 0
  have hl2 := hv.par.l2
  have hdb := drawN_bounds (nonceAt s id (beginsAt s id)) (beginsAt s id) (pool : Int)
  have ht := turn_zero hv hk (Int.le_refl _) hb (by omega : (0 : Int) ≤ pool) (by omega)
  have h0 : poolOk s 0 = true := by simp [poolOk]; omega
  refine ⟨ht, offerErr_of (refused_leader ht (Or.inl rfl) h0 h0 (Int.le_refl _) hsb.1 rfl hl) (by decide), ⟨i64_of (by show _ ≤ beginsAt s id; omega) (by show beginsAt s id ≤ _; omega), i64_of (by show _ ≤ (pool : Int); omega) (by show (pool : Int) ≤ _; omega), i64_of (by show _ ≤ drawN _ _ _; exact Int.le_trans (by decide) hdb.1) (by show drawN _ _ _ ≤ _; omega), i64_of (by show _ ≤ countAt s.all (pool : Int) id; omega) (by show countAt s.all (pool : Int) id ≤ _; omega), i64_of (by show _ ≤ (0 : Int); omega) (by show (0 : Int) ≤ _; omega), i64_of (by show _ ≤ (0 : Int); omega) (by show (0 : Int) ≤ _; omega), i64_of (by show _ ≤ (0 : Int); omega) (by show (0 : Int) ≤ _; omega)⟩⟩

end Go.Proofs.Ytgeihfmhbifleaa

