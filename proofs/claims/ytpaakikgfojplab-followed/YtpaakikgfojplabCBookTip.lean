import Derived.Test.YtpaakikgfojplabCM7
/-
  THE WALKS of the statements' book: has, tip, final, kept, begins.
-/
namespace Go.Proofs.Ytpaakikgfojplab
open Go.RowKit Num Bk
set_option linter.unusedVariables false

set_option maxHeartbeats 800000 in
theorem bhas_any (base g cap : Nat) (ds : List Nat) (id : Int) (w : World) (hown : w.ownsRow base 3 1 (.slice (some ⟨g, 0, none⟩) ds.length cap) ds.length (dcells ds)) (hlen : ds.length ≤ 1000000) :
    Calls Try.prog 14 #[.slice (some ⟨g, 0, none⟩) ds.length cap, .int .i64 id] w fun e w' => e = .returned (.bool (has ds id)) ∧ w = w' := by
  go_enter Try.func14, Try.ntmps14
  go_wp2
  go_loop [5] (fun i => ∃ k : Nat, k ≤ ds.length ∧ i = .int .i64 k ∧ Hid (has (ds.take k) id = false)) (fun i => ds.length - (intOf i).toNat)
  case atStart => exact ⟨0, Nat.zero_le _, rfl, by unfold Hid; simp [has]⟩
  case round =>
    obtain ⟨k, hk, rfl, HN⟩ := hrel
    by_cases hlt : k < ds.length
    · have c1 := (hown.cellAt k (by omega)).trans (dcells_at ds k hlt)
      have hs := has_take ds k hlt id
      generalize ds.getD k 0 = d at *
      by_cases he : (d : Int) = id
      · have hb : ((d : Int) == id) = true := by simp [he]
        have hh : has ds id = true := by
          rw [has_iff]
          have : has (ds.take (k + 1)) id = true := by rw [hs, hb]; simp
          rw [has_iff] at this
          obtain ⟨x, hx, hx'⟩ := this
          exact ⟨x, List.mem_of_mem_take hx, hx'⟩
        have HH := Go.Proofs.Ytpaakikgfojplab.hid hh
        clear hs hh he
        go_wp2
        go_ret
        exact ⟨by rw [HH.out]; rfl, rfl⟩
      · have hb : ((d : Int) == id) = false := by simp [he]
        have HS := Go.Proofs.Ytpaakikgfojplab.hid (show has (ds.take (k + 1)) id = false by rw [hs, HN.out, hb]; rfl)
        clear hs he
        go_wp2
        go_round
        case rel => exact ⟨k + 1, by omega, by go_num, HS⟩
        case measure => simp [intOf]; omega
    · have hh : has ds id = false := by
        have := HN.out
        rw [List.take_of_length_le (by omega)] at this
        exact this
      have HH := Go.Proofs.Ytpaakikgfojplab.hid hh
      clear hh HN
      go_wp2
      go_ret
      exact ⟨by rw [HH.out]; rfl, rfl⟩


set_option maxHeartbeats 1600000 in
set_option maxRecDepth 1000000 in
theorem btip_any (b xc gs cs ga ca : Nat) (s : St) (w : World) (hr : BookAt w b xc gs cs ga ca s) (hv : Inv s) :
    Calls Try.prog 44 #[.pointer (some ⟨b, 0, none⟩)] w fun e w' => e = .returned (.int .i64 ((tip s : Nat) : Int)) ∧ Below w.heap.size w w' := by
  have hi := hv.wk
  have hsm := hi.small
  have hl0 := hi.len
  go_enter Try.func44, Try.ntmps44
  go_wp2
  go_loopw [3, 4, 5] (fun bs lg i wr => ∃ (k best hb : Nat), k ≤ s.all.length ∧ i = .int .i64 k ∧ bs = .int .i64 best ∧ lg = .int .i64 ((hb : Int) + 1) ∧ hb ≤ 20000 ∧ best < s.all.length ∧ Hid (hb = height s.all best ∧ Best s.all k best) ∧ Below w.heap.size w wr)
    (fun _ _ i _ => s.all.length - (intOf i).toNat)
  case atStart =>
    refine ⟨0, 0, 0, Nat.zero_le _, rfl, rfl, rfl, by omega, hl0, ?_, Below.refl _ _⟩
    show _ ∧ _
    exact ⟨rfl, by intro i h; omega, by intro i h; omega⟩
  case round =>
    obtain ⟨k, best, hb, hk, rfl, rfl, rfl, hbs, hbl, HB, hbel⟩ := hrel
    have hr1 := hr.keep hbel
    have hsz := hbel.size
    have c8 := cell_of_cells (j := 8) hr1.blk rfl
    by_cases hlt : k < s.all.length
    · have hkh := hi.hs k hlt
      have hll := line_length hi.tree k
      go_wp2_with fail
      refine (bline_any b xc gs cs ga ca s k _ hr1 hi hlt).mono ?_
      rintro e w1 ⟨g, cap, rfl, ho, hb1⟩
      have HBB := Go.Proofs.Ytpaakikgfojplab.hid (hbel.trans (hb1.mono hsz))
      rw [show (line s.all k).reverse.length = height s.all k + 1 by rw [List.length_reverse, hll]]
      clear ho hb1 hbel hr1 c8 hll
      have HK : Hid (∀ x, x = height s.all k → x = height s.all k) := fun x h => h
      generalize hKH : height s.all k = kh at *
      have HKH := Go.Proofs.Ytpaakikgfojplab.hid hKH
      clear hKH HK
      by_cases hc : hb < kh
      · go_wp2
        go_roundw
        case rel =>
          refine ⟨k + 1, k, kh, by omega, by go_num, rfl, by go_num, by omega, hlt, ?_, HBB.out⟩
          show _ ∧ _
          have h1 := HB.out
          have h2 := HKH.out
          refine ⟨h2.symm, ?_, ?_⟩
          · intro i h
            rcases Nat.lt_or_ge i k with h3 | h3
            · have := h1.2.1 i h3; omega
            · have : i = k := by omega
              subst this; omega
          · intro i h
            have := h1.2.1 i h; omega
        case measure => simp [intOf]; omega
      · go_wp2
        go_roundw
        case rel =>
          refine ⟨k + 1, best, hb, by omega, by go_num, rfl, by go_num, hbs, hbl, ?_, HBB.out⟩
          show _ ∧ _
          have h1 := HB.out
          have h2 := HKH.out
          refine ⟨h1.1, ?_, h1.2.2⟩
          intro i h
          rcases Nat.lt_or_ge i k with h3 | h3
          · exact h1.2.1 i h3
          · have : i = k := by omega
            subst this; omega
        case measure => simp [intOf]; omega
    · have hT : best = tip s := by
        have := HB.out.2
        rw [show k = s.all.length by omega] at this
        exact best_tip hv hbl this
      have HT := Go.Proofs.Ytpaakikgfojplab.hid hT
      clear hT HB hr1
      go_wp2
      go_ret
      exact ⟨by rw [← HT.out]; rfl, hbel⟩

set_option maxHeartbeats 1600000 in
set_option maxRecDepth 1000000 in
theorem bfinal_any (b xc gs cs ga ca : Nat) (s : St) (w : World) (hr : BookAt w b xc gs cs ga ca s) (hv : Inv s) :
    Calls Try.prog 15 #[.pointer (some ⟨b, 0, none⟩)] w fun e w' => e = .returned (.int .i64 ((fin s : Nat) : Int)) ∧ Below w.heap.size w w' := by
  have hi := hv.wk
  have ht := hi.klt _ hi.tip
  have hh := hi.hs _ ht
  have hl := line_length hi.tree (tip s)
  have d1 := hi.d1
  have d2 := hi.d2
  go_enter Try.func15, Try.ntmps15
  go_wp2_with fail
  refine (btip_any b xc gs cs ga ca s _ hr hv).mono ?_
  rintro e w1 ⟨rfl, hb1⟩
  have hr1 := hr.keep hb1
  have hs1 := hb1.size
  go_wp2_with fail
  refine (bline_any b xc gs cs ga ca s (tip s) _ hr1 hi ht).mono ?_
  rintro e w2 ⟨g, cap, rfl, ho, hb2⟩
  have hr2 := hr1.keep hb2
  have c1 := cell_of_cells (j := 1) hr2.blk rfl
  have HB := Go.Proofs.Ytpaakikgfojplab.hid (hb1.trans (hb2.mono hs1))
  have hrl : (line s.all (tip s)).reverse.length = height s.all (tip s) + 1 := by rw [List.length_reverse, hl]
  by_cases hd : (height s.all (tip s) : Int) < s.par.depth
  · have HF := Go.Proofs.Ytpaakikgfojplab.hid (show fin s = 0 by unfold fin finOf; rw [if_pos hd])
    rw [hrl]
    clear hr2 ho hl hr hr1 hb1 hb2 hrl
    generalize hH : height s.all (tip s) = H at *
    clear hH
    go_wp2
    go_ret
    exact ⟨by rw [HF.out]; rfl, HB.out⟩
  · obtain ⟨dn, hdn⟩ : ∃ n : Nat, s.par.depth = (n : Int) := ⟨s.par.depth.toNat, by omega⟩
    have hfr := fin_rev hi hd
    have hdt : s.par.depth.toNat = dn := by omega
    rw [hdt] at hfr
    have cd := (ho.cellAt dn (by omega)).trans (dcells_at _ _ (by omega))
    rw [hfr] at cd
    rw [hdn] at c1
    rw [hrl]
    have i1 : (0 : Int) ≤ (dn : Int) := by omega
    have i2 : (dn : Int) < ((height s.all (tip s) : Nat) : Int) + 1 := by omega
    have i3 : ¬ ((height s.all (tip s) : Nat) : Int) + 1 ≤ (dn : Int) := by omega
    clear hr2 ho hl hr hr1 hb1 hb2 hrl hfr hdt hd hdn
    generalize hH : height s.all (tip s) = H at *
    clear hH
    go_wp2
    go_ret
    exact ⟨rfl, HB.out⟩

set_option maxHeartbeats 1600000 in
set_option maxRecDepth 1000000 in
theorem bkept_any (b xc gs cs ga ca : Nat) (s : St) (w : World) (hr : BookAt w b xc gs cs ga ca s) (hv : Inv s) :
    Calls Try.prog 17 #[.pointer (some ⟨b, 0, none⟩)] w fun e w' => ∃ g cap, e = .returned (.slice (some ⟨g, 0, none⟩) s.keep.length cap) ∧ w'.ownsRow w.heap.size 3 1 (.slice (some ⟨g, 0, none⟩) s.keep.length cap) s.keep.length (dcells s.keep) ∧ Below w.heap.size w w' := by
  obtain ⟨i0, hi0, hz0, hz1, hz2⟩ := info_parts Try.info3
  have hi := hv.wk
  have hsm := hi.small
  go_enter Try.func17, Try.ntmps17
  go_wp2_with fail
  refine (bfinal_any b xc gs cs ga ca s _ hr hv).mono ?_
  rintro e w1 ⟨rfl, hb1⟩
  have hr1 := hr.keep hb1
  have hs1 := hb1.size
  have HKE := Go.Proofs.Ytpaakikgfojplab.hid (keep_eq hv)
  clear hr
  go_wp2
  go_loopw [4, 5] (fun kp i wr => ∃ (j : Nat) (os : List Nat), j ≤ s.all.length ∧ i = .int .i64 j ∧ os.length ≤ j ∧ Hid (os = (List.range j).filter fun k => has (line s.all k) (fin s)) ∧ wr.ownsRow w1.heap.size 3 1 kp os.length (dcells os) ∧ Below w1.heap.size w1 wr)
    (fun _ i _ => s.all.length - (intOf i).toNat)
  case atStart => exact ⟨0, [], Nat.zero_le _, rfl, Nat.le_refl _, by unfold Hid; simp, World.ownsRow_nil _ _ _ _, Below.refl _ _⟩
  case round =>
    obtain ⟨j, os, hj, rfl, hosl, HOS, hout, hbel⟩ := hrel
    have hrr := hr1.keep hbel
    have hsz := hbel.size
    have c8 := cell_of_cells (j := 8) hrr.blk rfl
    by_cases hlt : j < s.all.length
    · have hft := filter_range_succ j (fun k => has (line s.all k) (fin s))
      rw [← HOS.out] at hft
      have HFT := Go.Proofs.Ytpaakikgfojplab.hid hft
      clear hft HOS
      go_wp2_with fail
      refine (bline_any b xc gs cs ga ca s j _ hrr hi hlt).mono ?_
      rintro e wA ⟨g, cap, rfl, ho, hbA⟩
      have hsA' := hbA.size
      have houtA := row_keep hout hbA (Nat.le_refl _)
      have hbelA := hbel.trans (hbA.mono hsz)
      have hll : (line s.all j).reverse.length ≤ 1000000 := by
        have := line_length hi.tree j
        have := hi.hs j hlt
        simp; omega
      have hhr : has (line s.all j).reverse (fin s : Int) = has (line s.all j) (fin s : Int) := by
        rw [Bool.eq_iff_iff, has_nat, has_nat]; simp
      clear c8 hrr hbel hbA hout
      generalize (line s.all j).reverse = R at *
      have HHR := Go.Proofs.Ytpaakikgfojplab.hid hhr
      clear hhr
      go_wp2_with fail
      refine (bhas_any _ g cap R (fin s : Int) _ ho hll).mono ?_
      rintro e wB ⟨rfl, rfl⟩
      rw [HHR.out]
      clear ho hll HHR
      cases hh : has (line s.all j) (fin s : Int)
      · simp only [hh] at HFT
        go_wp2
        go_roundw
        case rel => exact ⟨j + 1, os, by omega, by go_num, by omega, by have := HFT.out; unfold Hid; rw [this]; simp, houtA, hbelA⟩
        case measure => simp [intOf]; omega
      · simp only [hh] at HFT
        clear hh
        go_wp2_with (at_builtin; refine wpList_append_lies _ rfl (.tmp 24) (.tmp 26) 22 rfl w1.heap.size 3 i0 (.int .i64 0) 1 8 Try.underlying22 hi0 hz0 hz1 hz2 rfl (by omega) _ os.length (dcells os) rfl (houtA.alloc _) ⟨wA.heap.size, 0, none⟩ 1 1 [.int .i64 (j : Int)] rfl rfl (cell_one_new _ _ _) (one_int _) (by omega) (by unfold maxLen; omega) (by omega) (by simp; omega) (wA.heap.size + 1) (by simp) ?_)
        intro gq capq wq hownq hgrowq hatq hltq
        have hrow := fun k (e : Value.ownBlock u4 = some k) => (houtA.lt k e).1
        have HB := Go.Proofs.Ytpaakikgfojplab.hid ((hbelA.alloc (by omega) _).grown hgrowq (by simp; omega) hrow)
        have HO := Go.Proofs.Ytpaakikgfojplab.hid hownq
        clear hownq hgrowq hatq hbelA houtA hrow
        go_wp2
        go_roundw
        case rel =>
          refine ⟨j + 1, os ++ [j], by omega, by go_num, by simp; omega, by have := HFT.out; unfold Hid; rw [this]; simp, ?_, HB.out⟩
          rw [List.length_append, dcells_append]
          exact HO.out
        case measure => simp [intOf]; omega
    · have hos : os = s.keep := by
        rw [HOS.out, show j = s.all.length by omega]; exact HKE.out
      have hpos : 0 < os.length := by rw [hos]; exact hi.kne
      obtain ⟨go, co, rfl, _, _⟩ := hout.form hpos
      have HE := Go.Proofs.Ytpaakikgfojplab.hid hos
      have HB := Go.Proofs.Ytpaakikgfojplab.hid (hb1.trans (hbel.mono hs1))
      clear hos HOS hrr hbel
      go_wp2
      go_ret
      refine ⟨go, co, by rw [← HE.out]; rfl, ?_, HB.out⟩
      rw [← HE.out]
      exact row_weak hout hs1

set_option maxHeartbeats 400000 in
theorem begins_any (b xc gs cs ga ca : Nat) (s : St) (id : Nat) (w : World) (hr : BookAt w b xc gs cs ga ca s) (hv : Inv s) (hl : id < s.all.length) :
    Calls Try.prog 22 #[.pointer (some ⟨b, 0, none⟩), .int .i64 (id : Int)] w fun e w' => e = .returned (.int .i64 (if id = 0 then 0 else (hd s.all id).slot + 1)) ∧ w = w' := by
  have c8 := cell_of_cells (j := 8) hr.blk rfl
  have h0 := (hr.hdr_at hl).c0
  have hb := slot_bounds hv hl
  have hsm := hv.wk.small
  clear hr
  by_cases h : id = 0
  · subst h
    go_enter Try.func22, Try.ntmps22
    go_wp2
    go_ret
    exact ⟨rfl, rfl⟩
  · have h' : ((id : Int) == 0) = false := by rw [beq_eq_false_iff_ne]; omega
    rw [if_neg h]
    generalize (hd s.all id).slot = q at *
    go_enter Try.func22, Try.ntmps22
    go_wp2
    go_ret
    exact ⟨rfl, rfl⟩

end Go.Proofs.Ytpaakikgfojplab

