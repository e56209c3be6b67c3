import Derived.Test.YtgeihfmhbifleaaCRefLine
import Derived.Deep.RegionHeld3
import Derived.Deep.DrawnRows
import Derived.Test.YtgeihfmhbifleaaCM6
/-
  THE WALKS of beaconref: Path, Final, missing, pool, slots; what goes with a header.
-/
namespace Go.Proofs.Ytgeihfmhbifleaa
open Go.RowKit Num Bk
set_option linter.unusedVariables false

set_option maxHeartbeats 400000 in
theorem path_any (x gs cs ga ca gk ck : Nat) (s : St) (w : World) (hr : RefAt w x gs cs ga ca gk ck s) (hi : Wk s) :
    Calls Try.prog 100 #[.pointer (some ⟨x, 0, none⟩)] w fun e w' => ∃ g cap, e = .returned (.slice (some ⟨g, 0, none⟩) (line s.all (tip s)).length cap) ∧
      w'.ownsRow w.heap.size 3 1 (.slice (some ⟨g, 0, none⟩) (line s.all (tip s)).length cap) (line s.all (tip s)).length (dcells (line s.all (tip s))) ∧ Below w.heap.size w w' := by
  have ht := hi.klt _ hi.tip
  go_enter Try.func100, Try.ntmps100
  go_wp2_with fail
  refine (tip_any x gs cs ga ca gk ck s _ hr hi).mono ?_
  rintro e w1 ⟨rfl, hb⟩
  have hsz := hb.size
  go_wp2_with fail
  refine (line_any x gs cs ga ca gk ck s (tip s) _ (hr.keep hb) hi ht).mono ?_
  rintro e w2 ⟨g, cap, rfl, ho, hb2⟩
  have HO := Go.Proofs.Ytgeihfmhbifleaa.hid ho
  have HB := Go.Proofs.Ytgeihfmhbifleaa.hid (hb.trans (hb2.mono hsz))
  clear ho hb hb2
  go_wp2
  go_ret
  exact ⟨g, cap, rfl, row_weak HO.out hsz, HB.out⟩

set_option maxHeartbeats 800000 in
theorem final_any (x gs cs ga ca gk ck : Nat) (s : St) (w : World) (hr : RefAt w x gs cs ga ca gk ck s) (hi : Wk s) :
    Calls Try.prog 96 #[.pointer (some ⟨x, 0, none⟩)] w fun e w' => e = .returned (.int .i64 ((fin s : Nat) : Int)) ∧ Below w.heap.size w w' := by
  have ht := hi.klt _ hi.tip
  have hh := hi.hs _ ht
  have hl := line_length hi.tree (tip s)
  have d1 := hi.d1
  have d2 := hi.d2
  go_enter Try.func96, Try.ntmps96
  go_wp2_with fail
  refine (path_any x gs cs ga ca gk ck s _ hr hi).mono ?_
  rintro e w1 ⟨g, cap, rfl, ho, hb⟩
  have hr1 := hr.keep hb
  have c0 := cell_of_cells (j := 0) hr1.blk rfl
  by_cases hd : (height s.all (tip s) : Int) < s.par.depth
  · have hf : fin s = 0 := by unfold fin finOf; rw [if_pos hd]
    have HF := Go.Proofs.Ytgeihfmhbifleaa.hid hf
    have hd' : ((((line s.all (tip s)).length : Nat) : Int)) ≤ s.par.depth := by rw [hl]; omega
    clear hf hr1 ho hl hr
    generalize (line s.all (tip s)).length = n at *
    go_wp2
    go_ret
    exact ⟨by rw [HF.out]; rfl, hb⟩
  · obtain ⟨dn, hdn⟩ : ∃ n : Nat, s.par.depth = (n : Int) := ⟨s.par.depth.toNat, by omega⟩
    have hdt : s.par.depth.toNat = dn := by omega
    have hf : fin s = (line s.all (tip s)).getD (height s.all (tip s) - dn) 0 := by unfold fin finOf; rw [if_neg hd, hdt]
    have c1 := (ho.cellAt (height s.all (tip s) - dn) (by omega)).trans (dcells_at _ _ (by omega))
    rw [← hf] at c1
    rw [hdn] at c0
    have e1 : height s.all (tip s) - dn + dn = height s.all (tip s) := by omega
    generalize height s.all (tip s) - dn = m at *
    have hlen : (line s.all (tip s)).length = m + dn + 1 := by omega
    rw [hlen]
    have hmb : m ≤ 20000 := by omega
    have hdb : dn ≤ 20000 := by omega
    have hd2 : 1 ≤ dn := by omega
    have i1 : (0 : Int) ≤ (m : Int) := by omega
    clear hf hl hr1 ho hr hlen hdt hd d1 d2 e1 hdn hh
    go_wp2
    go_ret
    exact ⟨rfl, hb⟩


set_option maxHeartbeats 800000 in
theorem missing_any (x gs cs ga ca gk ck : Nat) (s : St) (id : Int) (w : World) (hr : RefAt w x gs cs ga ca gk ck s) (hi : Wk s) :
    Calls Try.prog 118 #[.pointer (some ⟨x, 0, none⟩), .int .i64 id] w fun e w' => e = .returned (.int .i64 (missing s id)) ∧ Below w.heap.size w w' := by
  have kl := hi.kl
  have c8 := cell_of_cells (j := 8) hr.blk rfl
  go_enter Try.func118, Try.ntmps118
  go_wp2_with fail
  refine (in_any 0 gk ck s.keep id _ hr.kep (by omega)).mono ?_
  rintro e w1 ⟨rfl, rfl⟩
  cases hk : has s.keep id
  · go_wp2_with fail
    refine (final_any x gs cs ga ca gk ck s _ hr hi).mono ?_
    rintro e w1 ⟨rfl, hb⟩
    have hsz := hb.size
    go_wp2_with fail
    refine (line_any x gs cs ga ca gk ck s (fin s) _ (hr.keep hb) hi hi.fin_lt).mono ?_
    rintro e w2 ⟨g, cap, rfl, ho, hb2⟩
    have hll : (line s.all (fin s)).length ≤ 1000000 := by
      have := line_length hi.tree (fin s)
      have := hi.hs _ hi.fin_lt
      omega
    have HB := Go.Proofs.Ytgeihfmhbifleaa.hid (hb.trans (hb2.mono hsz))
    clear hb hb2
    go_wp2_with fail
    refine (in_any _ g cap (line s.all (fin s)) id _ ho hll).mono ?_
    rintro e w3 ⟨rfl, rfl⟩
    have hm : missing s id = if has (line s.all (fin s)) id then 2 else 3 := by unfold missing; rw [hk]; rfl
    clear ho hk
    cases h2 : has (line s.all (fin s)) id
    · rw [h2] at hm
      have HM := Go.Proofs.Ytgeihfmhbifleaa.hid hm
      clear hm h2
      go_wp2
      go_ret
      exact ⟨by rw [HM.out]; rfl, HB.out⟩
    · rw [h2] at hm
      have HM := Go.Proofs.Ytgeihfmhbifleaa.hid hm
      clear hm h2
      go_wp2
      go_ret
      exact ⟨by rw [HM.out]; rfl, HB.out⟩
  · have HM := Go.Proofs.Ytgeihfmhbifleaa.hid (show missing s id = 0 by unfold missing; rw [hk]; rfl)
    clear hk
    go_wp2
    go_ret
    exact ⟨by rw [HM.out]; rfl, Below.refl _ _⟩

set_option maxHeartbeats 400000 in
theorem pool_any (x gs cs ga ca gk ck : Nat) (s : St) (n : Int) (w : World) (hr : RefAt w x gs cs ga ca gk ck s) :
    Calls Try.prog 120 #[.pointer (some ⟨x, 0, none⟩), .int .i64 n] w fun e w' => e = .returned (.bool (poolOk s n)) ∧ w = w' := by
  have c6 := cell_of_cells (j := 6) hr.blk rfl
  have hp : poolOk s n = (decide (0 ≤ n) && decide (n < s.par.stakes.length)) := rfl
  have HP := Go.Proofs.Ytgeihfmhbifleaa.hid hp
  clear hp hr
  by_cases h1 : 0 ≤ n
  · by_cases h2 : n < (s.par.stakes.length : Int)
    · go_enter Try.func120, Try.ntmps120
      go_wp2
      go_ret
      exact ⟨by rw [HP.out]; simp [h1, h2], rfl⟩
    · go_enter Try.func120, Try.ntmps120
      go_wp2
      go_ret
      exact ⟨by rw [HP.out]; simp [h2], rfl⟩
  · go_enter Try.func120, Try.ntmps120
    go_wp2
    go_ret
    exact ⟨by rw [HP.out]; simp; omega, rfl⟩

/-- A header's seven cells. -/
structure HdrAt (w : World) (g i : Nat) (h : Hdr) : Prop where
  c0 : w.cell? ⟨g, i * 8, none⟩ = some (.int .i64 h.slot)
  c1 : w.cell? ⟨g, i * 8 + 1, none⟩ = some (.int .i64 h.pool)
  c2 : w.cell? ⟨g, i * 8 + 2, none⟩ = some (.int .i64 h.proof)
  c3 : w.cell? ⟨g, i * 8 + 3, none⟩ = some (.int .i64 h.count)
  c4 : w.cell? ⟨g, i * 8 + 4, none⟩ = some (.int .i64 h.frm)
  c5 : w.cell? ⟨g, i * 8 + 5, none⟩ = some (.int .i64 h.dst)
  c6 : w.cell? ⟨g, i * 8 + 6, none⟩ = some (.int .i64 h.amount)

theorem RefAt.hdr_at {w : World} {x gs cs ga ca gk ck : Nat} {s : St} (h : RefAt w x gs cs ga ca gk ck s) {i : Nat} (hi : i < s.all.length) : HdrAt w ga i (hd s.all i) := by
  have key : ∀ j, j < 8 → w.cell? ⟨ga, i * 8 + j, none⟩ = (itcells (item s.all i))[j]? := fun j hj => by
    rw [h.all.cellAt _ (by omega), acells_at _ _ _ hi hj]
  exact ⟨key 0 (by omega), key 1 (by omega), key 2 (by omega), key 3 (by omega), key 4 (by omega), key 5 (by omega), key 6 (by omega)⟩

set_option maxHeartbeats 800000 in
theorem slots_any (x gs cs ga ca gk ck : Nat) (s : St) (id : Nat) (slot : Int) (w : World) (hr : RefAt w x gs cs ga ca gk ck s) (hi : Wk s) (hl : id < s.all.length) :
    Calls Try.prog 119 #[.pointer (some ⟨x, 0, none⟩), .int .i64 (id : Int), .int .i64 slot] w fun e w' => e = .returned (.bool (slotOk s id slot)) ∧ w = w' := by
  have c7 := cell_of_cells (j := 7) hr.blk rfl
  have h0 := (hr.hdr_at hl).c0
  have hsm := hi.small
  have HP := Go.Proofs.Ytgeihfmhbifleaa.hid (show slotOk s id slot = (decide (0 ≤ slot) && decide (slot ≤ 10000) && (decide (id = 0) || decide ((hd s.all id).slot < slot))) from rfl)
  clear hr hi
  generalize (hd s.all id).slot = q at *
  by_cases h1 : slot < 0
  · go_enter Try.func119, Try.ntmps119
    go_wp2
    go_ret
    exact ⟨by rw [HP.out]; simp [show ¬ 0 ≤ slot by omega], rfl⟩
  · by_cases h2 : 10000 < slot
    · go_enter Try.func119, Try.ntmps119
      go_wp2
      go_ret
      exact ⟨by rw [HP.out]; simp [show ¬ slot ≤ 10000 by omega], rfl⟩
    · by_cases h3 : id = 0
      · subst h3
        go_enter Try.func119, Try.ntmps119
        go_wp2
        go_ret
        exact ⟨by rw [HP.out]; simp; omega, rfl⟩
      · have h3' : ((id : Int) == 0) = false := by rw [beq_eq_false_iff_ne]; omega
        by_cases h4 : q < slot
        · go_enter Try.func119, Try.ntmps119
          go_wp2
          go_ret
          exact ⟨by rw [HP.out]; simp [h4, show 0 ≤ slot by omega, show slot ≤ 10000 by omega], rfl⟩
        · go_enter Try.func119, Try.ntmps119
          go_wp2
          go_ret
          exact ⟨by rw [HP.out]; simp [h4, h3], rfl⟩

end Go.Proofs.Ytgeihfmhbifleaa

/-
  The statements' book (package beaconkeep) in memory; line, has, tip, final, kept.
-/
namespace Go.Proofs.Ytgeihfmhbifleaa
open Go.RowKit Num Bk
set_option linter.unusedVariables false

structure BookAt (w : World) (b xc gs cs ga ca : Nat) (s : St) : Prop where
  blk : w.heap[b]? = some (.cells #[.pointer (some ⟨xc, 0, none⟩), .int .i64 s.par.depth, .int .i64 s.par.epoch, .int .i64 s.par.room, .int .i64 s.par.a, .int .i64 s.par.b, .int .i64 s.par.nonce,
      .slice (some ⟨gs, 0, none⟩) s.par.stakes.length cs, .slice (some ⟨ga, 0, none⟩) s.all.length ca] 44 (0, 0))
  stk : w.ownsRow 0 3 1 (.slice (some ⟨gs, 0, none⟩) s.par.stakes.length cs) s.par.stakes.length (icells s.par.stakes)
  all : w.ownsRow 0 93 8 (.slice (some ⟨ga, 0, none⟩) s.all.length ca) s.all.length (acells s.all)

theorem BookAt.keep {w w' : World} {b xc gs cs ga ca : Nat} {s : St} (h : BookAt w b xc gs cs ga ca s) (hb : Below w.heap.size w w') : BookAt w' b xc gs cs ga ca s :=
  ⟨by rw [hb.block b (lt_of_block h.blk)]; exact h.blk, row_keep h.stk hb (Nat.le_refl _), row_keep h.all hb (Nat.le_refl _)⟩

theorem BookAt.fr {F : Nat → Prop} {w w' : World} {b xc gs cs ga ca : Nat} {s : St} (h : BookAt w b xc gs cs ga ca s) (hb : Fr F w w') (h1 : ¬ F b) (h2 : ¬ F gs) (h3 : ¬ F ga) : BookAt w' b xc gs cs ga ca s :=
  ⟨by rw [hb.block b (lt_of_block h.blk) h1]; exact h.blk, row_fr h.stk hb (by intro g e; simp [Value.ownBlock] at e; subst e; exact h2),
    row_fr h.all hb (by intro g e; simp [Value.ownBlock] at e; subst e; exact h3)⟩

theorem BookAt.par_at {w : World} {b xc gs cs ga ca : Nat} {s : St} (h : BookAt w b xc gs cs ga ca s) {i : Nat} (hi : i < s.all.length) : w.cell? ⟨ga, i * 8 + 7, none⟩ = some (.int .i64 ((pa s.all i : Nat) : Int)) := by
  rw [h.all.cellAt _ (by omega), acells_at _ _ _ hi (by omega)]; rfl

theorem BookAt.hdr_at {w : World} {b xc gs cs ga ca : Nat} {s : St} (h : BookAt w b xc gs cs ga ca s) {i : Nat} (hi : i < s.all.length) : HdrAt w ga i (hd s.all i) := by
  have key : ∀ j, j < 8 → w.cell? ⟨ga, i * 8 + j, none⟩ = (itcells (item s.all i))[j]? := fun j hj => by
    rw [h.all.cellAt _ (by omega), acells_at _ _ _ hi hj]
  exact ⟨key 0 (by omega), key 1 (by omega), key 2 (by omega), key 3 (by omega), key 4 (by omega), key 5 (by omega), key 6 (by omega)⟩

theorem BookAt.lts {w : World} {b xc gs cs ga ca : Nat} {s : St} (h : BookAt w b xc gs cs ga ca s) : b < w.heap.size ∧ gs < w.heap.size ∧ ga < w.heap.size :=
  ⟨lt_of_block h.blk, own_lt h.stk, own_lt h.all⟩

set_option maxHeartbeats 1600000 in
set_option maxRecDepth 1000000 in
theorem bline_any (b xc gs cs ga ca : Nat) (s : St) (id : Nat) (w : World) (hr : BookAt w b xc gs cs ga ca s) (hi : Wk s) (hid' : id < s.all.length) :
    Calls Try.prog 41 #[.pointer (some ⟨b, 0, none⟩), .int .i64 (id : Int)] w fun e w' => ∃ g cap, e = .returned (.slice (some ⟨g, 0, none⟩) (line s.all id).reverse.length cap) ∧
      w'.ownsRow w.heap.size 3 1 (.slice (some ⟨g, 0, none⟩) (line s.all id).reverse.length cap) (line s.all id).reverse.length (dcells (line s.all id).reverse) ∧ Below w.heap.size w w' := by
  obtain ⟨i0, hi0, hz0, hz1, hz2⟩ := info_parts Try.info3
  have hsm := hi.small
  have ht := hi.tree
  have hlen := line_length ht id
  have hhl := hi.hs id hid'
  go_enter Try.func41, Try.ntmps41
  go_wp2
  go_loopw [1, 5] (fun c o wr => ∃ (k : Nat) (os : List Nat), c = .int .i64 k ∧ k < s.all.length ∧ os.length ≤ 20002 ∧ Hid (os.reverse ++ [] = (line s.all id).drop (height s.all k) ∧ k ∈ line s.all id) ∧ wr.ownsRow w.heap.size 3 1 o os.length (dcells os) ∧ Below w.heap.size w wr)
    (fun c _ _ => (intOf c).toNat)
  case atStart =>
    refine ⟨id, [id], rfl, hid', by simp, ?_, World.ownsRow_lit (base := w.heap.size) (e := 3) (size := 1) w #[.int .i64 (id : Int)] 1 (Nat.le_refl _) (by unfold maxLen; omega) rfl, (Below.refl _ _).alloc (Nat.le_refl _) _⟩
    show _ ∧ _
    refine ⟨?_, line_self ht id⟩
    obtain ⟨h1, h2, h3⟩ := line_take ht id (height s.all id) (Nat.le_refl _)
    have e := line_unique ht h2 (line_self ht id) h3
    have hlt : height s.all id < (line s.all id).length := by omega
    rw [List.drop_eq_getElem_cons hlt, List.drop_of_length_le (by omega)]
    have e2 : (line s.all id)[height s.all id] = id := by
      have : (line s.all id).getD (height s.all id) 0 = (line s.all id)[height s.all id] := by simp [List.getD, hlt]
      rw [← this]; exact e
    rw [e2]; rfl
  case round =>
    obtain ⟨k, os, rfl, hk, hosl, HL, hown, hbel⟩ := hrel
    have hsz := hbel.size
    have HR := Go.Proofs.Ytgeihfmhbifleaa.hid hr
    have HT := Go.Proofs.Ytgeihfmhbifleaa.hid ht
    have hr1 := hr.keep hbel
    rcases Nat.eq_zero_or_pos k with h0 | h0
    · subst h0
      have e : os = (line s.all id).reverse := by
        have := HL.out.1
        rw [height_zero, List.drop_zero, List.append_nil] at this
        rw [← this, List.reverse_reverse]
      have hpos : 0 < os.length := by rw [e]; simp; omega
      obtain ⟨go, co, rfl, _, _⟩ := hown.form hpos
      have HE := Go.Proofs.Ytgeihfmhbifleaa.hid e
      clear e hr hr1 ht hlen
      go_wp2
      go_ret
      refine ⟨go, co, by rw [← HE.out]; rfl, ?_, hbel⟩
      rw [← HE.out]; exact hown
    · have c8 := cell_of_cells (j := 8) hr1.blk rfl
      have c2 := hr1.par_at hk
      have hpk := ht k h0
      have hp : pa s.all k < s.all.length := by omega
      have hstep : (os ++ [pa s.all k]).reverse ++ [] = (line s.all id).drop (height s.all (pa s.all k)) ∧ pa s.all k ∈ line s.all id := by
        have hm : pa s.all k ∈ line s.all id := by
          refine line_trans ht ?_ HL.out.2
          rw [line_step ht h0]; simp [line_self ht]
        refine ⟨?_, hm⟩
        have hh := height_step ht h0
        have hle := height_mem ht HL.out.2
        have hlt : height s.all (pa s.all k) < (line s.all id).length := by omega
        rw [List.drop_eq_getElem_cons hlt, ← hh, ← HL.out.1]
        obtain ⟨_, h2, h3⟩ := line_take ht id (height s.all (pa s.all k)) (by omega)
        have e := line_unique ht h2 hm h3
        have e2 : (line s.all id)[height s.all (pa s.all k)] = pa s.all k := by
          have : (line s.all id).getD (height s.all (pa s.all k)) 0 = (line s.all id)[height s.all (pa s.all k)] := by simp [List.getD, hlt]
          rw [← this]; exact e
        rw [e2]; simp
      have hol : os.length ≤ 20001 := by
        have h1 := congrArg List.length HL.out.1
        rw [List.length_append, List.length_reverse, List.length_drop, hlen] at h1
        have h2 := height_step ht h0
        simp at h1
        omega
      have HST := Go.Proofs.Ytgeihfmhbifleaa.hid hstep
      clear hr ht hlen hstep hr1 HL
      generalize pa s.all k = pk at *
      go_wp2_with (at_builtin; refine wpList_append_lies _ rfl (.tmp 18) (.tmp 20) 29 rfl w.heap.size 3 i0 (.int .i64 0) 1 8 Try.underlying29 hi0 hz0 hz1 hz2 rfl (by omega) _ os.length (dcells os) rfl (hown.alloc _) ⟨wr.heap.size, 0, none⟩ 1 1 [.int .i64 (pk : Int)] rfl rfl (cell_one_new _ _ _) (one_int _) (by omega) (by unfold maxLen; omega) (by omega) (by simp; omega) (wr.heap.size + 1) (by simp) ?_)
      intro g2 cap2 w1 hown2 hgrow hat hlt2
      have hrow := fun k (e : Value.ownBlock u5 = some k) => (hown.lt k e).1
      have HB := Go.Proofs.Ytgeihfmhbifleaa.hid ((hbel.alloc (by omega) _).grown hgrow (by simp; omega) hrow)
      have HO := Go.Proofs.Ytgeihfmhbifleaa.hid hown2
      clear hown2 hgrow hat hbel hown hrow
      go_wp2
      go_roundw
      case rel =>
        refine ⟨pk, os ++ [pk], rfl, by omega, by simp; omega, HST, ?_, HB.out⟩
        rw [List.length_append, dcells_append]
        exact HO.out
      case measure => simp [intOf]; omega

end Go.Proofs.Ytgeihfmhbifleaa

