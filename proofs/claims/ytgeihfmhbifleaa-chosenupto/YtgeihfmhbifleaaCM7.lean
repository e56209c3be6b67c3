import Derived.Test.YtgeihfmhbifleaaCRefLine
import Derived.Deep.RegionHeld3
import Derived.Deep.DrawnRows
import Derived.Test.YtgeihfmhbifleaaCM5
/-
  THE WALKS of beaconref: Path, Final, missing, pool, slots; what goes with a header.
-/
namespace Go.Proofs.Ytgeihfmhbifleaa
open Go.RowKit Num Bk
set_option linter.unusedVariables false

set_option maxHeartbeats 400000 in
theorem path_any (x gs cs ga ca gk ck : Nat) (s : St) (w : World) (hr : RefAt w x gs cs ga ca gk ck s) (hi : Wk s) :
    Calls Try.prog 100 #[.pointer (some ⟨x, 0, none⟩)] w fun e w' => ∃ g cap, e = .returned (.slice (some ⟨g, 0, none⟩) (line s.all (tip s)).length cap) ∧
      w'.ownsRow w.heap.size 3 1 (.slice (some ⟨g, 0, none⟩) (line s.all (tip s)).length cap) (line s.all (tip s)).length (dcells (line s.all (tip s))) ∧ Below w.heap.size w w' := by
  have ht := hi.klt _ hi.tip
  go_enter Try.func100, Try.ntmps100
  go_wp2_with fail
  refine (tip_any x gs cs ga ca gk ck s _ hr hi).mono ?_
  rintro e w1 ⟨rfl, hb⟩
  have hsz := hb.size
  go_wp2_with fail
  refine (line_any x gs cs ga ca gk ck s (tip s) _ (hr.keep hb) hi ht).mono ?_
  rintro e w2 ⟨g, cap, rfl, ho, hb2⟩
  have HO := Go.Proofs.Ytgeihfmhbifleaa.hid ho
  have HB := Go.Proofs.Ytgeihfmhbifleaa.hid (hb.trans (hb2.mono hsz))
  clear ho hb hb2
  go_wp2
  go_ret
  exact ⟨g, cap, rfl, row_weak HO.out hsz, HB.out⟩

set_option maxHeartbeats 800000 in
theorem final_any (x gs cs ga ca gk ck : Nat) (s : St) (w : World) (hr : RefAt w x gs cs ga ca gk ck s) (hi : Wk s) :
    Calls Try.prog 96 #[.pointer (some ⟨x, 0, none⟩)] w fun e w' => e = .returned (.int .i64 ((fin s : Nat) : Int)) ∧ Below w.heap.size w w' := by
  have ht := hi.klt _ hi.tip
  have hh := hi.hs _ ht
  have hl := line_length hi.tree (tip s)
  have d1 := hi.d1
  have d2 := hi.d2
  go_enter Try.func96, Try.ntmps96
  go_wp2_with fail
  refine (path_any x gs cs ga ca gk ck s _ hr hi).mono ?_
  rintro e w1 ⟨g, cap, rfl, ho, hb⟩
  have hr1 := hr.keep hb
  have c0 := cell_of_cells (j := 0) hr1.blk rfl
  by_cases hd : (height s.all (tip s) : Int) < s.par.depth
  · have hf : fin s = 0 := by unfold fin finOf; rw [if_pos hd]
    have HF := Go.Proofs.Ytgeihfmhbifleaa.hid hf
    have hd' : ((((line s.all (tip s)).length : Nat) : Int)) ≤ s.par.depth := by rw [hl]; omega
    clear hf hr1 ho hl hr
    generalize (line s.all (tip s)).length = n at *
    go_wp2
    go_ret
    exact ⟨by rw [HF.out]; rfl, hb⟩
  · obtain ⟨dn, hdn⟩ : ∃ n : Nat, s.par.depth = (n : Int) := ⟨s.par.depth.toNat, by omega⟩
    have hdt : s.par.depth.toNat = dn := by omega
    have hf : fin s = (line s.all (tip s)).getD (height s.all (tip s) - dn) 0 := by unfold fin finOf; rw [if_neg hd, hdt]
    have c1 := (ho.cellAt (height s.all (tip s) - dn) (by omega)).trans (dcells_at _ _ (by omega))
    rw [← hf] at c1
    rw [hdn] at c0
    have e1 : height s.all (tip s) - dn + dn = height s.all (tip s) := by omega
    generalize height s.all (tip s) - dn = m at *
    have hlen : (line s.all (tip s)).length = m + dn + 1 := by omega
    rw [hlen]
    have hmb : m ≤ 20000 := by omega
    have hdb : dn ≤ 20000 := by omega
    have hd2 : 1 ≤ dn := by omega
    have i1 : (0 : Int) ≤ (m : Int) := by omega
    clear hf hl hr1 ho hr hlen hdt hd d1 d2 e1 hdn hh
    go_wp2
    go_ret
    exact ⟨rfl, hb⟩


set_option maxHeartbeats 800000 in
theorem missing_any (x gs cs ga ca gk ck : Nat) (s : St) (id : Int) (w : World) (hr : RefAt w x gs cs ga ca gk ck s) (hi : Wk s) :
    Calls Try.prog 118 #[.pointer (some ⟨x, 0, none⟩), .int .i64 id] w fun e w' => e = .returned (.int .i64 (missing s id)) ∧ Below w.heap.size w w' := by
  have kl := hi.kl
  have c8 := cell_of_cells (j := 8) hr.blk rfl
  go_enter Try.func118, Try.ntmps118
  go_wp2_with fail
  refine (in_any 0 gk ck s.keep id _ hr.kep (by omega)).mono ?_
  rintro e w1 ⟨rfl, rfl⟩
  cases hk : has s.keep id
  · go_wp2_with fail
    refine (final_any x gs cs ga ca gk ck s _ hr hi).mono ?_
    rintro e w1 ⟨rfl, hb⟩
    have hsz := hb.size
    go_wp2_with fail
    refine (line_any x gs cs ga ca gk ck s (fin s) _ (hr.keep hb) hi hi.fin_lt).mono ?_
    rintro e w2 ⟨g, cap, rfl, ho, hb2⟩
    have hll : (line s.all (fin s)).length ≤ 1000000 := by
      have := line_length hi.tree (fin s)
      have := hi.hs _ hi.fin_lt
      omega
    have HB := Go.Proofs.Ytgeihfmhbifleaa.hid (hb.trans (hb2.mono hsz))
    clear hb hb2
    go_wp2_with fail
    refine (in_any _ g cap (line s.all (fin s)) id _ ho hll).mono ?_
    rintro e w3 ⟨rfl, rfl⟩
    have hm : missing s id = if has (line s.all (fin s)) id then 2 else 3 := by unfold missing; rw [hk]; rfl
    clear ho hk
    cases h2 : has (line s.all (fin s)) id
    · rw [h2] at hm
      have HM := Go.Proofs.Ytgeihfmhbifleaa.hid hm
      clear hm h2
      go_wp2
      go_ret
      exact ⟨by rw [HM.out]; rfl, HB.out⟩
    · rw [h2] at hm
      have HM := Go.Proofs.Ytgeihfmhbifleaa.hid hm
      clear hm h2
      go_wp2
      go_ret
      exact ⟨by rw [HM.out]; rfl, HB.out⟩
  · have HM := Go.Proofs.Ytgeihfmhbifleaa.hid (show missing s id = 0 by unfold missing; rw [hk]; rfl)
    clear hk
    go_wp2
    go_ret
    exact ⟨by rw [HM.out]; rfl, Below.refl _ _⟩

set_option maxHeartbeats 400000 in
theorem pool_any (x gs cs ga ca gk ck : Nat) (s : St) (n : Int) (w : World) (hr : RefAt w x gs cs ga ca gk ck s) :
    Calls Try.prog 120 #[.pointer (some ⟨x, 0, none⟩), .int .i64 n] w fun e w' => e = .returned (.bool (poolOk s n)) ∧ w = w' := by
  have c6 := cell_of_cells (j := 6) hr.blk rfl
  have hp : poolOk s n = (decide (0 ≤ n) && decide (n < s.par.stakes.length)) := rfl
  have HP := Go.Proofs.Ytgeihfmhbifleaa.hid hp
  clear hp hr
  by_cases h1 : 0 ≤ n
  · by_cases h2 : n < (s.par.stakes.length : Int)
    · go_enter Try.func120, Try.ntmps120
      go_wp2
      go_ret
      exact ⟨by rw [HP.out]; simp [h1, h2], rfl⟩
    · go_enter Try.func120, Try.ntmps120
      go_wp2
      go_ret
      exact ⟨by rw [HP.out]; simp [h2], rfl⟩
  · go_enter Try.func120, Try.ntmps120
    go_wp2
    go_ret
    exact ⟨by rw [HP.out]; simp; omega, rfl⟩

/-- A header's seven cells. -/
structure HdrAt (w : World) (g i : Nat) (h : Hdr) : Prop where
  c0 : w.cell? ⟨g, i * 8, none⟩ = some (.int .i64 h.slot)
  c1 : w.cell? ⟨g, i * 8 + 1, none⟩ = some (.int .i64 h.pool)
  c2 : w.cell? ⟨g, i * 8 + 2, none⟩ = some (.int .i64 h.proof)
  c3 : w.cell? ⟨g, i * 8 + 3, none⟩ = some (.int .i64 h.count)
  c4 : w.cell? ⟨g, i * 8 + 4, none⟩ = some (.int .i64 h.frm)
  c5 : w.cell? ⟨g, i * 8 + 5, none⟩ = some (.int .i64 h.dst)
  c6 : w.cell? ⟨g, i * 8 + 6, none⟩ = some (.int .i64 h.amount)

theorem RefAt.hdr_at {w : World} {x gs cs ga ca gk ck : Nat} {s : St} (h : RefAt w x gs cs ga ca gk ck s) {i : Nat} (hi : i < s.all.length) : HdrAt w ga i (hd s.all i) := by
  have key : ∀ j, j < 8 → w.cell? ⟨ga, i * 8 + j, none⟩ = (itcells (item s.all i))[j]? := fun j hj => by
    rw [h.all.cellAt _ (by omega), acells_at _ _ _ hi hj]
  exact ⟨key 0 (by omega), key 1 (by omega), key 2 (by omega), key 3 (by omega), key 4 (by omega), key 5 (by omega), key 6 (by omega)⟩

set_option maxHeartbeats 800000 in
theorem slots_any (x gs cs ga ca gk ck : Nat) (s : St) (id : Nat) (slot : Int) (w : World) (hr : RefAt w x gs cs ga ca gk ck s) (hi : Wk s) (hl : id < s.all.length) :
    Calls Try.prog 119 #[.pointer (some ⟨x, 0, none⟩), .int .i64 (id : Int), .int .i64 slot] w fun e w' => e = .returned (.bool (slotOk s id slot)) ∧ w = w' := by
  have c7 := cell_of_cells (j := 7) hr.blk rfl
  have h0 := (hr.hdr_at hl).c0
  have hsm := hi.small
  have HP := Go.Proofs.Ytgeihfmhbifleaa.hid (show slotOk s id slot = (decide (0 ≤ slot) && decide (slot ≤ 10000) && (decide (id = 0) || decide ((hd s.all id).slot < slot))) from rfl)
  clear hr hi
  generalize (hd s.all id).slot = q at *
  by_cases h1 : slot < 0
  · go_enter Try.func119, Try.ntmps119
    go_wp2
    go_ret
    exact ⟨by rw [HP.out]; simp [show ¬ 0 ≤ slot by omega], rfl⟩
  · by_cases h2 : 10000 < slot
    · go_enter Try.func119, Try.ntmps119
      go_wp2
      go_ret
      exact ⟨by rw [HP.out]; simp [show ¬ slot ≤ 10000 by omega], rfl⟩
    · by_cases h3 : id = 0
      · subst h3
        go_enter Try.func119, Try.ntmps119
        go_wp2
        go_ret
        exact ⟨by rw [HP.out]; simp; omega, rfl⟩
      · have h3' : ((id : Int) == 0) = false := by rw [beq_eq_false_iff_ne]; omega
        by_cases h4 : q < slot
        · go_enter Try.func119, Try.ntmps119
          go_wp2
          go_ret
          exact ⟨by rw [HP.out]; simp [h4, show 0 ≤ slot by omega, show slot ≤ 10000 by omega], rfl⟩
        · go_enter Try.func119, Try.ntmps119
          go_wp2
          go_ret
          exact ⟨by rw [HP.out]; simp [h4, h3], rfl⟩

end Go.Proofs.Ytgeihfmhbifleaa

/-
  The statements' book (package beaconkeep) in memory; line, has, tip, final, kept.
-/
namespace Go.Proofs.Ytgeihfmhbifleaa
open Go.RowKit Num Bk
set_option linter.unusedVariables false

structure BookAt (w : World) (b xc gs cs ga ca : Nat) (s : St) : Prop where
  blk : w.heap[b]? = some (.cells #[.pointer (some ⟨xc, 0, none⟩), .int .i64 s.par.depth, .int .i64 s.par.epoch, .int .i64 s.par.room, .int .i64 s.par.a, .int .i64 s.par.b, .int .i64 s.par.nonce,
      .slice (some ⟨gs, 0, none⟩) s.par.stakes.length cs, .slice (some ⟨ga, 0, none⟩) s.all.length ca] 44 (0, 0))
  stk : w.ownsRow 0 3 1 (.slice (some ⟨gs, 0, none⟩) s.par.stakes.length cs) s.par.stakes.length (icells s.par.stakes)
  all : w.ownsRow 0 93 8 (.slice (some ⟨ga, 0, none⟩) s.all.length ca) s.all.length (acells s.all)

theorem BookAt.keep {w w' : World} {b xc gs cs ga ca : Nat} {s : St} (h : BookAt w b xc gs cs ga ca s) (hb : Below w.heap.size w w') : BookAt w' b xc gs cs ga ca s :=
  ⟨by rw [hb.block b (lt_of_block h.blk)]; exact h.blk, row_keep h.stk hb (Nat.le_refl _), row_keep h.all hb (Nat.le_refl _)⟩

theorem BookAt.fr {F : Nat → Prop} {w w' : World} {b xc gs cs ga ca : Nat} {s : St} (h : BookAt w b xc gs cs ga ca s) (hb : Fr F w w') (h1 : ¬ F b) (h2 : ¬ F gs) (h3 : ¬ F ga) : BookAt w' b xc gs cs ga ca s :=
  ⟨by rw [hb.block b (lt_of_block h.blk) h1]; exact h.blk, row_fr h.stk hb (by intro g e; simp [Value.ownBlock] at e; subst e; exact h2),
    row_fr h.all hb (by intro g e; simp [Value.ownBlock] at e; subst e; exact h3)⟩

theorem BookAt.par_at {w : World} {b xc gs cs ga ca : Nat} {s : St} (h : BookAt w b xc gs cs ga ca s) {i : Nat} (hi : i < s.all.length) : w.cell? ⟨ga, i * 8 + 7, none⟩ = some (.int .i64 ((pa s.all i : Nat) : Int)) := by
  rw [h.all.cellAt _ (by omega), acells_at _ _ _ hi (by omega)]; rfl

theorem BookAt.hdr_at {w : World} {b xc gs cs ga ca : Nat} {s : St} (h : BookAt w b xc gs cs ga ca s) {i : Nat} (hi : i < s.all.length) : HdrAt w ga i (hd s.all i) := by
  have key : ∀ j, j < 8 → w.cell? ⟨ga, i * 8 + j, none⟩ = (itcells (item s.all i))[j]? := fun j hj => by
    rw [h.all.cellAt _ (by omega), acells_at _ _ _ hi hj]
  exact ⟨key 0 (by omega), key 1 (by omega), key 2 (by omega), key 3 (by omega), key 4 (by omega), key 5 (by omega), key 6 (by omega)⟩

theorem BookAt.lts {w : World} {b xc gs cs ga ca : Nat} {s : St} (h : BookAt w b xc gs cs ga ca s) : b < w.heap.size ∧ gs < w.heap.size ∧ ga < w.heap.size :=
  ⟨lt_of_block h.blk, own_lt h.stk, own_lt h.all⟩

set_option maxHeartbeats 1600000 in
set_option maxRecDepth 1000000 in
theorem bline_any (b xc gs cs ga ca : Nat) (s : St) (id : Nat) (w : World) (hr : BookAt w b xc gs cs ga ca s) (hi : Wk s) (hid' : id < s.all.length) :
    Calls Try.prog 41 #[.pointer (some ⟨b, 0, none⟩), .int .i64 (id : Int)] w fun e w' => ∃ g cap, e = .returned (.slice (some ⟨g, 0, none⟩) (line s.all id).reverse.length cap) ∧
      w'.ownsRow w.heap.size 3 1 (.slice (some ⟨g, 0, none⟩) (line s.all id).reverse.length cap) (line s.all id).reverse.length (dcells (line s.all id).reverse) ∧ Below w.heap.size w w' := by
  obtain ⟨i0, hi0, hz0, hz1, hz2⟩ := info_parts Try.info3
  have hsm := hi.small
  have ht := hi.tree
  have hlen := line_length ht id
  have hhl := hi.hs id hid'
  go_enter Try.func41, Try.ntmps41
  go_wp2
  go_loopw [1, 5] (fun c o wr => ∃ (k : Nat) (os : List Nat), c = .int .i64 k ∧ k < s.all.length ∧ os.length ≤ 20002 ∧ Hid (os.reverse ++ [] = (line s.all id).drop (height s.all k) ∧ k ∈ line s.all id) ∧ wr.ownsRow w.heap.size 3 1 o os.length (dcells os) ∧ Below w.heap.size w wr)
    (fun c _ _ => (intOf c).toNat)
  case atStart =>
    refine ⟨id, [id], rfl, hid', by simp, ?_, World.ownsRow_lit (base := w.heap.size) (e := 3) (size := 1) w #[.int .i64 (id : Int)] 1 (Nat.le_refl _) (by unfold maxLen; omega) rfl, (Below.refl _ _).alloc (Nat.le_refl _) _⟩
    show _ ∧ _
    refine ⟨?_, line_self ht id⟩
    obtain ⟨h1, h2, h3⟩ := line_take ht id (height s.all id) (Nat.le_refl _)
    have e := line_unique ht h2 (line_self ht id) h3
    have hlt : height s.all id < (line s.all id).length := by omega
    rw [List.drop_eq_getElem_cons hlt, List.drop_of_length_le (by omega)]
    have e2 : (line s.all id)[height s.all id] = id := by
      have : (line s.all id).getD (height s.all id) 0 = (line s.all id)[height s.all id] := by simp [List.getD, hlt]
      rw [← this]; exact e
    rw [e2]; rfl
  case round =>
    obtain ⟨k, os, rfl, hk, hosl, HL, hown, hbel⟩ := hrel
    have hsz := hbel.size
    have HR := Go.Proofs.Ytgeihfmhbifleaa.hid hr
    have HT := Go.Proofs.Ytgeihfmhbifleaa.hid ht
    have hr1 := hr.keep hbel
    rcases Nat.eq_zero_or_pos k with h0 | h0
    · subst h0
      have e : os = (line s.all id).reverse := by
        have := HL.out.1
        rw [height_zero, List.drop_zero, List.append_nil] at this
        rw [← this, List.reverse_reverse]
      have hpos : 0 < os.length := by rw [e]; simp; omega
      obtain ⟨go, co, rfl, _, _⟩ := hown.form hpos
      have HE := Go.Proofs.Ytgeihfmhbifleaa.hid e
      clear e hr hr1 ht hlen
      go_wp2
      go_ret
      refine ⟨go, co, by rw [← HE.out]; rfl, ?_, hbel⟩
      rw [← HE.out]; exact hown
    · have c8 := cell_of_cells (j := 8) hr1.blk rfl
      have c2 := hr1.par_at hk
      have hpk := ht k h0
      have hp : pa s.all k < s.all.length := by omega
      have hstep : (os ++ [pa s.all k]).reverse ++ [] = (line s.all id).drop (height s.all (pa s.all k)) ∧ pa s.all k ∈ line s.all id := by
        have hm : pa s.all k ∈ line s.all id := by
          refine line_trans ht ?_ HL.out.2
          rw [line_step ht h0]; simp [line_self ht]
        refine ⟨?_, hm⟩
        have hh := height_step ht h0
        have hle := height_mem ht HL.out.2
        have hlt : height s.all (pa s.all k) < (line s.all id).length := by omega
        rw [List.drop_eq_getElem_cons hlt, ← hh, ← HL.out.1]
        obtain ⟨_, h2, h3⟩ := line_take ht id (height s.all (pa s.all k)) (by omega)
        have e := line_unique ht h2 hm h3
        have e2 : (line s.all id)[height s.all (pa s.all k)] = pa s.all k := by
          have : (line s.all id).getD (height s.all (pa s.all k)) 0 = (line s.all id)[height s.all (pa s.all k)] := by simp [List.getD, hlt]
          rw [← this]; exact e
        rw [e2]; simp
      have hol : os.length ≤ 20001 := by
        have h1 := congrArg List.length HL.out.1
        rw [List.length_append, List.length_reverse, List.length_drop, hlen] at h1
        have h2 := height_step ht h0
        simp at h1
        omega
      have HST := Go.Proofs.Ytgeihfmhbifleaa.hid hstep
      clear hr ht hlen hstep hr1 HL
      generalize pa s.all k = pk at *
      go_wp2_with (at_builtin; refine wpList_append_lies _ rfl (.tmp 18) (.tmp 20) 29 rfl w.heap.size 3 i0 (.int .i64 0) 1 8 Try.underlying29 hi0 hz0 hz1 hz2 rfl (by omega) _ os.length (dcells os) rfl (hown.alloc _) ⟨wr.heap.size, 0, none⟩ 1 1 [.int .i64 (pk : Int)] rfl rfl (cell_one_new _ _ _) (one_int _) (by omega) (by unfold maxLen; omega) (by omega) (by simp; omega) (wr.heap.size + 1) (by simp) ?_)
      intro g2 cap2 w1 hown2 hgrow hat hlt2
      have hrow := fun k (e : Value.ownBlock u5 = some k) => (hown.lt k e).1
      have HB := Go.Proofs.Ytgeihfmhbifleaa.hid ((hbel.alloc (by omega) _).grown hgrow (by simp; omega) hrow)
      have HO := Go.Proofs.Ytgeihfmhbifleaa.hid hown2
      clear hown2 hgrow hat hbel hown hrow
      go_wp2
      go_roundw
      case rel =>
        refine ⟨pk, os ++ [pk], rfl, by omega, by simp; omega, HST, ?_, HB.out⟩
        rw [List.length_append, dcells_append]
        exact HO.out
      case measure => simp [intOf]; omega

end Go.Proofs.Ytgeihfmhbifleaa

/-
  THE WALKS of the statements' book: has, tip, final, kept, begins.
-/
namespace Go.Proofs.Ytgeihfmhbifleaa
open Go.RowKit Num Bk
set_option linter.unusedVariables false

set_option maxHeartbeats 800000 in
theorem bhas_any (base g cap : Nat) (ds : List Nat) (id : Int) (w : World) (hown : w.ownsRow base 3 1 (.slice (some ⟨g, 0, none⟩) ds.length cap) ds.length (dcells ds)) (hlen : ds.length ≤ 1000000) :
    Calls Try.prog 40 #[.slice (some ⟨g, 0, none⟩) ds.length cap, .int .i64 id] w fun e w' => e = .returned (.bool (has ds id)) ∧ w = w' := by
  go_enter Try.func40, Try.ntmps40
  go_wp2
  go_loop [5] (fun i => ∃ k : Nat, k ≤ ds.length ∧ i = .int .i64 k ∧ Hid (has (ds.take k) id = false)) (fun i => ds.length - (intOf i).toNat)
  case atStart => exact ⟨0, Nat.zero_le _, rfl, by unfold Hid; simp [has]⟩
  case round =>
    obtain ⟨k, hk, rfl, HN⟩ := hrel
    by_cases hlt : k < ds.length
    · have c1 := (hown.cellAt k (by omega)).trans (dcells_at ds k hlt)
      have hs := has_take ds k hlt id
      generalize ds.getD k 0 = d at *
      by_cases he : (d : Int) = id
      · have hb : ((d : Int) == id) = true := by simp [he]
        have hh : has ds id = true := by
          rw [has_iff]
          have : has (ds.take (k + 1)) id = true := by rw [hs, hb]; simp
          rw [has_iff] at this
          obtain ⟨x, hx, hx'⟩ := this
          exact ⟨x, List.mem_of_mem_take hx, hx'⟩
        have HH := Go.Proofs.Ytgeihfmhbifleaa.hid hh
        clear hs hh he
        go_wp2
        go_ret
        exact ⟨by rw [HH.out]; rfl, rfl⟩
      · have hb : ((d : Int) == id) = false := by simp [he]
        have HS := Go.Proofs.Ytgeihfmhbifleaa.hid (show has (ds.take (k + 1)) id = false by rw [hs, HN.out, hb]; rfl)
        clear hs he
        go_wp2
        go_round
        case rel => exact ⟨k + 1, by omega, by go_num, HS⟩
        case measure => simp [intOf]; omega
    · have hh : has ds id = false := by
        have := HN.out
        rw [List.take_of_length_le (by omega)] at this
        exact this
      have HH := Go.Proofs.Ytgeihfmhbifleaa.hid hh
      clear hh HN
      go_wp2
      go_ret
      exact ⟨by rw [HH.out]; rfl, rfl⟩


set_option maxHeartbeats 1600000 in
set_option maxRecDepth 1000000 in
theorem btip_any (b xc gs cs ga ca : Nat) (s : St) (w : World) (hr : BookAt w b xc gs cs ga ca s) (hv : Inv s) :
    Calls Try.prog 58 #[.pointer (some ⟨b, 0, none⟩)] w fun e w' => e = .returned (.int .i64 ((tip s : Nat) : Int)) ∧ Below w.heap.size w w' := by
  have hi := hv.wk
  have hsm := hi.small
  have hl0 := hi.len
  go_enter Try.func58, Try.ntmps58
  go_wp2
  go_loopw [3, 4, 5] (fun bs lg i wr => ∃ (k best hb : Nat), k ≤ s.all.length ∧ i = .int .i64 k ∧ bs = .int .i64 best ∧ lg = .int .i64 ((hb : Int) + 1) ∧ hb ≤ 20000 ∧ best < s.all.length ∧ Hid (hb = height s.all best ∧ Best s.all k best) ∧ Below w.heap.size w wr)
    (fun _ _ i _ => s.all.length - (intOf i).toNat)
  case atStart =>
    refine ⟨0, 0, 0, Nat.zero_le _, rfl, rfl, rfl, by omega, hl0, ?_, Below.refl _ _⟩
    show _ ∧ _
    exact ⟨rfl, by intro i h; omega, by intro i h; omega⟩
  case round =>
    obtain ⟨k, best, hb, hk, rfl, rfl, rfl, hbs, hbl, HB, hbel⟩ := hrel
    have hr1 := hr.keep hbel
    have hsz := hbel.size
    have c8 := cell_of_cells (j := 8) hr1.blk rfl
    by_cases hlt : k < s.all.length
    · have hkh := hi.hs k hlt
      have hll := line_length hi.tree k
      go_wp2_with fail
      refine (bline_any b xc gs cs ga ca s k _ hr1 hi hlt).mono ?_
      rintro e w1 ⟨g, cap, rfl, ho, hb1⟩
      have HBB := Go.Proofs.Ytgeihfmhbifleaa.hid (hbel.trans (hb1.mono hsz))
      rw [show (line s.all k).reverse.length = height s.all k + 1 by rw [List.length_reverse, hll]]
      clear ho hb1 hbel hr1 c8 hll
      have HK : Hid (∀ x, x = height s.all k → x = height s.all k) := fun x h => h
      generalize hKH : height s.all k = kh at *
      have HKH := Go.Proofs.Ytgeihfmhbifleaa.hid hKH
      clear hKH HK
      by_cases hc : hb < kh
      · go_wp2
        go_roundw
        case rel =>
          refine ⟨k + 1, k, kh, by omega, by go_num, rfl, by go_num, by omega, hlt, ?_, HBB.out⟩
          show _ ∧ _
          have h1 := HB.out
          have h2 := HKH.out
          refine ⟨h2.symm, ?_, ?_⟩
          · intro i h
            rcases Nat.lt_or_ge i k with h3 | h3
            · have := h1.2.1 i h3; omega
            · have : i = k := by omega
              subst this; omega
          · intro i h
            have := h1.2.1 i h; omega
        case measure => simp [intOf]; omega
      · go_wp2
        go_roundw
        case rel =>
          refine ⟨k + 1, best, hb, by omega, by go_num, rfl, by go_num, hbs, hbl, ?_, HBB.out⟩
          show _ ∧ _
          have h1 := HB.out
          have h2 := HKH.out
          refine ⟨h1.1, ?_, h1.2.2⟩
          intro i h
          rcases Nat.lt_or_ge i k with h3 | h3
          · exact h1.2.1 i h3
          · have : i = k := by omega
            subst this; omega
        case measure => simp [intOf]; omega
    · have hT : best = tip s := by
        have := HB.out.2
        rw [show k = s.all.length by omega] at this
        exact best_tip hv hbl this
      have HT := Go.Proofs.Ytgeihfmhbifleaa.hid hT
      clear hT HB hr1
      go_wp2
      go_ret
      exact ⟨by rw [← HT.out]; rfl, hbel⟩

set_option maxHeartbeats 1600000 in
set_option maxRecDepth 1000000 in
theorem bfinal_any (b xc gs cs ga ca : Nat) (s : St) (w : World) (hr : BookAt w b xc gs cs ga ca s) (hv : Inv s) :
    Calls Try.prog 39 #[.pointer (some ⟨b, 0, none⟩)] w fun e w' => e = .returned (.int .i64 ((fin s : Nat) : Int)) ∧ Below w.heap.size w w' := by
  have hi := hv.wk
  have ht := hi.klt _ hi.tip
  have hh := hi.hs _ ht
  have hl := line_length hi.tree (tip s)
  have d1 := hi.d1
  have d2 := hi.d2
  go_enter Try.func39, Try.ntmps39
  go_wp2_with fail
  refine (btip_any b xc gs cs ga ca s _ hr hv).mono ?_
  rintro e w1 ⟨rfl, hb1⟩
  have hr1 := hr.keep hb1
  have hs1 := hb1.size
  go_wp2_with fail
  refine (bline_any b xc gs cs ga ca s (tip s) _ hr1 hi ht).mono ?_
  rintro e w2 ⟨g, cap, rfl, ho, hb2⟩
  have hr2 := hr1.keep hb2
  have c1 := cell_of_cells (j := 1) hr2.blk rfl
  have HB := Go.Proofs.Ytgeihfmhbifleaa.hid (hb1.trans (hb2.mono hs1))
  have hrl : (line s.all (tip s)).reverse.length = height s.all (tip s) + 1 := by rw [List.length_reverse, hl]
  by_cases hd : (height s.all (tip s) : Int) < s.par.depth
  · have HF := Go.Proofs.Ytgeihfmhbifleaa.hid (show fin s = 0 by unfold fin finOf; rw [if_pos hd])
    rw [hrl]
    clear hr2 ho hl hr hr1 hb1 hb2 hrl
    generalize hH : height s.all (tip s) = H at *
    clear hH
    go_wp2
    go_ret
    exact ⟨by rw [HF.out]; rfl, HB.out⟩
  · obtain ⟨dn, hdn⟩ : ∃ n : Nat, s.par.depth = (n : Int) := ⟨s.par.depth.toNat, by omega⟩
    have hfr := fin_rev hi hd
    have hdt : s.par.depth.toNat = dn := by omega
    rw [hdt] at hfr
    have cd := (ho.cellAt dn (by omega)).trans (dcells_at _ _ (by omega))
    rw [hfr] at cd
    rw [hdn] at c1
    rw [hrl]
    have i1 : (0 : Int) ≤ (dn : Int) := by omega
    have i2 : (dn : Int) < ((height s.all (tip s) : Nat) : Int) + 1 := by omega
    have i3 : ¬ ((height s.all (tip s) : Nat) : Int) + 1 ≤ (dn : Int) := by omega
    clear hr2 ho hl hr hr1 hb1 hb2 hrl hfr hdt hd hdn
    generalize hH : height s.all (tip s) = H at *
    clear hH
    go_wp2
    go_ret
    exact ⟨rfl, HB.out⟩

set_option maxHeartbeats 1600000 in
set_option maxRecDepth 1000000 in
theorem bkept_any (b xc gs cs ga ca : Nat) (s : St) (w : World) (hr : BookAt w b xc gs cs ga ca s) (hv : Inv s) :
    Calls Try.prog 20 #[.pointer (some ⟨b, 0, none⟩)] w fun e w' => ∃ g cap, e = .returned (.slice (some ⟨g, 0, none⟩) s.keep.length cap) ∧ w'.ownsRow w.heap.size 3 1 (.slice (some ⟨g, 0, none⟩) s.keep.length cap) s.keep.length (dcells s.keep) ∧ Below w.heap.size w w' := by
  obtain ⟨i0, hi0, hz0, hz1, hz2⟩ := info_parts Try.info3
  have hi := hv.wk
  have hsm := hi.small
  go_enter Try.func20, Try.ntmps20
  go_wp2_with fail
  refine (bfinal_any b xc gs cs ga ca s _ hr hv).mono ?_
  rintro e w1 ⟨rfl, hb1⟩
  have hr1 := hr.keep hb1
  have hs1 := hb1.size
  have HKE := Go.Proofs.Ytgeihfmhbifleaa.hid (keep_eq hv)
  clear hr
  go_wp2
  go_loopw [4, 5] (fun kp i wr => ∃ (j : Nat) (os : List Nat), j ≤ s.all.length ∧ i = .int .i64 j ∧ os.length ≤ j ∧ Hid (os = (List.range j).filter fun k => has (line s.all k) (fin s)) ∧ wr.ownsRow w1.heap.size 3 1 kp os.length (dcells os) ∧ Below w1.heap.size w1 wr)
    (fun _ i _ => s.all.length - (intOf i).toNat)
  case atStart => exact ⟨0, [], Nat.zero_le _, rfl, Nat.le_refl _, by unfold Hid; simp, World.ownsRow_nil _ _ _ _, Below.refl _ _⟩
  case round =>
    obtain ⟨j, os, hj, rfl, hosl, HOS, hout, hbel⟩ := hrel
    have hrr := hr1.keep hbel
    have hsz := hbel.size
    have c8 := cell_of_cells (j := 8) hrr.blk rfl
    by_cases hlt : j < s.all.length
    · have hft := filter_range_succ j (fun k => has (line s.all k) (fin s))
      rw [← HOS.out] at hft
      have HFT := Go.Proofs.Ytgeihfmhbifleaa.hid hft
      clear hft HOS
      go_wp2_with fail
      refine (bline_any b xc gs cs ga ca s j _ hrr hi hlt).mono ?_
      rintro e wA ⟨g, cap, rfl, ho, hbA⟩
      have hsA' := hbA.size
      have houtA := row_keep hout hbA (Nat.le_refl _)
      have hbelA := hbel.trans (hbA.mono hsz)
      have hll : (line s.all j).reverse.length ≤ 1000000 := by
        have := line_length hi.tree j
        have := hi.hs j hlt
        simp; omega
      have hhr : has (line s.all j).reverse (fin s : Int) = has (line s.all j) (fin s : Int) := by
        rw [Bool.eq_iff_iff, has_nat, has_nat]; simp
      clear c8 hrr hbel hbA hout
      generalize (line s.all j).reverse = R at *
      have HHR := Go.Proofs.Ytgeihfmhbifleaa.hid hhr
      clear hhr
      go_wp2_with fail
      refine (bhas_any _ g cap R (fin s : Int) _ ho hll).mono ?_
      rintro e wB ⟨rfl, rfl⟩
      rw [HHR.out]
      clear ho hll HHR
      cases hh : has (line s.all j) (fin s : Int)
      · simp only [hh] at HFT
        go_wp2
        go_roundw
        case rel => exact ⟨j + 1, os, by omega, by go_num, by omega, by have := HFT.out; unfold Hid; rw [this]; simp, houtA, hbelA⟩
        case measure => simp [intOf]; omega
      · simp only [hh] at HFT
        clear hh
        go_wp2_with (at_builtin; refine wpList_append_lies _ rfl (.tmp 24) (.tmp 26) 29 rfl w1.heap.size 3 i0 (.int .i64 0) 1 8 Try.underlying29 hi0 hz0 hz1 hz2 rfl (by omega) _ os.length (dcells os) rfl (houtA.alloc _) ⟨wA.heap.size, 0, none⟩ 1 1 [.int .i64 (j : Int)] rfl rfl (cell_one_new _ _ _) (one_int _) (by omega) (by unfold maxLen; omega) (by omega) (by simp; omega) (wA.heap.size + 1) (by simp) ?_)
        intro gq capq wq hownq hgrowq hatq hltq
        have hrow := fun k (e : Value.ownBlock u4 = some k) => (houtA.lt k e).1
        have HB := Go.Proofs.Ytgeihfmhbifleaa.hid ((hbelA.alloc (by omega) _).grown hgrowq (by simp; omega) hrow)
        have HO := Go.Proofs.Ytgeihfmhbifleaa.hid hownq
        clear hownq hgrowq hatq hbelA houtA hrow
        go_wp2
        go_roundw
        case rel =>
          refine ⟨j + 1, os ++ [j], by omega, by go_num, by simp; omega, by have := HFT.out; unfold Hid; rw [this]; simp, ?_, HB.out⟩
          rw [List.length_append, dcells_append]
          exact HO.out
        case measure => simp [intOf]; omega
    · have hos : os = s.keep := by
        rw [HOS.out, show j = s.all.length by omega]; exact HKE.out
      have hpos : 0 < os.length := by rw [hos]; exact hi.kne
      obtain ⟨go, co, rfl, _, _⟩ := hout.form hpos
      have HE := Go.Proofs.Ytgeihfmhbifleaa.hid hos
      have HB := Go.Proofs.Ytgeihfmhbifleaa.hid (hb1.trans (hbel.mono hs1))
      clear hos HOS hrr hbel
      go_wp2
      go_ret
      refine ⟨go, co, by rw [← HE.out]; rfl, ?_, HB.out⟩
      rw [← HE.out]
      exact row_weak hout hs1

set_option maxHeartbeats 400000 in
theorem begins_any (b xc gs cs ga ca : Nat) (s : St) (id : Nat) (w : World) (hr : BookAt w b xc gs cs ga ca s) (hv : Inv s) (hl : id < s.all.length) :
    Calls Try.prog 25 #[.pointer (some ⟨b, 0, none⟩), .int .i64 (id : Int)] w fun e w' => e = .returned (.int .i64 (if id = 0 then 0 else (hd s.all id).slot + 1)) ∧ w = w' := by
  have c8 := cell_of_cells (j := 8) hr.blk rfl
  have h0 := (hr.hdr_at hl).c0
  have hb := slot_bounds hv hl
  have hsm := hv.wk.small
  clear hr
  by_cases h : id = 0
  · subst h
    go_enter Try.func25, Try.ntmps25
    go_wp2
    go_ret
    exact ⟨rfl, rfl⟩
  · have h' : ((id : Int) == 0) = false := by rw [beq_eq_false_iff_ne]; omega
    rw [if_neg h]
    generalize (hd s.all id).slot = q at *
    go_enter Try.func25, Try.ntmps25
    go_wp2
    go_ret
    exact ⟨rfl, rfl⟩

end Go.Proofs.Ytgeihfmhbifleaa

