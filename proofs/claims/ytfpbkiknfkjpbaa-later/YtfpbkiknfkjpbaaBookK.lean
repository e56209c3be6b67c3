/-
  The statements' book (package beaconkeep) in memory; line, has, tip, final, kept.
-/
import Derived.Test.YtfpbkiknfkjpbaaFr
import Derived.Test.YtfpbkiknfkjpbaaBkK
import Derived.Test.YtfpbkiknfkjpbaaRefGo
namespace Go.Proofs.Ytfpbkiknfkjpbaa
open Go.RowKit Num Bk
set_option linter.unusedVariables false

structure BookAt (w : World) (b xc gs cs ga ca : Nat) (s : St) : Prop where
  blk : w.heap[b]? = some (.cells #[.pointer (some ⟨xc, 0, none⟩), .int .i64 s.par.depth, .int .i64 s.par.epoch, .int .i64 s.par.room, .int .i64 s.par.a, .int .i64 s.par.b, .int .i64 s.par.nonce,
      .slice (some ⟨gs, 0, none⟩) s.par.stakes.length cs, .slice (some ⟨ga, 0, none⟩) s.all.length ca] 44 (0, 0))
  stk : w.ownsRow 0 3 1 (.slice (some ⟨gs, 0, none⟩) s.par.stakes.length cs) s.par.stakes.length (icells s.par.stakes)
  all : w.ownsRow 0 93 8 (.slice (some ⟨ga, 0, none⟩) s.all.length ca) s.all.length (acells s.all)

theorem BookAt.keep {w w' : World} {b xc gs cs ga ca : Nat} {s : St} (h : BookAt w b xc gs cs ga ca s) (hb : Below w.heap.size w w') : BookAt w' b xc gs cs ga ca s :=
  ⟨by rw [hb.block b (lt_of_block h.blk)]; exact h.blk, row_keep h.stk hb (Nat.le_refl _), row_keep h.all hb (Nat.le_refl _)⟩

theorem BookAt.fr {F : Nat → Prop} {w w' : World} {b xc gs cs ga ca : Nat} {s : St} (h : BookAt w b xc gs cs ga ca s) (hb : Fr F w w') (h1 : ¬ F b) (h2 : ¬ F gs) (h3 : ¬ F ga) : BookAt w' b xc gs cs ga ca s :=
  ⟨by rw [hb.block b (lt_of_block h.blk) h1]; exact h.blk, row_fr h.stk hb (by intro g e; simp [Value.ownBlock] at e; subst e; exact h2),
    row_fr h.all hb (by intro g e; simp [Value.ownBlock] at e; subst e; exact h3)⟩

theorem BookAt.par_at {w : World} {b xc gs cs ga ca : Nat} {s : St} (h : BookAt w b xc gs cs ga ca s) {i : Nat} (hi : i < s.all.length) : w.cell? ⟨ga, i * 8 + 7, none⟩ = some (.int .i64 ((pa s.all i : Nat) : Int)) := by
  rw [h.all.cellAt _ (by omega), acells_at _ _ _ hi (by omega)]; rfl

theorem BookAt.hdr_at {w : World} {b xc gs cs ga ca : Nat} {s : St} (h : BookAt w b xc gs cs ga ca s) {i : Nat} (hi : i < s.all.length) : HdrAt w ga i (hd s.all i) := by
  have key : ∀ j, j < 8 → w.cell? ⟨ga, i * 8 + j, none⟩ = (itcells (item s.all i))[j]? := fun j hj => by
    rw [h.all.cellAt _ (by omega), acells_at _ _ _ hi hj]
  exact ⟨key 0 (by omega), key 1 (by omega), key 2 (by omega), key 3 (by omega), key 4 (by omega), key 5 (by omega), key 6 (by omega)⟩

theorem BookAt.lts {w : World} {b xc gs cs ga ca : Nat} {s : St} (h : BookAt w b xc gs cs ga ca s) : b < w.heap.size ∧ gs < w.heap.size ∧ ga < w.heap.size :=
  ⟨lt_of_block h.blk, own_lt h.stk, own_lt h.all⟩

set_option maxHeartbeats 1600000 in
set_option maxRecDepth 1000000 in
theorem bline_any (b xc gs cs ga ca : Nat) (s : St) (id : Nat) (w : World) (hr : BookAt w b xc gs cs ga ca s) (hi : Wk s) (hid' : id < s.all.length) :
    Calls Try.prog 38 #[.pointer (some ⟨b, 0, none⟩), .int .i64 (id : Int)] w fun e w' => ∃ g cap, e = .returned (.slice (some ⟨g, 0, none⟩) (line s.all id).reverse.length cap) ∧
      w'.ownsRow w.heap.size 3 1 (.slice (some ⟨g, 0, none⟩) (line s.all id).reverse.length cap) (line s.all id).reverse.length (dcells (line s.all id).reverse) ∧ Below w.heap.size w w' := by
  obtain ⟨i0, hi0, hz0, hz1, hz2⟩ := info_parts Try.info3
  have hsm := hi.small
  have ht := hi.tree
  have hlen := line_length ht id
  have hhl := hi.hs id hid'
  go_enter Try.func38, Try.ntmps38
  go_wp2
  go_loopw [1, 5] (fun c o wr => ∃ (k : Nat) (os : List Nat), c = .int .i64 k ∧ k < s.all.length ∧ os.length ≤ 20002 ∧ Hid (os.reverse ++ [] = (line s.all id).drop (height s.all k) ∧ k ∈ line s.all id) ∧ wr.ownsRow w.heap.size 3 1 o os.length (dcells os) ∧ Below w.heap.size w wr)
    (fun c _ _ => (intOf c).toNat)
  case atStart =>
    refine ⟨id, [id], rfl, hid', by simp, ?_, World.ownsRow_lit (base := w.heap.size) (e := 3) (size := 1) w #[.int .i64 (id : Int)] 1 (Nat.le_refl _) (by unfold maxLen; omega) rfl, (Below.refl _ _).alloc (Nat.le_refl _) _⟩
    show _ ∧ _
    refine ⟨?_, line_self ht id⟩
    obtain ⟨h1, h2, h3⟩ := line_take ht id (height s.all id) (Nat.le_refl _)
    have e := line_unique ht h2 (line_self ht id) h3
    have hlt : height s.all id < (line s.all id).length := by omega
    rw [List.drop_eq_getElem_cons hlt, List.drop_of_length_le (by omega)]
    have e2 : (line s.all id)[height s.all id] = id := by
      have : (line s.all id).getD (height s.all id) 0 = (line s.all id)[height s.all id] := by simp [List.getD, hlt]
      rw [← this]; exact e
    rw [e2]; rfl
  case round =>
    obtain ⟨k, os, rfl, hk, hosl, HL, hown, hbel⟩ := hrel
    have hsz := hbel.size
    have HR := Go.Proofs.Ytfpbkiknfkjpbaa.hid hr
    have HT := Go.Proofs.Ytfpbkiknfkjpbaa.hid ht
    have hr1 := hr.keep hbel
    rcases Nat.eq_zero_or_pos k with h0 | h0
    · subst h0
      have e : os = (line s.all id).reverse := by
        have := HL.out.1
        rw [height_zero, List.drop_zero, List.append_nil] at this
        rw [← this, List.reverse_reverse]
      have hpos : 0 < os.length := by rw [e]; simp; omega
      obtain ⟨go, co, rfl, _, _⟩ := hown.form hpos
      have HE := Go.Proofs.Ytfpbkiknfkjpbaa.hid e
      clear e hr hr1 ht hlen
      go_wp2
      go_ret
      refine ⟨go, co, by rw [← HE.out]; rfl, ?_, hbel⟩
      rw [← HE.out]; exact hown
    · have c8 := cell_of_cells (j := 8) hr1.blk rfl
      have c2 := hr1.par_at hk
      have hpk := ht k h0
      have hp : pa s.all k < s.all.length := by omega
      have hstep : (os ++ [pa s.all k]).reverse ++ [] = (line s.all id).drop (height s.all (pa s.all k)) ∧ pa s.all k ∈ line s.all id := by
        have hm : pa s.all k ∈ line s.all id := by
          refine line_trans ht ?_ HL.out.2
          rw [line_step ht h0]; simp [line_self ht]
        refine ⟨?_, hm⟩
        have hh := height_step ht h0
        have hle := height_mem ht HL.out.2
        have hlt : height s.all (pa s.all k) < (line s.all id).length := by omega
        rw [List.drop_eq_getElem_cons hlt, ← hh, ← HL.out.1]
        obtain ⟨_, h2, h3⟩ := line_take ht id (height s.all (pa s.all k)) (by omega)
        have e := line_unique ht h2 hm h3
        have e2 : (line s.all id)[height s.all (pa s.all k)] = pa s.all k := by
          have : (line s.all id).getD (height s.all (pa s.all k)) 0 = (line s.all id)[height s.all (pa s.all k)] := by simp [List.getD, hlt]
          rw [← this]; exact e
        rw [e2]; simp
      have hol : os.length ≤ 20001 := by
        have h1 := congrArg List.length HL.out.1
        rw [List.length_append, List.length_reverse, List.length_drop, hlen] at h1
        have h2 := height_step ht h0
        simp at h1
        omega
      have HST := Go.Proofs.Ytfpbkiknfkjpbaa.hid hstep
      clear hr ht hlen hstep hr1 HL
      generalize pa s.all k = pk at *
      go_wp2_with (at_builtin; refine wpList_append_lies _ rfl (.tmp 18) (.tmp 20) 29 rfl w.heap.size 3 i0 (.int .i64 0) 1 8 Try.underlying29 hi0 hz0 hz1 hz2 rfl (by omega) _ os.length (dcells os) rfl (hown.alloc _) ⟨wr.heap.size, 0, none⟩ 1 1 [.int .i64 (pk : Int)] rfl rfl (cell_one_new _ _ _) (one_int _) (by omega) (by unfold maxLen; omega) (by omega) (by simp; omega) (wr.heap.size + 1) (by simp) ?_)
      intro g2 cap2 w1 hown2 hgrow hat hlt2
      have hrow := fun k (e : Value.ownBlock u5 = some k) => (hown.lt k e).1
      have HB := Go.Proofs.Ytfpbkiknfkjpbaa.hid ((hbel.alloc (by omega) _).grown hgrow (by simp; omega) hrow)
      have HO := Go.Proofs.Ytfpbkiknfkjpbaa.hid hown2
      clear hown2 hgrow hat hbel hown hrow
      go_wp2
      go_roundw
      case rel =>
        refine ⟨pk, os ++ [pk], rfl, by omega, by simp; omega, HST, ?_, HB.out⟩
        rw [List.length_append, dcells_append]
        exact HO.out
      case measure => simp [intOf]; omega

end Go.Proofs.Ytfpbkiknfkjpbaa
