import Derived.Test.YtpaakikgfojplabCM6
import Derived.Deep.RegionHeld3
import Derived.Deep.DrawnRows
/-
  PLAIN MATHEMATICS: a book's own way to the tip and to what is kept.
-/
namespace Go.Proofs.Ytpaakikgfojplab.Bk
open Num
set_option linter.unusedVariables false

theorem sorted_eq : ∀ (l m : List Nat), l.Pairwise (· < ·) → m.Pairwise (· < ·) → (∀ x, x ∈ l ↔ x ∈ m) → l = m := by
  intro l
  induction l with
  | nil =>
    intro m _ _ h
    cases m with
    | nil => rfl
    | cons b m => have := (h b).2 (by simp); simp at this
  | cons a l ih =>
    intro m hl hm h
    cases m with
    | nil => have := (h a).1 (by simp); simp at this
    | cons b m =>
      rw [List.pairwise_cons] at hl hm
      have hab : a = b := by
        have h1 := (h a).1 (by simp)
        have h2 := (h b).2 (by simp)
        rcases List.mem_cons.1 h1 with h1 | h1
        · exact h1
        · rcases List.mem_cons.1 h2 with h2 | h2
          · exact h2.symm
          · have := hm.1 a h1; have := hl.1 b h2; omega
      subst hab
      congr 1
      refine ih m hl.2 hm.2 ?_
      intro x
      constructor
      · intro hx
        rcases List.mem_cons.1 ((h x).1 (List.mem_cons_of_mem _ hx)) with e | e
        · have := hl.1 x hx; omega
        · exact e
      · intro hx
        rcases List.mem_cons.1 ((h x).2 (List.mem_cons_of_mem _ hx)) with e | e
        · have := hm.1 x hx; omega
        · exact e

theorem keep_eq {s : St} (hi : Inv s) : (List.range s.all.length).filter (fun i => has (line s.all i) (fin s)) = s.keep := by
  refine sorted_eq _ _ (List.Pairwise.filter _ List.pairwise_lt_range) hi.rise ?_
  intro x
  rw [List.mem_filter, List.mem_range, has_nat, hi.keep]

/-- The first of the highest among the first k. -/
def Best (all : List Itm) (k b : Nat) : Prop := (∀ i, i < k → height all i ≤ height all b) ∧ ∀ i, i < b → height all i < height all b

theorem best_tip {s : St} (hi : Inv s) {b : Nat} (hb : b < s.all.length) (h : Best s.all s.all.length b) : b = tip s := by
  have ht := inv_lt hi hi.tipin
  have h1 := h.1 _ ht
  have h2 := hi.high b hb
  rcases Nat.lt_trichotomy b (tip s) with h3 | h3 | h3
  · have := hi.first b h3; omega
  · exact h3
  · have := h.2 _ h3; omega

theorem range_take (n k : Nat) (h : k ≤ n) : (List.range n).take k = List.range k := by
  rw [List.take_range]; congr 1; omega

theorem filter_range_succ (k : Nat) (p : Nat → Bool) : (List.range (k + 1)).filter p = (List.range k).filter p ++ (if p k then [k] else []) := by
  rw [List.range_succ, List.filter_append]
  simp only [List.filter_cons, List.filter_nil]

/-- What is final, off the line turned round. -/
theorem fin_rev {s : St} (hw : Wk s) (h : ¬ (height s.all (tip s) : Int) < s.par.depth) : (line s.all (tip s)).reverse.getD s.par.depth.toNat 0 = fin s := by
  unfold fin finOf
  rw [if_neg h]
  have hl := line_length hw.tree (tip s)
  have hd := hw.d1
  simp only [List.getD]
  rw [List.getElem?_reverse (by omega), hl]
  congr 2

theorem rev_at {all : List Itm} (ht : Tree all) (id i : Nat) (h : i ≤ height all id) : (line all id).reverse.getD i 0 = (line all id).getD (height all id - i) 0 := by
  have hl := line_length ht id
  simp only [List.getD]
  rw [List.getElem?_reverse (by omega), hl]
  congr 2

theorem rev_pa {all : List Itm} (ht : Tree all) (id i : Nat) (h : i < height all id) : pa all ((line all id).reverse.getD i 0) = (line all id).reverse.getD (i + 1) 0 ∧ 0 < (line all id).reverse.getD i 0 := by
  have h1 := line_pa ht id (height all id - i - 1) (by omega)
  rw [show height all id - i - 1 + 1 = height all id - i by omega] at h1
  rw [rev_at ht id i (by omega), rev_at ht id (i + 1) (by omega), show height all id - (i + 1) = height all id - i - 1 by omega]
  exact h1

theorem rev_le {all : List Itm} (ht : Tree all) (id i : Nat) (h : i ≤ height all id) : (line all id).reverse.getD i 0 ≤ id := by
  rw [rev_at ht id i h]
  exact line_le ht id _ (line_take ht id _ (by omega)).2.1

theorem rev_zero {all : List Itm} (ht : Tree all) (id : Nat) : (line all id).reverse.getD 0 0 = id := by
  rw [rev_at ht id 0 (by omega)]
  obtain ⟨_, h2, h3⟩ := line_take ht id (height all id - 0) (by omega)
  exact line_unique ht h2 (line_self ht id) (by omega)

theorem rev_end {all : List Itm} (ht : Tree all) (id : Nat) : (line all id).reverse.getD (height all id) 0 = 0 := by
  rw [rev_at ht id _ (Nat.le_refl _)]
  obtain ⟨_, h2, h3⟩ := line_take ht id (height all id - height all id) (by omega)
  exact line_unique ht h2 (line_zero_mem ht id) (by rw [h3, height_zero]; omega)

end Go.Proofs.Ytpaakikgfojplab.Bk

/-
  THE WALKS of beaconref: Line, in, height.
-/
namespace Go.Proofs.Ytpaakikgfojplab
open Go.RowKit Num Bk
set_option linter.unusedVariables false

theorem has_take (l : List Nat) (k : Nat) (h : k < l.length) (i : Int) : has (l.take (k + 1)) i = (has (l.take k) i || ((l.getD k 0 : Nat) : Int) == i) := by
  rw [take_succ_getD l k h]
  simp [has]

theorem tip_step (all : List Itm) (l : List Nat) (k : Nat) (h : k < l.length) (b : Nat) :
    (l.take (k + 1)).foldl (fun best k => if better all k best then k else best) b = if better all (l.getD k 0) ((l.take k).foldl (fun best k => if better all k best then k else best) b) then l.getD k 0 else (l.take k).foldl (fun best k => if better all k best then k else best) b := by
  rw [take_succ_getD l k h, List.foldl_append]; rfl

end Go.Proofs.Ytpaakikgfojplab

/-
  THE WALKS of beaconref: Path, Final, missing, pool, slots; what goes with a header.
-/
namespace Go.Proofs.Ytpaakikgfojplab
open Go.RowKit Num Bk
set_option linter.unusedVariables false

/-- A header's seven cells. -/
structure HdrAt (w : World) (g i : Nat) (h : Hdr) : Prop where
  c0 : w.cell? ⟨g, i * 8, none⟩ = some (.int .i64 h.slot)
  c1 : w.cell? ⟨g, i * 8 + 1, none⟩ = some (.int .i64 h.pool)
  c2 : w.cell? ⟨g, i * 8 + 2, none⟩ = some (.int .i64 h.proof)
  c3 : w.cell? ⟨g, i * 8 + 3, none⟩ = some (.int .i64 h.count)
  c4 : w.cell? ⟨g, i * 8 + 4, none⟩ = some (.int .i64 h.frm)
  c5 : w.cell? ⟨g, i * 8 + 5, none⟩ = some (.int .i64 h.dst)
  c6 : w.cell? ⟨g, i * 8 + 6, none⟩ = some (.int .i64 h.amount)

end Go.Proofs.Ytpaakikgfojplab

/-
  The statements' book (package beaconkeep) in memory; line, has, tip, final, kept.
-/
namespace Go.Proofs.Ytpaakikgfojplab
open Go.RowKit Num Bk
set_option linter.unusedVariables false

structure BookAt (w : World) (b xc gs cs ga ca : Nat) (s : St) : Prop where
  blk : w.heap[b]? = some (.cells #[.pointer (some ⟨xc, 0, none⟩), .int .i64 s.par.depth, .int .i64 s.par.epoch, .int .i64 s.par.room, .int .i64 s.par.a, .int .i64 s.par.b, .int .i64 s.par.nonce,
      .slice (some ⟨gs, 0, none⟩) s.par.stakes.length cs, .slice (some ⟨ga, 0, none⟩) s.all.length ca] 31 (0, 0))
  stk : w.ownsRow 0 3 1 (.slice (some ⟨gs, 0, none⟩) s.par.stakes.length cs) s.par.stakes.length (icells s.par.stakes)
  all : w.ownsRow 0 58 8 (.slice (some ⟨ga, 0, none⟩) s.all.length ca) s.all.length (acells s.all)

theorem BookAt.keep {w w' : World} {b xc gs cs ga ca : Nat} {s : St} (h : BookAt w b xc gs cs ga ca s) (hb : Below w.heap.size w w') : BookAt w' b xc gs cs ga ca s :=
  ⟨by rw [hb.block b (lt_of_block h.blk)]; exact h.blk, row_keep h.stk hb (Nat.le_refl _), row_keep h.all hb (Nat.le_refl _)⟩

theorem BookAt.fr {F : Nat → Prop} {w w' : World} {b xc gs cs ga ca : Nat} {s : St} (h : BookAt w b xc gs cs ga ca s) (hb : Fr F w w') (h1 : ¬ F b) (h2 : ¬ F gs) (h3 : ¬ F ga) : BookAt w' b xc gs cs ga ca s :=
  ⟨by rw [hb.block b (lt_of_block h.blk) h1]; exact h.blk, row_fr h.stk hb (by intro g e; simp [Value.ownBlock] at e; subst e; exact h2),
    row_fr h.all hb (by intro g e; simp [Value.ownBlock] at e; subst e; exact h3)⟩

theorem BookAt.par_at {w : World} {b xc gs cs ga ca : Nat} {s : St} (h : BookAt w b xc gs cs ga ca s) {i : Nat} (hi : i < s.all.length) : w.cell? ⟨ga, i * 8 + 7, none⟩ = some (.int .i64 ((pa s.all i : Nat) : Int)) := by
  rw [h.all.cellAt _ (by omega), acells_at _ _ _ hi (by omega)]; rfl

theorem BookAt.hdr_at {w : World} {b xc gs cs ga ca : Nat} {s : St} (h : BookAt w b xc gs cs ga ca s) {i : Nat} (hi : i < s.all.length) : HdrAt w ga i (hd s.all i) := by
  have key : ∀ j, j < 8 → w.cell? ⟨ga, i * 8 + j, none⟩ = (itcells (item s.all i))[j]? := fun j hj => by
    rw [h.all.cellAt _ (by omega), acells_at _ _ _ hi hj]
  exact ⟨key 0 (by omega), key 1 (by omega), key 2 (by omega), key 3 (by omega), key 4 (by omega), key 5 (by omega), key 6 (by omega)⟩

theorem BookAt.lts {w : World} {b xc gs cs ga ca : Nat} {s : St} (h : BookAt w b xc gs cs ga ca s) : b < w.heap.size ∧ gs < w.heap.size ∧ ga < w.heap.size :=
  ⟨lt_of_block h.blk, own_lt h.stk, own_lt h.all⟩

set_option maxHeartbeats 1600000 in
set_option maxRecDepth 1000000 in
theorem bline_any (b xc gs cs ga ca : Nat) (s : St) (id : Nat) (w : World) (hr : BookAt w b xc gs cs ga ca s) (hi : Wk s) (hid' : id < s.all.length) :
    Calls Try.prog 43 #[.pointer (some ⟨b, 0, none⟩), .int .i64 (id : Int)] w fun e w' => ∃ g cap, e = .returned (.slice (some ⟨g, 0, none⟩) (line s.all id).reverse.length cap) ∧
      w'.ownsRow w.heap.size 3 1 (.slice (some ⟨g, 0, none⟩) (line s.all id).reverse.length cap) (line s.all id).reverse.length (dcells (line s.all id).reverse) ∧ Below w.heap.size w w' := by
  obtain ⟨i0, hi0, hz0, hz1, hz2⟩ := info_parts Try.info3
  have hsm := hi.small
  have ht := hi.tree
  have hlen := line_length ht id
  have hhl := hi.hs id hid'
  go_enter Try.func43, Try.ntmps43
  go_wp2
  go_loopw [1, 5] (fun c o wr => ∃ (k : Nat) (os : List Nat), c = .int .i64 k ∧ k < s.all.length ∧ os.length ≤ 20002 ∧ Hid (os.reverse ++ [] = (line s.all id).drop (height s.all k) ∧ k ∈ line s.all id) ∧ wr.ownsRow w.heap.size 3 1 o os.length (dcells os) ∧ Below w.heap.size w wr)
    (fun c _ _ => (intOf c).toNat)
  case atStart =>
    refine ⟨id, [id], rfl, hid', by simp, ?_, World.ownsRow_lit (base := w.heap.size) (e := 3) (size := 1) w #[.int .i64 (id : Int)] 1 (Nat.le_refl _) (by unfold maxLen; omega) rfl, (Below.refl _ _).alloc (Nat.le_refl _) _⟩
    show _ ∧ _
    refine ⟨?_, line_self ht id⟩
    obtain ⟨h1, h2, h3⟩ := line_take ht id (height s.all id) (Nat.le_refl _)
    have e := line_unique ht h2 (line_self ht id) h3
    have hlt : height s.all id < (line s.all id).length := by omega
    rw [List.drop_eq_getElem_cons hlt, List.drop_of_length_le (by omega)]
    have e2 : (line s.all id)[height s.all id] = id := by
      have : (line s.all id).getD (height s.all id) 0 = (line s.all id)[height s.all id] := by simp [List.getD, hlt]
      rw [← this]; exact e
    rw [e2]; rfl
  case round =>
    obtain ⟨k, os, rfl, hk, hosl, HL, hown, hbel⟩ := hrel
    have hsz := hbel.size
    have HR := Go.Proofs.Ytpaakikgfojplab.hid hr
    have HT := Go.Proofs.Ytpaakikgfojplab.hid ht
    have hr1 := hr.keep hbel
    rcases Nat.eq_zero_or_pos k with h0 | h0
    · subst h0
      have e : os = (line s.all id).reverse := by
        have := HL.out.1
        rw [height_zero, List.drop_zero, List.append_nil] at this
        rw [← this, List.reverse_reverse]
      have hpos : 0 < os.length := by rw [e]; simp; omega
      obtain ⟨go, co, rfl, _, _⟩ := hown.form hpos
      have HE := Go.Proofs.Ytpaakikgfojplab.hid e
      clear e hr hr1 ht hlen
      go_wp2
      go_ret
      refine ⟨go, co, by rw [← HE.out]; rfl, ?_, hbel⟩
      rw [← HE.out]; exact hown
    · have c8 := cell_of_cells (j := 8) hr1.blk rfl
      have c2 := hr1.par_at hk
      have hpk := ht k h0
      have hp : pa s.all k < s.all.length := by omega
      have hstep : (os ++ [pa s.all k]).reverse ++ [] = (line s.all id).drop (height s.all (pa s.all k)) ∧ pa s.all k ∈ line s.all id := by
        have hm : pa s.all k ∈ line s.all id := by
          refine line_trans ht ?_ HL.out.2
          rw [line_step ht h0]; simp [line_self ht]
        refine ⟨?_, hm⟩
        have hh := height_step ht h0
        have hle := height_mem ht HL.out.2
        have hlt : height s.all (pa s.all k) < (line s.all id).length := by omega
        rw [List.drop_eq_getElem_cons hlt, ← hh, ← HL.out.1]
        obtain ⟨_, h2, h3⟩ := line_take ht id (height s.all (pa s.all k)) (by omega)
        have e := line_unique ht h2 hm h3
        have e2 : (line s.all id)[height s.all (pa s.all k)] = pa s.all k := by
          have : (line s.all id).getD (height s.all (pa s.all k)) 0 = (line s.all id)[height s.all (pa s.all k)] := by simp [List.getD, hlt]
          rw [← this]; exact e
        rw [e2]; simp
      have hol : os.length ≤ 20001 := by
        have h1 := congrArg List.length HL.out.1
        rw [List.length_append, List.length_reverse, List.length_drop, hlen] at h1
        have h2 := height_step ht h0
        simp at h1
        omega
      have HST := Go.Proofs.Ytpaakikgfojplab.hid hstep
      clear hr ht hlen hstep hr1 HL
      generalize pa s.all k = pk at *
      go_wp2_with (at_builtin; refine wpList_append_lies _ rfl (.tmp 18) (.tmp 20) 22 rfl w.heap.size 3 i0 (.int .i64 0) 1 8 Try.underlying22 hi0 hz0 hz1 hz2 rfl (by omega) _ os.length (dcells os) rfl (hown.alloc _) ⟨wr.heap.size, 0, none⟩ 1 1 [.int .i64 (pk : Int)] rfl rfl (cell_one_new _ _ _) (one_int _) (by omega) (by unfold maxLen; omega) (by omega) (by simp; omega) (wr.heap.size + 1) (by simp) ?_)
      intro g2 cap2 w1 hown2 hgrow hat hlt2
      have hrow := fun k (e : Value.ownBlock u5 = some k) => (hown.lt k e).1
      have HB := Go.Proofs.Ytpaakikgfojplab.hid ((hbel.alloc (by omega) _).grown hgrow (by simp; omega) hrow)
      have HO := Go.Proofs.Ytpaakikgfojplab.hid hown2
      clear hown2 hgrow hat hbel hown hrow
      go_wp2
      go_roundw
      case rel =>
        refine ⟨pk, os ++ [pk], rfl, by omega, by simp; omega, HST, ?_, HB.out⟩
        rw [List.length_append, dcells_append]
        exact HO.out
      case measure => simp [intOf]; omega

end Go.Proofs.Ytpaakikgfojplab

