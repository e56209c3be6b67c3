import Derived.Test.YtpaakikgfojplabCMirA
import Derived.Test.YtpaakikgfojplabCM18
import Derived.Test.YtpaakikgfojplabCRt
/-
  MATHEMATICS for Mirror: when all are there, the same goes with each.
-/
namespace Go.Proofs.Ytpaakikgfojplab
open Go.RowKit Num Bk
set_option linter.unusedVariables false

theorem like_of {s t : St} {L : List Nat} (hs : Inv s) (hz : fin s = 0) (h : Sim s t L) {i : Nat} (hi : i ∈ L) : Like s t i (L.idxOf i) := by
  have hl := h.lt i hi
  have hil : L.idxOf i < t.all.length := by rw [h.len]; exact List.idxOf_lt_length_of_mem hi
  have hk1 := keep_all hs hz i hl
  have hk2 := keep_all h.inv (h.fin hs hz) _ hil
  have hm1 : missing s (i : Int) = 0 := by unfold missing; rw [if_pos ((has_nat _ _).2 hk1)]
  have hm2 : missing t ((L.idxOf i : Nat) : Int) = 0 := by unfold missing; rw [if_pos ((has_nat _ _).2 hk2)]
  have hI := h.iso
  have hhd : hd t.all (L.idxOf i) = hd s.all i := by
    rcases Nat.eq_zero_or_pos i with h0 | h0
    · subst h0
      rw [h.zero.1]
      unfold hd
      rw [hs.zero, h.inv.zero]
    · exact hI.hdr i hi h0
  have hht : height t.all (L.idxOf i) = height s.all i := hI.height hs.tree h.inv.tree i hi
  have hpo : ∀ pool, poolOk t pool = poolOk s pool := fun pool => by unfold poolOk; rw [h.par]
  have hask : ∀ pool, askErr t ((L.idxOf i : Nat) : Int) pool = askErr s (i : Int) pool := fun pool => by
    unfold askErr
    rw [hm1, hm2, hpo]
  have hte : ∀ slot pool, turnErr t ((L.idxOf i : Nat) : Int) slot pool = turnErr s (i : Int) slot pool := fun slot pool => by
    unfold turnErr
    rw [hm1, hm2, hpo, Int.toNat_natCast, Int.toNat_natCast]
    rw [show Bk.slotOk t (L.idxOf i) slot = Bk.slotOk s i slot from hI.slotOk i hi slot]
  refine ⟨hm1, hm2, ?_, fun pool hp => ?_, fun slot pool => ⟨?_, hte slot pool⟩⟩
  · refine ⟨(hd s.all i).slot, (hd s.all i).pool, (hd s.all i).proof, (hd s.all i).count, (hd s.all i).frm, (hd s.all i).dst, (hd s.all i).amount, ((pa s.all i : Nat) : Int), ((pa t.all (L.idxOf i) : Nat) : Int), ((height s.all i : Nat) : Int), ?_, ?_⟩
    · unfold blkV
      simp only [hm1, if_true, Int.toNat_natCast]
    · unfold blkV
      simp only [hm2, if_true, Int.toNat_natCast, hhd, hht]
  · refine ⟨ask_zero hk1 hp, ?_, ?_, ?_⟩
    · rw [hask]; exact ask_zero hk1 hp
    · unfold stakeV
      rw [hask]
      simp only [Int.toNat_natCast]
      rw [show stakesAt t.par t.all (L.idxOf i) = stakesAt s.par s.all i from hI.stakes hs.tree h.inv.tree i hi]
    · unfold countV
      rw [hask]
      simp only [Int.toNat_natCast]
      rw [show countAt t.all (pool : Int) (L.idxOf i) = countAt s.all (pool : Int) i from hI.count hs.tree h.inv.tree _ i hi]
  · have e : turnV t ((L.idxOf i : Nat) : Int) slot pool = turnV s (i : Int) slot pool := by
      unfold turnV
      rw [hte]
      simp only [Int.toNat_natCast]
      rw [show nonceAt t (L.idxOf i) slot = nonceAt s i slot from hI.nonce hs.tree h.inv.tree slot i hi, show proofAt t (L.idxOf i) slot pool = proofAt s i slot pool from hI.proof hs.tree h.inv.tree slot pool i hi, show stakeAt t (L.idxOf i) slot pool = stakeAt s i slot pool from hI.stake hs.tree h.inv.tree slot pool i hi, show leadsAt t (L.idxOf i) slot pool = leadsAt s i slot pool from hI.leads hs.tree h.inv.tree slot pool i hi]
    rw [e]
    unfold turnV
    split
    · exact ⟨_, _, _, _, rfl, rfl⟩
    · exact ⟨_, _, _, _, rfl, rfl⟩

end Go.Proofs.Ytpaakikgfojplab

/-
  MATHEMATICS for Mirror: the list of the numbers on the other chain, and the list of what may come next.
-/
namespace Go.Proofs.Ytpaakikgfojplab
open Go.RowKit Num Bk
set_option linter.unusedVariables false

def toN (L : List Nat) (i : Nat) : Nat := if i ∈ L then L.idxOf i else 0
def toAt (L : List Nat) (n : Nat) : List Nat := (List.range n).map (toN L)

theorem toAt_len (L : List Nat) (n : Nat) : (toAt L n).length = n := by simp [toAt]
theorem toAt_at (L : List Nat) {n i : Nat} (h : i < n) : (toAt L n).getD i 0 = toN L i := by
  simp [toAt, List.getD, h]

theorem toN_mem {L : List Nat} {i : Nat} (h : i ∈ L) : toN L i = L.idxOf i := by unfold toN; rw [if_pos h]

theorem toN_pos {s t : St} {L : List Nat} (h : Sim s t L) {i : Nat} (h0 : 0 < i) : 0 < toN L i ↔ i ∈ L := by
  unfold toN
  by_cases hi : i ∈ L
  · rw [if_pos hi]
    exact ⟨fun _ => hi, fun _ => (h.iso.pos i hi h0).1⟩
  · rw [if_neg hi]
    exact ⟨fun hh => by omega, fun hh => absurd hh hi⟩

theorem toAt_set {L : List Nat} {n i : Nat} (hn : i ∉ L) (hi : i < n) : toAt (L ++ [i]) n = (toAt L n).set i L.length := by
  apply List.ext_getElem
  · simp [toAt]
  · intro j h1 h2
    have hj : j < n := by simpa [toAt] using h1
    rw [List.getElem_set]
    have e : ∀ M, (toAt M n)[j]'(by rw [toAt_len]; exact hj) = toN M j := fun M => by simp [toAt]
    rw [e]
    split
    · rename_i hij
      subst hij
      unfold toN
      rw [if_pos (by simp), List.idxOf_append, if_neg hn]
      simp
    · rename_i hij
      rw [e]
      unfold toN
      by_cases hm : j ∈ L
      · rw [if_pos (by simp [hm]), if_pos hm, List.idxOf_append, if_pos hm]
      · rw [if_neg (by simp [hm]; omega), if_neg hm]

/-- What may come next, of the numbers below m. -/
def openB (s : St) (L : List Nat) (i : Nat) : Bool := decide (toN L i = 0) && (decide (pa s.all i = 0) || decide (0 < toN L (pa s.all i)))
def openL (s : St) (L : List Nat) (m : Nat) : List Nat := (List.range m).filter fun i => decide (0 < i) && openB s L i

theorem openL_one (s : St) (L : List Nat) : openL s L 1 = [] := by simp [openL, List.range_succ]
theorem openL_succ (s : St) (L : List Nat) (m : Nat) (h : 0 < m) : openL s L (m + 1) = if openB s L m = true then openL s L m ++ [m] else openL s L m := by
  unfold openL
  rw [List.range_succ, List.filter_append]
  split
  · rename_i hb
    simp [hb, h]
  · rename_i hb
    simp [hb]

theorem openB_iff {s t : St} {L : List Nat} (h : Sim s t L) {i : Nat} (h0 : 0 < i) : openB s L i = true ↔ i ∉ L ∧ pa s.all i ∈ L := by
  have e1 : toN L i = 0 ↔ i ∉ L := by rw [← toN_pos h h0]; omega
  have e2 : (pa s.all i = 0 ∨ 0 < toN L (pa s.all i)) ↔ pa s.all i ∈ L := by
    rcases Nat.eq_zero_or_pos (pa s.all i) with hp | hp
    · rw [hp]
      exact ⟨fun _ => h.zero.2, fun _ => Or.inl rfl⟩
    · rw [toN_pos h hp]
      exact ⟨fun hh => hh.elim (fun e => by omega) id, Or.inr⟩
  unfold openB
  simp only [Bool.and_eq_true, Bool.or_eq_true, decide_eq_true_eq]
  rw [e1, e2]

theorem openL_mem {s t : St} {L : List Nat} (h : Sim s t L) {i m : Nat} (hi : i ∈ openL s L m) : 0 < i ∧ i < m ∧ i ∉ L ∧ pa s.all i ∈ L := by
  unfold openL at hi
  rw [List.mem_filter] at hi
  obtain ⟨h1, h2⟩ := hi
  simp only [Bool.and_eq_true, decide_eq_true_eq] at h2
  obtain ⟨h3, h4⟩ := (openB_iff h h2.1).1 h2.2
  exact ⟨h2.1, List.mem_range.1 h1, h3, h4⟩

theorem openL_pos {s t : St} {L : List Nat} (hs : Inv s) (h : Sim s t L) (hl : L.length < s.all.length) : 0 < (openL s L s.all.length).length := by
  obtain ⟨i, h0, h1, h2, h3⟩ := h.more hs hl
  refine List.length_pos_of_mem (a := i) ?_
  unfold openL
  rw [List.mem_filter]
  refine ⟨List.mem_range.2 h1, ?_⟩
  simp only [Bool.and_eq_true, decide_eq_true_eq]
  exact ⟨h0, (openB_iff h h0).2 ⟨h2, h3⟩⟩

theorem openL_len (s : St) (L : List Nat) (m : Nat) : (openL s L m).length ≤ m := by
  unfold openL
  have := List.length_filter_le (fun i => decide (0 < i) && openB s L i) (List.range m)
  simpa using this

end Go.Proofs.Ytpaakikgfojplab

/-
  THE FRAME of the law Mirror: the second chain is opened.
-/
namespace Go.Proofs.Ytpaakikgfojplab
open Go.RowKit Num Bk
set_option linter.unusedVariables false

theorem two_of {Rep : World → Nat → (Nat → Prop) → St → Prop} (P : PSpec Rep) {w w2 w3 : World} {b xc gs cs ga ca d xd gs2 cs2 ga2 ca2 : Nat} {F G : Nat → Prop} {s t : St} (h : New Rep w w2 b xc gs cs ga ca F s) (k : New Rep w2 w3 d xd gs2 cs2 ga2 ca2 G t) : Two Rep w w3 b xc gs cs ga ca F s d xd G t := by
  have hF := P.lt h.1.rep
  have hl := h.1.book.lts
  have hs := h.2.1.size
  obtain ⟨kB, kb, kG, kd, _, _⟩ := k
  refine ⟨h.below P kb, ⟨_, kB.book.blk, rfl⟩, kB.rep, kB.inv, fun i hi hg => ?_, fun hg => ?_, fun hg => ?_, fun hg => ?_, fun hf => ?_, kB.n1, fun i hi => ?_⟩
  · have := hF i hi; have := kG i hg; omega
  · have := kG _ hg; omega
  · have := kG _ hg; omega
  · have := kG _ hg; omega
  · have := hF _ hf; omega
  · have := kG i hi; omega

theorem toAt_start (n : Nat) : toAt [0] n = List.replicate n 0 := by
  unfold toAt
  rw [List.eq_replicate_iff]
  refine ⟨by simp, fun x hx => ?_⟩
  rw [List.mem_map] at hx
  obtain ⟨i, _, rfl⟩ := hx
  unfold toN
  split
  · rename_i h
    have : i = 0 := by simpa using h
    subst this
    rfl
  · rfl

end Go.Proofs.Ytpaakikgfojplab

/-
  THE FRAME of the law Mirror: the number on the other chain is written down; a header that came may be offered again.
-/
namespace Go.Proofs.Ytpaakikgfojplab
open Go.RowKit Num Bk
set_option linter.unusedVariables false

theorem hdr_i {s : St} (hv : Bk.Inv s) {i : Nat} (h0 : 0 < i) (hl : i < s.all.length) : HdrI (hd s.all i) := by
  have h := hv.hdrs i h0 hl
  have hp := hv.tree i h0
  have hc := count_bounds hv (hd s.all i).pool (pa s.all i) (by omega)
  have hh := height_small hv (i := pa s.all i) (by omega)
  have hs := stake_bounds hv (i := pa s.all i) (by omega) (hd s.all i).frm.toNat
  have ht := total_small hv.par
  have l2 := hv.par.l2
  have c0 := h.count0
  exact ⟨i64_of (by have := h.slot0; omega) (by have := h.slot1; omega), i64_of (by have := h.pool0; omega) (by have := h.pool1; omega), i64_of (by have := h.proof0; omega) (by have := h.proof1; omega), i64_of (by omega) (by omega), i64_of (by have := h.frm0; omega) (by have := h.frm1; omega), i64_of (by have := h.dst0; omega) (by have := h.dst1; omega), i64_of (by have := h.amount0; omega) (by have := h.amount1; omega)⟩

theorem TwoL.put {Rep : World → Nat → (Nat → Prop) → St → Prop} (P : PSpec Rep) {w wr : World} {b xc gs cs ga ca d xd g cap : Nat} {F G : Nat → Prop} {s t : St} {l : List Nat} (h : TwoL Rep w wr b xc gs cs ga ca F s d xd G t g cap l) (hw : w.heap.size ≤ g) (h1 : b < g) (h2 : gs < g) (h3 : ga < g) (h4 : d < g) (i v : Nat) :
    TwoL Rep w (wr.setCell ⟨g, i, none⟩ (.int .i64 (v : Int))) b xc gs cs ga ca F s d xd G t g cap (l.set i v) := by
  have hf : Fr (fun k => k = g) wr (wr.setCell ⟨g, i, none⟩ (.int .i64 (v : Int))) := (Fr.refl (fun k => k = g) wr).setCell (p := ⟨g, i, none⟩) (Or.inl rfl) _
  refine ⟨⟨⟨⟨h.two.new.1.book.fr hf (by show ¬ _ = g; omega) (by show ¬ _ = g; omega) (by show ¬ _ = g; omega), P.fr h.two.new.1.rep hf (fun k hk e => h.fo (e ▸ hk)), h.two.new.1.inv, h.two.new.1.n1, h.two.new.1.n2, h.two.new.1.n3⟩, below_fr h.two.new.2.1 hf (fun k e => by omega), h.two.new.2.2⟩, h.two.dat.fr hf (by show ¬ _ = g; omega), P.fr h.two.rep hf (fun k hk e => h.go (e ▸ hk)), h.two.inv, h.two.dis, h.two.gb, h.two.gs, h.two.ga, h.two.fd, h.two.gd, h.two.old⟩, ?_, h.fo, h.go⟩
  have := (h.own.stored i (.int .i64 (v : Int))).1
  rw [dcells_set] at this
  simpa using this

end Go.Proofs.Ytpaakikgfojplab

/-
  THE WALKS of the statements' sameInts and tells.
-/
namespace Go.Proofs.Ytpaakikgfojplab
open Go.RowKit Num Bk
set_option linter.unusedVariables false

set_option maxHeartbeats 1600000 in
set_option maxRecDepth 1000000 in
theorem bsame_is (b1 g1 c1 b2 g2 c2 : Nat) (ds : List Nat) (w : World) (h1 : w.ownsRow b1 3 1 (.slice (some ⟨g1, 0, none⟩) ds.length c1) ds.length (dcells ds)) (h2 : w.ownsRow b2 3 1 (.slice (some ⟨g2, 0, none⟩) ds.length c2) ds.length (dcells ds)) (hl : ds.length ≤ 1000000) :
    Calls Try.prog 50 #[.slice (some ⟨g1, 0, none⟩) ds.length c1, .slice (some ⟨g2, 0, none⟩) ds.length c2] w fun e w' => e = .returned (.bool true) ∧ Below w.heap.size w w' := by
  go_enter Try.func50, Try.ntmps50
  go_wp2
  go_loopw [5] (fun i wr => ∃ k : Nat, k ≤ ds.length ∧ i = .int .i64 k ∧ Below w.heap.size w wr) (fun i _ => ds.length - (intOf i).toNat)
  case atStart => exact ⟨0, Nat.zero_le _, rfl, Below.refl _ _⟩
  case round =>
    obtain ⟨k, hk, rfl, hbel⟩ := hrel
    by_cases hlt : k < ds.length
    · have c1 := ((row_keep h1 hbel (Nat.le_refl _)).cellAt k (by omega)).trans (dcells_at ds k hlt)
      have c2 := ((row_keep h2 hbel (Nat.le_refl _)).cellAt k (by omega)).trans (dcells_at ds k hlt)
      have i1 : (0 : Int) ≤ (k : Int) := by omega
      have i2 : (k : Int) < ((ds.length : Nat) : Int) := by omega
      generalize ds.getD k 0 = d at *
      clear h1 h2
      go_wp2
      go_quiet (fail)
      go_wp2
      go_roundw
      case rel => exact ⟨k + 1, by omega, by go_num, drawB hbel _⟩
      case measure => simp [intOf]; omega
    · go_wp2
      go_ret
      exact ⟨rfl, hbel⟩

set_option maxHeartbeats 3200000 in
set_option maxRecDepth 1000000 in
theorem tells_any {Rep : World → Nat → (Nat → Prop) → St → Prop} (P : PSpec Rep) (b xc gs cs ga ca : Nat) (s : St) (F : Nat → Prop) (w : World) (hb : Both Rep w b xc gs cs ga ca F s) :
    Calls Try.prog 25 #[.pointer (some ⟨b, 0, none⟩)] w fun e w' => e = .returned (.bool true) ∧ Below w.heap.size w w' := by
  have hv := hb.inv
  have hw := hv.wk
  have htl := inv_lt hv hv.tipin
  have hkl := hw.kl
  have hll := line_length hv.tree (tip s)
  have hhs := height_small hv htl
  have hsm := hw.small
  have hnl : (line s.all (tip s)).length ≤ 20000 := by omega
  clear hll hhs
  go_enter Try.func25, Try.ntmps25
  have c0 := cell_of_cells (j := 0) hb.book.blk rfl
  go_wp2_with fail
  refine (P.tip w xc F s hb.rep hv).mono ?_
  rintro e w1 ⟨rfl, hb1⟩
  have hB1 := hb.keep P hb1
  clear c0
  have c0 := cell_of_cells (j := 0) hB1.book.blk rfl
  go_wp2_with fail
  refine (P.final w1 xc F s hB1.rep hv).mono ?_
  rintro e w2 ⟨rfl, hb2⟩
  have hB2 := hB1.keep P hb2
  have hbw2 := hb1.trans (hb2.mono hb1.size)
  clear c0 hB1 hb1 hb2
  have c0 := cell_of_cells (j := 0) hB2.book.blk rfl
  go_wp2_with fail
  refine (P.kept w2 xc F s hB2.rep hv).mono ?_
  rintro e w3 ⟨gk, ck, rfl, hok, hb3⟩
  have hB3 := hB2.keep P hb3
  have hbw3 := hbw2.trans (hb3.mono hbw2.size)
  clear c0 hB2 hb3 hbw2
  have c0 := cell_of_cells (j := 0) hB3.book.blk rfl
  go_wp2_with fail
  refine (P.path w3 xc F s hB3.rep hv).mono ?_
  rintro e w4 ⟨gp, cp, rfl, hop, hb4⟩
  have hB4 := hB3.keep P hb4
  have hok4 := row_keep hok hb4 (Nat.le_refl _)
  have hbw4 := hbw3.trans (hb4.mono hbw3.size)
  clear c0 hB3 hb4 hbw3 hok hb
  go_wp2_with fail
  refine (btip_any b xc gs cs ga ca s _ hB4.book hv).mono ?_
  rintro e w5 ⟨rfl, hb5⟩
  have hB5 := hB4.keep P hb5
  have hok5 := row_keep hok4 hb5 (Nat.le_refl _)
  have hop5 := row_keep hop hb5 (Nat.le_refl _)
  have hbw5 := hbw4.trans (hb5.mono hbw4.size)
  clear hB4 hb5 hbw4 hok4 hop
  go_wp2_with fail
  refine (bfinal_any b xc gs cs ga ca s _ hB5.book hv).mono ?_
  rintro e w6 ⟨rfl, hb6⟩
  have hB6 := hB5.keep P hb6
  have hok6 := row_keep hok5 hb6 (Nat.le_refl _)
  have hop6 := row_keep hop5 hb6 (Nat.le_refl _)
  have hbw6 := hbw5.trans (hb6.mono hbw5.size)
  clear hB5 hb6 hbw5 hok5 hop5
  go_wp2_with fail
  refine (bkept_any b xc gs cs ga ca s _ hB6.book hv).mono ?_
  rintro e w7 ⟨g7, c7, rfl, ho7, hb7⟩
  have hB7 := hB6.keep P hb7
  have hok7 := row_keep hok6 hb7 (Nat.le_refl _)
  have hop7 := row_keep hop6 hb7 (Nat.le_refl _)
  have hbw7 := hbw6.trans (hb7.mono hbw6.size)
  clear hB6 hb7 hbw6 hok6 hop6
  go_wp2_with fail
  refine (bsame_is _ gk ck _ g7 c7 s.keep _ hok7 ho7 (by omega)).mono ?_
  rintro e w8 ⟨rfl, hb8⟩
  have hB8 := hB7.keep P hb8
  have hop8 := row_keep hop7 hb8 (Nat.le_refl _)
  have hbw8 := hbw7.trans (hb8.mono hbw7.size)
  clear hB7 hb8 hbw7 hok7 hop7 ho7
  go_wp2_with fail
  refine (bline_any b xc gs cs ga ca s (tip s) _ hB8.book hw htl).mono ?_
  rintro e w9 ⟨g9, c9, rfl, ho9, hb9⟩
  have hop9 := row_keep hop8 hb9 (Nat.le_refl _)
  have HB9 := Go.Proofs.Ytpaakikgfojplab.hid (hbw8.trans (hb9.mono hbw8.size))
  clear hB8 hb9 hbw8 hop8
  clear htl hw
  generalize hLL : line s.all (tip s) = L at *
  generalize tip s = tp at *
  generalize fin s = fn at *
  rw [List.length_reverse] at ho9 ⊢
  have HO9 := Go.Proofs.Ytpaakikgfojplab.hid ho9
  have HP9 := Go.Proofs.Ytpaakikgfojplab.hid hop9
  clear ho9 hop9
  go_wp2
  go_loopw [11] (fun i wr => ∃ k : Nat, k ≤ L.length ∧ i = .int .i64 k ∧ Below w9.heap.size w9 wr) (fun i _ => L.length - (intOf i).toNat)
  case atStart => exact ⟨0, Nat.zero_le _, rfl, Below.refl _ _⟩
  case round =>
    obtain ⟨k, hk, rfl, hbel⟩ := hrel
    by_cases hlt : k < L.length
    · obtain ⟨m, hm⟩ : ∃ m, L.length = m + k + 1 := ⟨L.length - k - 1, by omega⟩
      have cp := ((row_keep HP9.out hbel (Nat.le_refl _)).cellAt k (by omega)).trans (dcells_at L k hlt)
      have cr := ((row_keep HO9.out hbel (Nat.le_refl _)).cellAt m (by omega)).trans (dcells_at L.reverse m (by rw [List.length_reverse]; omega))
      have h2 : L.reverse.getD m 0 = L.getD k 0 := by
        simp only [List.getD, List.getElem?_reverse (show m < L.length by omega)]
        rw [show L.length - 1 - m = k by omega]
      rw [h2] at cr
      have i1 : (0 : Int) ≤ (k : Int) := by omega
      have i2 : (0 : Int) ≤ (m : Int) := by omega
      have hmb : m ≤ 20000 := by omega
      have hkb : k ≤ 20000 := by omega
      clear h2
      generalize L.getD k 0 = d at *
      rw [hm]
      clear HO9 HP9 hLL
      go_wp2
      go_quiet (fail)
      go_wp2
      go_roundw
      case rel => exact ⟨k + 1, by omega, by go_num, drawB hbel _⟩
      case measure => simp [intOf]; omega
    · clear HO9 HP9
      go_wp2
      go_ret
      exact ⟨rfl, HB9.out.trans (hbel.mono HB9.out.size)⟩

end Go.Proofs.Ytpaakikgfojplab

