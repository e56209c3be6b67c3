import Derived.Test.YtpaakikgfojplaaGreatCM13
import Derived.Test.YtpaakikgfojplaaGreatCM45
/-
  THE DOCUMENT's CHAIN: peers: Next, Back, Point.
-/
namespace Go.Proofs.YtpaakikgfojplaaGreat
open Go.RowKit Num Bk Tx
set_option linter.unusedVariables false

theorem rpeer_nat {n : Int} (h : peerOk n = true) : ∃ k : Nat, n = (k : Int) ∧ k < 4 := by
  simp only [peerOk, Bool.and_eq_true, decide_eq_true_eq] at h
  exact ⟨n.toNat, by omega, by omega⟩

set_option maxHeartbeats 400000 in
theorem rpeer_is (n : Int) (w : World) :
    Calls Tryz.prog 72 #[.int .i64 n] w fun e w' => e = .returned (.bool (peerOk n)) ∧ w = w' := by
  have HP : Hid (peerOk n = (decide (0 ≤ n) && decide (n < 4))) := rfl
  by_cases h : 0 ≤ n
  · go_enter Tryz.func72, Tryz.ntmps72
    go_wp2
    go_ret
    exact ⟨by rw [HP.out]; simp [h], rfl⟩
  · go_enter Tryz.func72, Tryz.ntmps72
    go_wp2
    go_ret
    exact ⟨by rw [HP.out]; simp; omega, rfl⟩

theorem RefAt.pt {w : World} {x gs cs ga ca gk ck : Nat} {s : St} (h : RefAt w x gs cs ga ca gk ck s) {k : Nat} (hk : k < 4) : w.cell? ⟨x, 9 + k, none⟩ = some (.int .i64 ((s.pts.getD k 0 : Nat) : Int)) := by
  match k, hk with
  | 0, _ => exact cell_of_cells (j := 9) h.blk rfl
  | 1, _ => exact cell_of_cells (j := 10) h.blk rfl
  | 2, _ => exact cell_of_cells (j := 11) h.blk rfl
  | 3, _ => exact cell_of_cells (j := 12) h.blk rfl
theorem RefAt.setPt {w : World} {x gs cs ga ca gk ck : Nat} {s : St} (h : RefAt w x gs cs ga ca gk ck s) (hp : s.pts.length = 4) {k : Nat} (hk : k < 4) (v : Nat) : RefAt (w.setCell ⟨x, 9 + k, none⟩ (.int .i64 (v : Int))) x gs cs ga ca gk ck (Bk.setPt s (k : Int) v) := by
  obtain ⟨n1, n2, n3⟩ : x ≠ gs ∧ x ≠ ga ∧ x ≠ gk := ⟨h.four.1, h.four.2.1, h.four.2.2.1⟩
  refine ⟨?_, ?_, ?_, ?_, h.ne⟩
  · rw [heap_setCell_same w x (9 + k) _ 73 _ h.blk]
    obtain ⟨p, all, keep, pts⟩ := s
    match pts, hp with
    | [a, b, c, d], _ =>
      match k, hk with
      | 0, _ => rfl
      | 1, _ => rfl
      | 2, _ => rfl
      | 3, _ => rfl
  · exact ownsRow_setCell_other h.stk (by simpa [Value.ownBlock] using Ne.symm n1) _
  · exact ownsRow_setCell_other h.all (by simpa [Value.ownBlock] using Ne.symm n2) _
  · exact ownsRow_setCell_other h.kep (by simpa [Value.ownBlock] using Ne.symm n3) _
theorem RefR.setPt {w : World} {x : Nat} {G : Nat → Prop} {s : St} (h : RefR w x G s) (hi : Inv s) {k : Nat} (hk : k < 4) (v : Nat) : RefR (w.setCell ⟨x, 9 + k, none⟩ (.int .i64 (v : Int))) x G (Bk.setPt s (k : Int) v) := by
  obtain ⟨gs, cs, ga, ca, gk, ck, hr, hG⟩ := h
  exact ⟨gs, cs, ga, ca, gk, ck, hr.setPt hi.pts hk v, hG⟩
theorem RefR.x {w : World} {x : Nat} {G : Nat → Prop} {s : St} (h : RefR w x G s) : G x := by
  obtain ⟨gs, cs, ga, ca, gk, ck, hr, hG⟩ := h
  exact (hG x).2 (Or.inl rfl)
theorem RefR.pt {w : World} {x : Nat} {G : Nat → Prop} {s : St} (h : RefR w x G s) {k : Nat} (hk : k < 4) : w.cell? ⟨x, 9 + k, none⟩ = some (.int .i64 ((s.pts.getD k 0 : Nat) : Int)) ∧ w.frozen? ⟨x, 9 + k, none⟩ = false := by
  obtain ⟨gs, cs, ga, ca, gk, ck, hr, hG⟩ := h
  exact ⟨hr.pt hk, free_of_cells hr.blk⟩
theorem rleft_set {w W : World} {x : Nat} {G : Nat → Prop} {s : St} (h : Left RefR w W x G s) (hx : G x) (hi : Inv s) {k : Nat} (hk : k < 4) (v : Nat) : Left RefR w (W.setCell ⟨x, 9 + k, none⟩ (.int .i64 (v : Int))) x G (Bk.setPt s (k : Int) v) := by
  obtain ⟨F1, r1, f1, n1⟩ := h
  exact ⟨F1, r1.setPt hi hk v, f1.setCell (Or.inl hx) _, n1⟩
theorem rleft_below {w W W' : World} {x : Nat} {G : Nat → Prop} {s : St} (h : Left RefR w W x G s) (hb : Below W.heap.size W W') : Left RefR w W' x G s := by
  obtain ⟨F1, r1, f1, n1⟩ := h
  exact ⟨F1, r1.keep hb, f1.trans' (Fr.of_below hb (fun _ => False) (fun k h1 h2 => by omega)) (fun i _ h => h.elim), n1⟩
theorem rmissing (w : World) (c : Nat) (G : Nat → Prop) (s : St) (id : Int) (h : RefR w c G s) (hv : Inv s) :
    Calls Tryz.prog 53 #[.pointer (some ⟨c, 0, none⟩), .int .i64 id] w fun e w' => e = .returned (.int .i64 (missing s id)) ∧ Below w.heap.size w w' := by
  obtain ⟨gs, cs, ga, ca, gk, ck, hr, hE⟩ := h
  exact missing_any c gs cs ga ca gk ck s id w hr hv.wk
theorem rthere (w : World) (c : Nat) (G : Nat → Prop) (s : St) (parent : Int) (h : Hdr) (hR : RefR w c G s) (hv : Inv s) :
    Calls Tryz.prog 74 #[.pointer (some ⟨c, 0, none⟩), .int .i64 parent, hdrV h] w fun e w' => e = .returned (.int .i64 ((there s parent h : Nat) : Int)) ∧ Below w.heap.size w w' := by
  obtain ⟨gs, cs, ga, ca, gk, ck, hr, hE⟩ := hR
  exact there_any c gs cs ga ca gk ck s parent h w hr hv.wk

set_option maxHeartbeats 1600000 in
set_option maxRecDepth 1000000 in
theorem rpoint (w : World) (x : Nat) (F : Nat → Prop) (s : St) (n : Int) (hR : RefR w x F s) (hi : Inv s) :
    Calls Tryz.prog 45 #[.pointer (some ⟨x, 0, none⟩), .int .i64 n] w fun e w' => e = .returned (.tuple #[.int .i64 (pointV s n), .int .i64 (pointE n)]) ∧ Left RefR w w' x F s := by
  have HV : Hid (pointV s n = if peerOk n = false then 0 else ((ptAt s n : Nat) : Int)) := rfl
  have HE : Hid (pointE n = if peerOk n = false then 12 else 0) := rfl
  have HL := Go.Proofs.YtpaakikgfojplaaGreat.hid (hR.same (Below.refl _ _))
  go_enter Tryz.func45, Tryz.ntmps45
  go_wp2_with fail
  refine (rpeer_is n w).mono ?_
  rintro e w1 ⟨rfl, rfl⟩
  cases hp : peerOk n
  · have hv : pointV s n = 0 := by rw [HV.out, hp]; rfl
    have he : pointE n = 12 := by rw [HE.out, hp]; rfl
    have HVE := Go.Proofs.YtpaakikgfojplaaGreat.hid (And.intro hv he)
    clear HV HE hv he hR
    go_wp2
    go_ret2
    exact ⟨by rw [HVE.out.1, HVE.out.2]; rfl, HL.out⟩
  · obtain ⟨k, rfl, hk⟩ := rpeer_nat hp
    have hv : pointV s (k : Int) = ((s.pts.getD k 0 : Nat) : Int) := by rw [HV.out, hp]; show ((ptAt s (k : Int) : Nat) : Int) = _; unfold ptAt; rw [Int.toNat_natCast]
    have he : pointE (k : Int) = 0 := by rw [HE.out, hp]; rfl
    have HVE := Go.Proofs.YtpaakikgfojplaaGreat.hid (And.intro hv he)
    have ck := (hR.pt hk).1
    have i1 : (0 : Int) ≤ (k : Int) := by omega
    have i2 : (k : Int) < 4 := by omega
    clear HV HE hv he hR hp
    generalize s.pts.getD k 0 = pt at *
    go_wp2
    go_ret2
    exact ⟨by rw [HVE.out.1, HVE.out.2]; rfl, HL.out⟩

set_option maxHeartbeats 3200000 in
set_option maxRecDepth 1000000 in
theorem rback (w : World) (x : Nat) (F : Nat → Prop) (s : St) (n id : Int) (hR : RefR w x F s) (hi : Inv s) :
    Calls Tryz.prog 43 #[.pointer (some ⟨x, 0, none⟩), .int .i64 n, .int .i64 id] w fun e w' => e = .returned (.int .i64 (backE s n id)) ∧ Left RefR w w' x F (backS s n id) := by
  have HR := Go.Proofs.YtpaakikgfojplaaGreat.hid hR
  clear hR
  have HE : Hid (backE s n id = if peerOk n = false then 12 else missing s id) := rfl
  have HS : Hid (backS s n id = if backE s n id = 0 then Bk.setPt s n id.toNat else s) := rfl
  have HNN : Hid (missing s id = 0 → ((id.toNat : Nat) : Int) = id) := by
    intro h
    unfold missing at h
    cases hh : has s.keep id
    · rw [hh] at h
      simp at h
      split at h <;> omega
    · rw [has_iff] at hh
      obtain ⟨k, hk, rfl⟩ := hh
      omega
  generalize backE s n id = BE at *
  generalize backS s n id = BS at *
  go_enter Tryz.func43, Tryz.ntmps43
  go_wp2_with fail
  refine (rpeer_is n w).mono ?_
  rintro e w0 ⟨rfl, rfl⟩
  cases hp : peerOk n
  · have he : BE = 12 := by rw [HE.out, hp]; rfl
    have hs : BS = s := by rw [HS.out, he]; rfl
    have HZ := Go.Proofs.YtpaakikgfojplaaGreat.hid hs
    subst he
    clear HE HS HNN hs
    go_wp2
    go_ret
    exact ⟨rfl, by rw [HZ.out]; exact HR.out.same (Below.refl _ _)⟩
  · obtain ⟨m, rfl, hm4⟩ := rpeer_nat hp
    have he : BE = missing s id := by rw [HE.out, hp]; rfl
    have i1 : (0 : Int) ≤ (m : Int) := by omega
    have i2 : (m : Int) < 4 := by omega
    clear HE hp
    go_wp2_with fail
    refine (rmissing w x F s id HR.out hi).mono ?_
    rintro r w1 ⟨rfl, hb1⟩
    have cp := ((HR.out.keep hb1).pt hm4).1
    have fp := ((HR.out.keep hb1).pt hm4).2
    have HL := Go.Proofs.YtpaakikgfojplaaGreat.hid (HR.out.same hb1)
    generalize s.pts.getD m 0 = opt at *
    by_cases hm : missing s id = 0
    · have hbe : BE = 0 := he.trans hm
      have hbs : BS = Bk.setPt s (m : Int) id.toNat := by rw [HS.out, if_pos hbe]
      have HF : Hid (Left RefR w (w1.setCell ⟨x, 9 + m, none⟩ (.int .i64 id)) x F (Bk.setPt s (m : Int) id.toNat)) := by
        have := rleft_set HL.out HR.out.x hi hm4 id.toNat
        rw [HNN.out hm] at this
        exact this
      rw [hm]
      have HZ := Go.Proofs.YtpaakikgfojplaaGreat.hid hbs
      subst hbe
      clear HS he hm hbs HNN hb1 HL
      go_wp2
      go_ret
      exact ⟨rfl, by rw [HZ.out]; exact HF.out⟩
    · have hbs : BS = s := by rw [HS.out, if_neg (by rw [he]; exact hm)]
      have hmb : (missing s id == 0) = false := by simp [hm]
      have HZ := Go.Proofs.YtpaakikgfojplaaGreat.hid hbs
      clear HS HNN hbs hb1 hm
      generalize missing s id = MM at *
      subst he
      go_wp2
      go_ret
      exact ⟨rfl, by rw [HZ.out]; exact HL.out⟩

set_option maxHeartbeats 3200000 in
set_option maxRecDepth 1000000 in
theorem rnext (w : World) (x : Nat) (F : Nat → Prop) (s : St) (n : Int) (t : List UInt8) (hR : RefR w x F s) (hi : Inv s) (ht : t.length ≤ maxLen) :
    Calls Tryz.prog 41 #[.pointer (some ⟨x, 0, none⟩), .int .i64 n, .string (txt t)] w fun e w' => e = .returned (.tuple #[.int .i64 (nextI s n t), .int .i64 (nextE s n t)]) ∧ Left RefR w w' x F (nextS s n t) := by
  have HR := Go.Proofs.YtpaakikgfojplaaGreat.hid hR
  clear hR
  have HDC := Go.Proofs.YtpaakikgfojplaaGreat.hid (fun W => rdecode_is t W ht)
  clear ht
  have HE : Hid (nextE s n t = if peerOk n = false then 12 else match dec t with | none => 13 | some h => toldE s n h) := rfl
  have HI : Hid (nextI s n t = if peerOk n = false then 0 else match dec t with | none => 0 | some h => toldI s n h) := rfl
  have HS : Hid (nextS s n t = if peerOk n = false then s else match dec t with | none => s | some h => toldS s n h) := rfl
  generalize nextE s n t = NE at *
  generalize nextI s n t = NI at *
  generalize nextS s n t = NS at *
  go_enter Tryz.func41, Tryz.ntmps41
  go_wp2_with fail
  refine (rpeer_is n w).mono ?_
  rintro e w0 ⟨rfl, rfl⟩
  cases hp : peerOk n
  · have he : NE = 12 := by rw [HE.out, hp]; rfl
    have hii : NI = 0 := by rw [HI.out, hp]; rfl
    have hs : NS = s := by rw [HS.out, hp]; rfl
    subst he; subst hii
    have HZ := Go.Proofs.YtpaakikgfojplaaGreat.hid hs
    clear HE HS HI HDC hs
    generalize txt t = T at *
    go_wp2
    go_ret2
    exact ⟨rfl, by rw [HZ.out]; exact HR.out.same (Below.refl _ _)⟩
  · obtain ⟨m, rfl, hm4⟩ := rpeer_nat hp
    have i1 : (0 : Int) ≤ (m : Int) := by omega
    have i2 : (m : Int) < 4 := by omega
    cases hd : dec t with
    | none =>
      have he : NE = 13 := by rw [HE.out, hp, hd]; rfl
      have hii : NI = 0 := by rw [HI.out, hp, hd]; rfl
      have hs : NS = s := by rw [HS.out, hp, hd]; rfl
      have e1 : decH t = zeroH := by unfold decH; rw [hd]; rfl
      have e2 : decE t = 13 := by unfold decE; rw [hd]; rfl
      rw [e1, e2] at HDC
      unfold hdrC zeroH at HDC
      subst he; subst hii
      have HZ := Go.Proofs.YtpaakikgfojplaaGreat.hid hs
      clear HE HS HI hp hd e1 e2 hs
      generalize txt t = T at *
      go_wp2_with fail
      refine (HDC.out w).mono ?_
      rintro e w1 ⟨rfl, hb1⟩
      have HB := Go.Proofs.YtpaakikgfojplaaGreat.hid (fun o => hb1.alloc hb1.size o)
      clear hb1 HDC
      go_wp2
      go_ret2
      exact ⟨rfl, by rw [HZ.out]; exact HR.out.same (HB.out _)⟩
    | some h =>
      have he : NE = toldE s (m : Int) h := by rw [HE.out, hp, hd]; rfl
      have hii : NI = toldI s (m : Int) h := by rw [HI.out, hp, hd]; rfl
      have hs : NS = toldS s (m : Int) h := by rw [HS.out, hp, hd]; rfl
      have e1 : decH t = h := by unfold decH; rw [hd]; rfl
      have e2 : decE t = 0 := by unfold decE; rw [hd]; rfl
      rw [e1, e2] at HDC
      have hpt : ptAt s (m : Int) = s.pts.getD m 0 := by unfold ptAt; rw [Int.toNat_natCast]
      have HTE : Hid (NE = if offerErr s (ptAt s (m : Int) : Nat) h = 10 then 0 else offerErr s (ptAt s (m : Int) : Nat) h) := he
      have HTI : Hid (NI = if NE = 0 then (if offerErr s (ptAt s (m : Int) : Nat) h = 10 then ((there s (ptAt s (m : Int) : Nat) h : Nat) : Int) else offerId s (ptAt s (m : Int) : Nat) h) else 0) := by rw [he]; exact hii
      have HTS : Hid (NS = if NE = 0 then Bk.setPt (offer s (ptAt s (m : Int) : Nat) h) (m : Int) (if offerErr s (ptAt s (m : Int) : Nat) h = 10 then ((there s (ptAt s (m : Int) : Nat) h : Nat) : Int) else offerId s (ptAt s (m : Int) : Nat) h).toNat else s) := by rw [he]; exact hs
      have HNN : Hid (0 ≤ offerId s (ptAt s (m : Int) : Nat) h) := by
        unfold Hid offerId
        split <;> omega
      have HNO : Hid (offerErr s (ptAt s (m : Int) : Nat) h ≠ 0 → offer s (ptAt s (m : Int) : Nat) h = s ∧ offerId s (ptAt s (m : Int) : Nat) h = 0) := by
        intro e
        unfold offer offerId
        rw [if_neg e, if_neg e]
        exact ⟨rfl, rfl⟩
      have HIO := Go.Proofs.YtpaakikgfojplaaGreat.hid (inv_offer hi (ptAt s (m : Int) : Nat) h)
      have HTK := Go.Proofs.YtpaakikgfojplaaGreat.hid (fun (W : World) (hb : Below w.heap.size w W) => roffer W x F s (ptAt s (m : Int) : Nat) h (HR.out.keep hb) hi)
      have HTH := Go.Proofs.YtpaakikgfojplaaGreat.hid (fun (W : World) (G' : Nat → Prop) (r : RefR W x G' s) => rthere W x G' s (ptAt s (m : Int) : Nat) h r hi)
      have HGL := Go.Proofs.YtpaakikgfojplaaGreat.hid HR.out.lt
      rw [hpt] at HTE HTI HTS HNN HNO HIO HTK HTH
      clear HE HI HS he hii hs hp hd e1 e2 hpt
      generalize hPT : s.pts.getD m 0 = PT at *
      generalize offerErr s (PT : Int) h = OE at *
      generalize offerId s (PT : Int) h = OI at *
      generalize there s (PT : Int) h = TH at *
      generalize hOS : offer s (PT : Int) h = OS at *
      obtain ⟨a0, a1, a2, a3, a4, a5, a6⟩ := h
      unfold hdrC at HDC
      unfold hdrV at HTK HTH
      simp only at HDC HTK HTH
      generalize txt t = T at *
      go_wp2_with fail
      refine (HDC.out w).mono ?_
      rintro e w1 ⟨rfl, hb1⟩
      go_upto_region 5 with fail
      generalize hA : w1.alloc (.cells #[.int .i64 a0, .int .i64 a1, .int .i64 a2, .int .i64 a3, .int .i64 a4, .int .i64 a5, .int .i64 a6] 40) = A at *
      obtain ⟨hsA, hbA, hAR⟩ := below_tx hA
      have hbAA := hb1.trans (hbA.mono hb1.size)
      have hw1 := hb1.size
      have hlA : w1.heap.size < A.heap.size := by omega
      have cp := ((HR.out.keep hbAA).pt hm4).1
      rw [hPT] at cp
      have x0 := cell_of_cells (j := 0) hAR rfl
      have x1 := cell_of_cells (j := 1) hAR rfl
      have x2 := cell_of_cells (j := 2) hAR rfl
      have x3 := cell_of_cells (j := 3) hAR rfl
      have x4 := cell_of_cells (j := 4) hAR rfl
      have x5 := cell_of_cells (j := 5) hAR rfl
      have x6 := cell_of_cells (j := 6) hAR rfl
      clear hA hsA hb1 hbA HDC
      go_wp2_with fail
      refine (HTK.out A hbAA).mono ?_
      rintro e w2 ⟨rfl, hL0⟩
      have hL := hL0.from hbAA
      have HL := Go.Proofs.YtpaakikgfojplaaGreat.hid hL
      have hA2 : w2.heap[w1.heap.size]? = some (.cells #[.int .i64 a0, .int .i64 a1, .int .i64 a2, .int .i64 a3, .int .i64 a4, .int .i64 a5, .int .i64 a6] 40 (0, 0)) := by
        obtain ⟨F1, r1, f1, n1⟩ := hL0
        exact (f1.block w1.heap.size hlA (fun e => by have := HGL.out _ e; omega)).trans hAR
      obtain ⟨F1, r1, f1, n1⟩ := hL
      have cq := (r1.pt hm4).1
      have fq := (r1.pt hm4).2
      have HR1 := Go.Proofs.YtpaakikgfojplaaGreat.hid r1
      generalize OS.pts.getD m 0 = QT at *
      clear x0 x1 x2 x3 x4 x5 x6 cp hL0 hbAA HTK f1 n1 hPT hAR r1
      by_cases o1 : OE = 10
      · have hne : NE = 0 := by rw [HTE.out, o1]; rfl
        have hni : NI = (TH : Int) := by rw [HTI.out, if_pos hne, if_pos o1]
        have hns : NS = Bk.setPt OS (m : Int) TH := by rw [HTS.out, if_pos hne, if_pos o1, Int.toNat_natCast]
        have hos : OS = s := (HNO.out (by rw [o1]; decide)).1
        have x0 := cell_of_cells (j := 0) hA2 rfl
        have x1 := cell_of_cells (j := 1) hA2 rfl
        have x2 := cell_of_cells (j := 2) hA2 rfl
        have x3 := cell_of_cells (j := 3) hA2 rfl
        have x4 := cell_of_cells (j := 4) hA2 rfl
        have x5 := cell_of_cells (j := 5) hA2 rfl
        have x6 := cell_of_cells (j := 6) hA2 rfl
        rw [hos] at HL HR1 hns HIO
        have hcall := HTH.out w2 F1 HR1.out
        have HZ := Go.Proofs.YtpaakikgfojplaaGreat.hid hns
        subst o1; subst hne; subst hni
        clear HTE HTI HTS HNN HNO HTH hA2 HGL hns
        go_wp2_with fail
        refine hcall.mono ?_
        rintro e w3 ⟨rfl, hb3⟩
        have cq3 : w3.cell? ⟨x, 9 + m, none⟩ = some (.int .i64 (QT : Int)) := (hb3.cell (p := ⟨x, 9 + m, none⟩) (HR1.out.lt x HR1.out.x)).trans cq
        have fq3 : w3.frozen? ⟨x, 9 + m, none⟩ = false := ((HR1.out.keep hb3).pt hm4).2
        have HF := Go.Proofs.YtpaakikgfojplaaGreat.hid (rleft_set (rleft_below HL.out hb3) HR.out.x hi hm4 TH)
        clear x0 x1 x2 x3 x4 x5 x6 cq fq hb3 HL HR1 hcall HIO
        go_wp2
        go_ret2
        exact ⟨rfl, by rw [HZ.out]; exact HF.out⟩
      · have o1b : (OE == 10) = false := by rw [beq_eq_false_iff_ne]; exact o1
        have hne : NE = OE := by rw [HTE.out, if_neg o1]
        by_cases o0 : OE = 0
        · have hni : NI = OI := by rw [HTI.out, hne, if_pos o0, if_neg o1]
          have hns : NS = Bk.setPt OS (m : Int) OI.toNat := by rw [HTS.out, hne, if_pos o0, if_neg o1]
          obtain ⟨ti, rfl⟩ : ∃ ti : Nat, OI = (ti : Int) := ⟨OI.toNat, by have := HNN.out; omega⟩
          rw [Int.toNat_natCast] at hns
          have HF := Go.Proofs.YtpaakikgfojplaaGreat.hid (rleft_set HL.out HR.out.x HIO.out hm4 ti)
          have HZ := Go.Proofs.YtpaakikgfojplaaGreat.hid hns
          subst o0; subst hne; subst hni
          clear HTE HTI HTS HNN HNO HIO HL o1 hA2 HTH HGL HR1 hns
          go_wp2
          go_ret2
          exact ⟨rfl, by rw [HZ.out]; exact HF.out⟩
        · have hoi : OI = 0 := (HNO.out o0).2
          have hni : NI = 0 := by rw [HTI.out, hne, if_neg o0]
          have hns : NS = OS := by rw [HTS.out, hne, if_neg o0]; exact (HNO.out o0).1.symm
          have b0 : (OE == 0) = false := by rw [beq_eq_false_iff_ne]; exact o0
          have HZ := Go.Proofs.YtpaakikgfojplaaGreat.hid hns
          subst hne; subst hni; subst hoi
          clear HTE HTI HTS HNN HNO HIO o0 o1 hA2 HTH HGL HR1 hns
          go_wp2
          go_ret2
          exact ⟨rfl, by rw [HZ.out]; exact HL.out⟩

end Go.Proofs.YtpaakikgfojplaaGreat

