import Derived.Test.YtpaakikgfojplaaGreatCBc3
import Derived.Test.YtpaakikgfojplaaGreatCM35
import Derived.Test.YtpaakikgfojplaaGreatCM45
import Derived.Test.YtpaakikgfojplaaGreatCM12
/-
  THE PROGRAM's CHAIN: peers: Next, Back, Point.
-/
namespace Go.Proofs.YtpaakikgfojplaaGreat
open Go.RowKit Num Bk Tx
set_option linter.unusedVariables false

theorem peer_nat {n : Int} (h : peerOk n = true) : ∃ k : Nat, n = (k : Int) ∧ k < 4 := by
  simp only [peerOk, Bool.and_eq_true, decide_eq_true_eq] at h
  exact ⟨n.toNat, by omega, by omega⟩

set_option maxHeartbeats 400000 in
theorem isPeer_is (n : Int) (w : World) :
    Calls Tryz.prog 70 #[.int .i64 n] w fun e w' => e = .returned (.bool (peerOk n)) ∧ w = w' := by
  have HP : Hid (peerOk n = (decide (0 ≤ n) && decide (n < 4))) := rfl
  by_cases h : 0 ≤ n
  · go_enter Tryz.func70, Tryz.ntmps70
    go_wp2
    go_ret
    exact ⟨by rw [HP.out]; simp [h], rfl⟩
  · go_enter Tryz.func70, Tryz.ntmps70
    go_wp2
    go_ret
    exact ⟨by rw [HP.out]; simp; omega, rfl⟩

theorem ChAt.pt {w : World} {x gk ck : Nat} {pv : Value} {ps : List Nat} {p : Par} {acc : Int} {ns : List Nd} {past : List Nat} (h : ChAt w x gk ck pv ps p acc ns past) {k : Nat} (hk : k < 4) : w.cell? ⟨x, 10 + k, none⟩ = some (.int .i64 ((ps.getD k 0 : Nat) : Int)) := by
  match k, hk with
  | 0, _ => exact cell_of_cells (j := 10) h.blk rfl
  | 1, _ => exact cell_of_cells (j := 11) h.blk rfl
  | 2, _ => exact cell_of_cells (j := 12) h.blk rfl
  | 3, _ => exact cell_of_cells (j := 13) h.blk rfl

theorem ChAt.setPt {w : World} {x gk ck : Nat} {pv : Value} {ps : List Nat} {p : Par} {acc : Int} {ns : List Nd} {past : List Nat} (h : ChAt w x gk ck pv ps p acc ns past) (hp : ps.length = 4) {k : Nat} (hk : k < 4) (v : Nat) : ChAt (w.setCell ⟨x, 10 + k, none⟩ (.int .i64 (v : Int))) x gk ck pv (ps.set k v) p acc ns past := by
  obtain ⟨hn1, hn2⟩ := h.ne
  refine ⟨?_, ?_, ?_⟩
  · rw [heap_setCell_same w x (10 + k) _ 66 _ h.blk]
    match ps, hp with
    | [a, b, c, d], _ =>
      match k, hk with
      | 0, _ => rfl
      | 1, _ => rfl
      | 2, _ => rfl
      | 3, _ => rfl
  · exact ownsRow_setCell_other h.kep (by simpa [Value.ownBlock] using Ne.symm hn1) _
  · exact ownsRow_setCell_other h.pst (fun e => (hn2 x (by simpa using e)).1 rfl) _

theorem rep_setPt {w : World} {x : Nat} {F : Nat → Prop} {s : St} (h : RepP w x F s) (hi : Inv s) {k : Nat} (hk : k < 4) (v : Nat) : RepP (w.setCell ⟨x, 10 + k, none⟩ (.int .i64 (v : Int))) x F (Bk.setPt s (k : Int) v) := by
  obtain ⟨gk, ck, pv, hr, hF⟩ := h
  refine ⟨gk, ck, pv, ⟨?_⟩, hF⟩
  have := hr.ch.setPt hi.pts hk v
  show ChAt _ x gk ck pv (s.pts.set ((k : Int)).toNat v) s.par _ _ _
  rw [Int.toNat_natCast]
  exact this
theorem rep_x {w : World} {x : Nat} {F : Nat → Prop} {s : St} (h : RepP w x F s) : F x := by
  obtain ⟨gk, ck, pv, hr, hF⟩ := h
  exact (hF x).2 (Or.inl rfl)
theorem rep_pt {w : World} {x : Nat} {F : Nat → Prop} {s : St} (h : RepP w x F s) {k : Nat} (hk : k < 4) : w.cell? ⟨x, 10 + k, none⟩ = some (.int .i64 ((s.pts.getD k 0 : Nat) : Int)) ∧ w.frozen? ⟨x, 10 + k, none⟩ = false := by
  obtain ⟨gk, ck, pv, hr, hF⟩ := h
  exact ⟨hr.ch.pt hk, free_of_cells hr.ch.blk⟩
theorem left_set {w W : World} {x : Nat} {F : Nat → Prop} {s : St} (h : Left RepP w W x F s) (hx : F x) (hi : Inv s) {k : Nat} (hk : k < 4) (v : Nat) : Left RepP w (W.setCell ⟨x, 10 + k, none⟩ (.int .i64 (v : Int))) x F (Bk.setPt s (k : Int) v) := by
  obtain ⟨F1, r1, f1, n1⟩ := h
  exact ⟨F1, rep_setPt r1 hi hk v, f1.setCell (Or.inl hx) _, n1⟩

set_option maxHeartbeats 1600000 in
set_option maxRecDepth 1000000 in
theorem ppoint_is (w : World) (x : Nat) (F : Nat → Prop) (s : St) (n : Int) (hR : RepP w x F s) (hi : Inv s) :
    Calls Tryz.prog 44 #[.pointer (some ⟨x, 0, none⟩), .int .i64 n] w fun e w' => e = .returned (.tuple #[.int .i64 (pointV s n), .int .i64 (pointE n)]) ∧ Below w.heap.size w w' := by
  have HV : Hid (pointV s n = if peerOk n = false then 0 else ((ptAt s n : Nat) : Int)) := rfl
  have HE : Hid (pointE n = if peerOk n = false then 12 else 0) := rfl
  go_enter Tryz.func44, Tryz.ntmps44
  go_wp2_with fail
  refine (isPeer_is n w).mono ?_
  rintro e w1 ⟨rfl, rfl⟩
  cases hp : peerOk n
  · have hv : pointV s n = 0 := by rw [HV.out, hp]; rfl
    have he : pointE n = 12 := by rw [HE.out, hp]; rfl
    have HVE := Go.Proofs.YtpaakikgfojplaaGreat.hid (And.intro hv he)
    clear HV HE hv he hR
    go_wp2
    go_ret2
    exact ⟨by rw [HVE.out.1, HVE.out.2]; rfl, Below.refl _ _⟩
  · obtain ⟨k, rfl, hk⟩ := peer_nat hp
    have hv : pointV s (k : Int) = ((s.pts.getD k 0 : Nat) : Int) := by rw [HV.out, hp]; show ((ptAt s (k : Int) : Nat) : Int) = _; unfold ptAt; rw [Int.toNat_natCast]
    have he : pointE (k : Int) = 0 := by rw [HE.out, hp]; rfl
    have HVE := Go.Proofs.YtpaakikgfojplaaGreat.hid (And.intro hv he)
    have ck := (rep_pt hR hk).1
    have i1 : (0 : Int) ≤ (k : Int) := by omega
    have i2 : (k : Int) < 4 := by omega
    clear HV HE hv he hR hp
    generalize s.pts.getD k 0 = pt at *
    go_wp2
    go_ret2
    exact ⟨by rw [HVE.out.1, HVE.out.2]; rfl, Below.refl _ _⟩

set_option maxHeartbeats 3200000 in
set_option maxRecDepth 1000000 in
theorem pback_is (w : World) (x : Nat) (F : Nat → Prop) (s : St) (n id : Int) (hR : RepP w x F s) (hi : Inv s) :
    Calls Tryz.prog 42 #[.pointer (some ⟨x, 0, none⟩), .int .i64 n, .int .i64 id] w fun e w' => e = .returned (.int .i64 (backE s n id)) ∧ Left RepP w w' x F (backS s n id) := by
  have HR := Go.Proofs.YtpaakikgfojplaaGreat.hid hR
  obtain ⟨gk, ck, pv, ⟨hr⟩, hF⟩ := hR
  have hks := keep_small hi
  have hls := line_small hi
  have HE : Hid (backE s n id = if peerOk n = false then 12 else missing s id) := rfl
  have HS : Hid (backS s n id = if backE s n id = 0 then Bk.setPt s n id.toNat else s) := rfl
  generalize backE s n id = BE at *
  generalize backS s n id = BS at *
  go_enter Tryz.func42, Tryz.ntmps42
  go_wp2_with fail
  refine (isPeer_is n w).mono ?_
  rintro e w0 ⟨rfl, rfl⟩
  cases hp : peerOk n
  · have he : BE = 12 := by rw [HE.out, hp]; rfl
    have hs : BS = s := by rw [HS.out, he]; rfl
    subst he; subst hs
    clear HE HS hr
    go_wp2
    go_ret
    exact ⟨rfl, left_same HR.out (Below.refl _ _)⟩
  · obtain ⟨m, rfl, hm4⟩ := peer_nat hp
    have he : BE = missing s id := by rw [HE.out, hp]; rfl
    have i1 : (0 : Int) ≤ (m : Int) := by omega
    have i2 : (m : Int) < 4 := by omega
    clear HE hp
    go_wp2_with fail
    refine (find_is x gk ck pv s.par _ _ _ id w hr (by omega) (by omega)).mono ?_
    rintro r w1 ⟨rfl, hb1⟩
    rw [findErr_map hi]
    have hr1 := hr.keep hb1
    unfold ndV
    rcases found hi id with ⟨hm, k, rfl, hk, hf⟩ | ⟨hm, hf⟩
    · rw [hf, hm]
      simp only [Option.getD_some]
      have hbe : BE = 0 := he.trans hm
      have hbs : BS = Bk.setPt s (m : Int) k := by rw [HS.out, if_pos hbe, Int.toNat_natCast]
      have hnid : (ndOf s.par s.all k).id = (k : Int) := rfl
      subst hbe; subst hbs
      clear hr hm hf HS he
      generalize ndOf s.par s.all k = nn at *
      go_upto_region 4 with (refine wpList_store_row rfl 95 _ _ rfl w1.heap.size (ndA nn) rfl rfl 95 (ndA zeroN) (heap_alloc_new w1 _) (info_nodeA _) rfl (nd_one _) ?_)
      generalize hW : (w1.alloc (.cells #[.int .i64 0, .int .i64 0, .int .i64 0, .int .i64 0, .int .i64 0, .int .i64 0, .int .i64 0, .int .i64 0, .int .i64 0, .int .i64 0, .int .i64 0, .int .i64 0, .int .i64 0, .int .i64 0, .int .i64 0, .int .i64 0, .int .i64 0, .int .i64 0, .int .i64 0, .int .i64 0, .int .i64 0, .int .i64 0, .int .i64 0, .int .i64 0, .int .i64 0, .int .i64 0, .int .i64 0, .int .i64 0, .int .i64 0, .int .i64 0, .int .i64 0, .int .i64 0, .int .i64 0, .int .i64 0, .int .i64 0, .int .i64 0, .int .i64 0] 95)).setRow w1.heap.size (ndA nn) = W at *
      obtain ⟨hsW, hbW, hWR⟩ := row_new hW
      clear hW
      have hbWW := hb1.trans (hbW.mono hb1.size)
      have hL := left_same HR.out hbWW
      have HLS := Go.Proofs.YtpaakikgfojplaaGreat.hid (left_set hL (rep_x HR.out) hi hm4 k)
      have HLD := Go.Proofs.YtpaakikgfojplaaGreat.hid (left_set (left_same HR.out hbWW.drew) (rep_x HR.out) hi hm4 k)
      have cp := (rep_pt (HR.out.keep hbWW) hm4).1
      have fp := (rep_pt (HR.out.keep hbWW) hm4).2
      have cn : W.cell? ⟨w1.heap.size, 0, none⟩ = some (.int .i64 (k : Int)) := by rw [← hnid]; exact cell_of_cells (j := 0) hWR rfl
      have hxw : x ≠ w1.heap.size := by have := hr1.lts.1; omega
      clear hr1 hbW hWR hbWW hL hb1 hnid
      generalize w1.heap.size = B at *
      generalize s.pts.getD m 0 = opt at *
      go_wp2
      go_region
      all_goals
        go_wp2
        go_ret
        exact ⟨rfl, by first | exact HLD.out | exact HLS.out⟩
    · rw [hf]
      simp only [Option.getD_none]
      have hbs : BS = s := by rw [HS.out, if_neg (by rw [he]; exact hm)]
      have hmb : (missing s id != 0) = true := by simp [hm]
      subst hbs
      clear HS hr hf
      generalize hMM : missing BS id = MM at *
      subst he
      go_upto_region 4 with (refine wpList_store_row rfl 95 _ _ rfl w1.heap.size (ndA zeroN) rfl rfl 95 (ndA zeroN) (heap_alloc_new w1 _) (info_nodeA _) rfl (nd_one _) ?_)
      generalize hW : (w1.alloc (.cells #[.int .i64 0, .int .i64 0, .int .i64 0, .int .i64 0, .int .i64 0, .int .i64 0, .int .i64 0, .int .i64 0, .int .i64 0, .int .i64 0, .int .i64 0, .int .i64 0, .int .i64 0, .int .i64 0, .int .i64 0, .int .i64 0, .int .i64 0, .int .i64 0, .int .i64 0, .int .i64 0, .int .i64 0, .int .i64 0, .int .i64 0, .int .i64 0, .int .i64 0, .int .i64 0, .int .i64 0, .int .i64 0, .int .i64 0, .int .i64 0, .int .i64 0, .int .i64 0, .int .i64 0, .int .i64 0, .int .i64 0, .int .i64 0, .int .i64 0] 95)).setRow w1.heap.size (ndA zeroN) = W at *
      obtain ⟨hsW, hbW, hWR⟩ := row_new hW
      have HBW := Go.Proofs.YtpaakikgfojplaaGreat.hid (hb1.trans (hbW.mono hb1.size))
      clear hW hr1 hb1 hbW hWR
      go_wp2
      go_ret
      exact ⟨rfl, left_same HR.out HBW.out⟩

set_option maxHeartbeats 3200000 in
set_option maxRecDepth 1000000 in
theorem pnext_is (w : World) (x : Nat) (F : Nat → Prop) (s : St) (n : Int) (t : List UInt8) (hR : RepP w x F s) (hi : Inv s) (ht : t.length ≤ maxLen) :
    Calls Tryz.prog 40 #[.pointer (some ⟨x, 0, none⟩), .int .i64 n, .string (txt t)] w fun e w' => e = .returned (.tuple #[.int .i64 (nextI s n t), .int .i64 (nextE s n t)]) ∧ Left RepP w w' x F (nextS s n t) := by
  have HR := Go.Proofs.YtpaakikgfojplaaGreat.hid hR
  clear hR
  have HDC := Go.Proofs.YtpaakikgfojplaaGreat.hid (fun W => tdecode_is t W ht)
  clear ht
  have HE : Hid (nextE s n t = if peerOk n = false then 12 else match dec t with | none => 13 | some h => toldE s n h) := rfl
  have HI : Hid (nextI s n t = if peerOk n = false then 0 else match dec t with | none => 0 | some h => toldI s n h) := rfl
  have HS : Hid (nextS s n t = if peerOk n = false then s else match dec t with | none => s | some h => toldS s n h) := rfl
  generalize nextE s n t = NE at *
  generalize nextI s n t = NI at *
  generalize nextS s n t = NS at *
  go_enter Tryz.func40, Tryz.ntmps40
  go_wp2_with fail
  refine (isPeer_is n w).mono ?_
  rintro e w0 ⟨rfl, rfl⟩
  cases hp : peerOk n
  · have he : NE = 12 := by rw [HE.out, hp]; rfl
    have hii : NI = 0 := by rw [HI.out, hp]; rfl
    have hs : NS = s := by rw [HS.out, hp]; rfl
    subst he; subst hs; subst hii
    clear HE HS HI HDC
    generalize txt t = T at *
    go_wp2
    go_ret2
    exact ⟨rfl, left_same HR.out (Below.refl _ _)⟩
  · obtain ⟨m, rfl, hm4⟩ := peer_nat hp
    have i1 : (0 : Int) ≤ (m : Int) := by omega
    have i2 : (m : Int) < 4 := by omega
    cases hd : dec t with
    | none =>
      have he : NE = 13 := by rw [HE.out, hp, hd]; rfl
      have hii : NI = 0 := by rw [HI.out, hp, hd]; rfl
      have hs : NS = s := by rw [HS.out, hp, hd]; rfl
      have e1 : decH t = zeroH := by unfold decH; rw [hd]; rfl
      have e2 : decE t = 13 := by unfold decE; rw [hd]; rfl
      rw [e1, e2] at HDC
      unfold hdrC zeroH at HDC
      subst he; subst hs; subst hii
      clear HE HS HI hp hd e1 e2
      generalize txt t = T at *
      go_wp2_with fail
      refine (HDC.out w).mono ?_
      rintro e w1 ⟨rfl, hb1⟩
      have HB := Go.Proofs.YtpaakikgfojplaaGreat.hid (fun o => hb1.alloc hb1.size o)
      clear hb1 HDC
      go_wp2
      go_ret2
      exact ⟨rfl, left_same HR.out (HB.out _)⟩
    | some h =>
      have he : NE = toldE s (m : Int) h := by rw [HE.out, hp, hd]; rfl
      have hii : NI = toldI s (m : Int) h := by rw [HI.out, hp, hd]; rfl
      have hs : NS = toldS s (m : Int) h := by rw [HS.out, hp, hd]; rfl
      have e1 : decH t = h := by unfold decH; rw [hd]; rfl
      have e2 : decE t = 0 := by unfold decE; rw [hd]; rfl
      rw [e1, e2] at HDC
      have hpt : ptAt s (m : Int) = s.pts.getD m 0 := by unfold ptAt; rw [Int.toNat_natCast]
      have HTE : Hid (NE = if offerErr s (ptAt s (m : Int) : Nat) h = 10 then 0 else offerErr s (ptAt s (m : Int) : Nat) h) := he
      have HTI : Hid (NI = if NE = 0 then takeId s (ptAt s (m : Int) : Nat) h else 0) := by rw [he]; exact hii
      have HTS : Hid (NS = if NE = 0 then Bk.setPt (offer s (ptAt s (m : Int) : Nat) h) (m : Int) (takeId s (ptAt s (m : Int) : Nat) h).toNat else s) := by rw [he]; exact hs
      have HNN : Hid (0 ≤ takeId s (ptAt s (m : Int) : Nat) h) := by
        unfold Hid takeId offerId
        split
        · omega
        · split <;> omega
      have HNO := Go.Proofs.YtpaakikgfojplaaGreat.hid (fun (e : offerErr s (ptAt s (m : Int) : Nat) h ≠ 0) => offer_no e)
      have HIO := Go.Proofs.YtpaakikgfojplaaGreat.hid (inv_offer hi (ptAt s (m : Int) : Nat) h)
      have HTK := Go.Proofs.YtpaakikgfojplaaGreat.hid (fun (W : World) (hb : Below w.heap.size w W) => ptake_is W x F s (ptAt s (m : Int) : Nat) h (HR.out.keep hb) hi)
      rw [hpt] at HTE HTI HTS HNN HNO HIO HTK
      clear HE HI HS he hii hs hp hd e1 e2 hpt
      generalize hPT : s.pts.getD m 0 = PT at *
      generalize offerErr s (PT : Int) h = OE at *
      generalize takeId s (PT : Int) h = TI at *
      generalize offer s (PT : Int) h = OS at *
      obtain ⟨a0, a1, a2, a3, a4, a5, a6⟩ := h
      unfold hdrC at HDC
      unfold hdrV at HTK
      simp only at HDC HTK
      generalize txt t = T at *
      go_wp2_with fail
      refine (HDC.out w).mono ?_
      rintro e w1 ⟨rfl, hb1⟩
      go_upto_region 4 with fail
      generalize hA : w1.alloc (.cells #[.int .i64 a0, .int .i64 a1, .int .i64 a2, .int .i64 a3, .int .i64 a4, .int .i64 a5, .int .i64 a6] 40) = A at *
      obtain ⟨hsA, hbA, hAR⟩ := below_tx hA
      have hbAA := hb1.trans (hbA.mono hb1.size)
      have cp := (rep_pt (HR.out.keep hbAA) hm4).1
      rw [hPT] at cp
      have x0 := cell_of_cells (j := 0) hAR rfl
      have x1 := cell_of_cells (j := 1) hAR rfl
      have x2 := cell_of_cells (j := 2) hAR rfl
      have x3 := cell_of_cells (j := 3) hAR rfl
      have x4 := cell_of_cells (j := 4) hAR rfl
      have x5 := cell_of_cells (j := 5) hAR rfl
      have x6 := cell_of_cells (j := 6) hAR rfl
      clear hA hsA hb1 hbA hAR HDC
      go_wp2_with fail
      refine (HTK.out A hbAA).mono ?_
      rintro e w2 ⟨rfl, hL0⟩
      have hL := hL0.from hbAA
      have HL := Go.Proofs.YtpaakikgfojplaaGreat.hid hL
      obtain ⟨F1, r1, f1, n1⟩ := hL
      have cq := (rep_pt r1 hm4).1
      have fq := (rep_pt r1 hm4).2
      generalize OS.pts.getD m 0 = QT at *
      clear x0 x1 x2 x3 x4 x5 x6 cp hL0 hbAA HTK r1 f1 n1 hPT
      by_cases o0 : OE = 0
      · have hne : NE = 0 := by rw [HTE.out, o0]; rfl
        have hni : NI = TI := by rw [HTI.out, if_pos hne]
        have hns : NS = Bk.setPt OS (m : Int) TI.toNat := by rw [HTS.out, if_pos hne]
        obtain ⟨ti, rfl⟩ : ∃ ti : Nat, TI = (ti : Int) := ⟨TI.toNat, by have := HNN.out; omega⟩
        rw [Int.toNat_natCast] at hns
        have HF := Go.Proofs.YtpaakikgfojplaaGreat.hid (left_set HL.out (rep_x HR.out) HIO.out hm4 ti)
        subst o0; subst hne; subst hni; subst hns
        clear HTE HTI HTS HNN HNO HIO HL
        go_wp2
        go_ret2
        exact ⟨rfl, HF.out⟩
      · by_cases o1 : OE = 10
        · have hne : NE = 0 := by rw [HTE.out, o1]; rfl
          have hni : NI = TI := by rw [HTI.out, if_pos hne]
          have hns : NS = Bk.setPt OS (m : Int) TI.toNat := by rw [HTS.out, if_pos hne]
          obtain ⟨ti, rfl⟩ : ∃ ti : Nat, TI = (ti : Int) := ⟨TI.toNat, by have := HNN.out; omega⟩
          rw [Int.toNat_natCast] at hns
          have HF := Go.Proofs.YtpaakikgfojplaaGreat.hid (left_set HL.out (rep_x HR.out) HIO.out hm4 ti)
          subst o1; subst hne; subst hni; subst hns
          clear HTE HTI HTS HNN HNO HIO HL o0
          go_wp2
          go_ret2
          exact ⟨rfl, HF.out⟩
        · have hne : NE = OE := by rw [HTE.out, if_neg o1]
          have hni : NI = 0 := by rw [HTI.out, if_neg (by rw [hne]; exact o0)]
          have hns : NS = OS := by rw [HTS.out, if_neg (by rw [hne]; exact o0)]; exact (HNO.out o0).1.symm
          have b0 : (OE != 0) = true := by rw [bne_iff_ne]; exact o0
          have b1 : (OE != 10) = true := by rw [bne_iff_ne]; exact o1
          subst hne; subst hni; subst hns
          clear HTE HTI HTS HNN HNO HIO o0 o1
          go_wp2
          go_ret2
          exact ⟨rfl, HL.out⟩

/-- THE PROGRAM PAYS, to peers too. -/
theorem paidP : PPeer RepP where
  next := fun w x F s n t hR hi _ ht => pnext_is w x F s n t hR hi ht
  back := fun w x F s n id hR hi _ _ => pback_is w x F s n id hR hi
  point := fun w x F s n hR hi _ => ppoint_is w x F s n hR hi

end Go.Proofs.YtpaakikgfojplaaGreat

