import Derived.Test.YtpaakikgfojplabCM20
import Derived.Test.YtpaakikgfojplabCM21
import Derived.Test.YtpaakikgfojplabCM23
import Derived.Test.YtpaakikgfojplabCM26
/-
  THE WALK of the law Followed, under what the program's chain owes.
-/
namespace Go.Proofs.Ytpaakikgfojplab
open Go.RowKit Num Bk Tx
set_option linter.unusedVariables false

/-- What holds ahead of each step. -/
def FolI (Rep : World → Nat → (Nat → Prop) → St → Prop) (w wr : World) (b xc gs cs d xd gs2 cs2 : Nat) : Prop :=
  ∃ (ga ca ga2 ca2 : Nat) (F G : Nat → Prop) (s t : St), Duo Rep w wr ⟨b, xc, gs, cs, ga, ca, F, s, s⟩ ⟨d, xd, gs2, cs2, ga2, ca2, G, t, t⟩ [] ∧ Alike s t

set_option maxHeartbeats 12800000 in
set_option maxRecDepth 1000000 in
theorem followed_any {Rep : World → Nat → (Nat → Prop) → St → Prop} (P : PSpec Rep) (Q : PPeer Rep) (a : Option Addr) (cap : Nat) (z : List Int) (a2 : Option Addr) (cap2 : Nat) (l : List Stp) (w : World) (hz : RawAt w a z) (hl : StepsAt w a2 l) (hlm : l.length ≤ maxLen) :
    Calls Try.prog 8 #[.slice a z.length cap, .slice a2 l.length cap2] w fun e w' => e = .returned (.bool true) ∧ Below w.heap.size w w' := by
  have HL := Go.Proofs.Ytpaakikgfojplab.hid hl
  have HZ := Go.Proofs.Ytpaakikgfojplab.hid hz
  have hlm' : l.length ≤ 9223372036854775807 := hlm
  clear hl hlm
  go_enter Try.func8, Try.ntmps8
  go_wp2_with fail
  refine (opened_any P a cap z w HZ.out).mono ?_
  rintro e w1 ⟨b, xc, gs, cs, ga, ca, F, rfl, hN⟩
  go_wp2_with fail
  refine (opened_any P a cap z w1 (HZ.out.keep hN.2.1)).mono ?_
  rintro e w2 ⟨d, xd, gs2, cs2, ga2, ca2, G, rfl, hM⟩
  have HI0 : Hid (FolI Rep w w2 b xc gs cs d xd gs2 cs2) := ⟨ga, ca, ga2, ca2, F, G, _, _, duo_of P hN hM, Alike.refl _⟩
  clear hN hM HZ hz
  generalize hn : l.length = n at *
  go_wp2
  go_loopw [7] (fun i wr => ∃ k : Nat, k ≤ n ∧ i = .int .i64 k ∧ Hid (FolI Rep w wr b xc gs cs d xd gs2 cs2)) (fun i _ => n - (intOf i).toNat)
  case atStart => exact ⟨0, Nat.zero_le _, rfl, HI0⟩
  case round =>
    clear HI0
    obtain ⟨k, hk, rfl, HI⟩ := hrel
    obtain ⟨ga, ca, ga2, ca2, F, G, s, t, hD0, hal⟩ := HI.out
    have HAL := Go.Proofs.Ytpaakikgfojplab.hid hal
    clear hal
    by_cases hlt : k < n
    · have hlt' : (k : Int) < (n : Int) := by omega
      obtain ⟨o, ho⟩ : ∃ o, l[k]? = some o := ⟨l[k]'(by omega), List.getElem?_eq_getElem (by omega)⟩
      obtain ⟨x, rfl, q0, q1, q2, q3, hI⟩ := (HL.out.keep hD0.bel) k o ho
      obtain ⟨oA, oB, oC, oD⟩ := o
      simp only at q0 q1 q2 q3
      go_upto_region 9 with fail
      have HD1 := Go.Proofs.Ytpaakikgfojplab.hid (hD0.alloc P (.cells #[.int .i64 oA, .int .i64 oB, .int .i64 oC, .int .i64 oD] 36))
      clear hD0 HI q0 q1 q2 q3 ho
      generalize wr.heap.size = Bo at *
      generalize wr.alloc (.cells #[.int .i64 oA, .int .i64 oB, .int .i64 oC, .int .i64 oD] 36) = w3 at *
      have hv := HD1.out.one.inv
      have hv' : Inv s := hv
      clear hv
      have hv := hv'
      clear hv'
      have hsm := hv.wk.small
      have hkl := hv.wk.kl
      obtain ⟨hpm, hpl⟩ := stepP_mem hv ⟨oA, oB, oC, oD⟩
      have hpp := inv_lt hv hpm
      have hpd : stepP s ⟨oA, oB, oC, oD⟩ = s.keep.getD (pickI oA s.keep.length).toNat 0 := rfl
      have hpb := pickI_bounds oA s.keep.length (by omega)
      obtain ⟨kN, hkN⟩ : ∃ kN : Nat, pickI oA s.keep.length = (kN : Int) := ⟨(pickI oA s.keep.length).toNat, by omega⟩
      have HKN := Go.Proofs.Ytpaakikgfojplab.hid hkN
      rw [hkN, Int.toNat_natCast] at hpd
      have hpl' : kN < s.keep.length := by have := hpb.2; rw [hkN] at this; omega
      go_wp2_with fail
      refine (bkept_any b xc gs cs ga ca s w3 HD1.out.one.book hv).mono ?_
      rintro e w4 ⟨g, cap4, rfl, hown, hb4⟩
      have HD2 := Go.Proofs.Ytpaakikgfojplab.hid (HD1.out.below P hb4)
      have ck := (hown.cellAt kN (by omega)).trans (dcells_at s.keep kN hpl')
      rw [← hpd] at ck
      have hob := (HD2.out.loc _ (List.mem_cons_self ..)).1
      have o0 := cell_of_cells (j := 0) hob rfl
      have o1 := cell_of_cells (j := 1) hob rfl
      have o2 := cell_of_cells (j := 2) hob rfl
      have o3 := cell_of_cells (j := 3) hob rfl
      clear hown hb4 HD1 hob hpd hkN hpb hpl
      go_wp2_with fail
      refine (pick_is oA (s.keep.length : Int) _ hI.a (by omega) (by omega)).mono ?_
      rintro e w5 ⟨rfl, rfl⟩
      rw [HKN.out]
      clear HKN
      generalize stepP s ⟨oA, oB, oC, oD⟩ = pid at *
      go_wp2_with fail
      refine (made_any P b xc gs cs ga ca s F pid ⟨oA, oB, oC, oD⟩ _ HD2.out.one.book HD2.out.one.rep hv hpm hI HD2.out.one.n1 HD2.out.one.n2 HD2.out.one.n3).mono ?_
      rintro e w6 ⟨rfl, hL6⟩
      have HMK := Go.Proofs.Ytpaakikgfojplab.hid (fun h => made_ok hv hpm (o := ⟨oA, oB, oC, oD⟩) (h := h))
      obtain ⟨F6, hD6⟩ := HD2.out.left P hv hL6
      have HD6 : Hid (Duo Rep w w6 ⟨b, xc, gs, cs, ga, ca, F6, s, s⟩ ⟨d, xd, gs2, cs2, ga2, ca2, G, t, t⟩ [(Bo, .cells #[.int .i64 oA, .int .i64 oB, .int .i64 oC, .int .i64 oD] 36)]) := hD6
      clear hL6 hD6 HD2 o0 o1 o2 o3 ck
      generalize madeH s pid ⟨oA, oB, oC, oD⟩ = mh at *
      cases mh with
      | none =>
        have HFI : Hid (∀ ob, FolI Rep w (w6.alloc ob) b xc gs cs d xd gs2 cs2) := fun ob => ⟨ga, ca, ga2, ca2, F6, G, s, t, (HD6.out.alloc P ob).drop, HAL.out⟩
        rw [show optV none = .agg #[.int .i64 0, .int .i64 0, .int .i64 0, .int .i64 0, .int .i64 0, .int .i64 0, .int .i64 0] from rfl, show (none : Option Hdr).isSome = false from rfl]
        clear HD6 HMK
        go_wp2
        go_roundw
        case rel => exact ⟨k + 1, by omega, by go_num, HFI.out _⟩
        case measure => simp [intOf]; omega
      | some h =>
        have hmo := HMK.out h rfl
        obtain ⟨hlow, hfit⟩ := made_text hv hpm hmo
        have HPE := Go.Proofs.Ytpaakikgfojplab.hid (fun W => pencode_is h W hfit)
        rw [show encT h = enc h by unfold encT; rw [hlow]; rfl, show encE h = 0 by unfold encE; rw [hlow]; rfl] at HPE
        have HFN := Go.Proofs.Ytpaakikgfojplab.hid (fun (m : Nat) (hm : m < 4) (hit : Inv t) => fol_next hv hit HAL.out hpm hm hmo hlow hfit)
        have HHI := Go.Proofs.Ytpaakikgfojplab.hid hmo.is
        have hwe := hmo.err.symm
        have hwn := hmo.num.symm
        have HIO := Go.Proofs.Ytpaakikgfojplab.hid (inv_offer hv (pid : Int) h)
        have HEL := Go.Proofs.Ytpaakikgfojplab.hid (show (enc h).length ≤ maxLen by have := (enc_len h).2; show _ ≤ 9223372036854775807; omega)
        clear hlow hfit hmo HMK
        obtain ⟨a0, a1, a2, a3, a4, a5, a6⟩ := h
        rw [show optV (some ⟨a0, a1, a2, a3, a4, a5, a6⟩) = .agg #[.int .i64 a0, .int .i64 a1, .int .i64 a2, .int .i64 a3, .int .i64 a4, .int .i64 a5, .int .i64 a6] from rfl, show (some (⟨a0, a1, a2, a3, a4, a5, a6⟩ : Hdr)).isSome = true from rfl]
        go_upto_region 12 with fail
        have HD7 := Go.Proofs.Ytpaakikgfojplab.hid (HD6.out.alloc P (.cells #[.int .i64 a0, .int .i64 a1, .int .i64 a2, .int .i64 a3, .int .i64 a4, .int .i64 a5, .int .i64 a6] 42))
        clear HD6
        generalize w6.heap.size = Bh at *
        generalize w6.alloc (.cells #[.int .i64 a0, .int .i64 a1, .int .i64 a2, .int .i64 a3, .int .i64 a4, .int .i64 a5, .int .i64 a6] 42) = w7 at *
        have hh7 := (HD7.out.loc _ (List.mem_cons_self ..)).1
        have g0 : w7.cell? ⟨Bh, 0, none⟩ = some (.int .i64 a0) := cell_of_cells (j := 0) hh7 rfl
        have g1 : w7.cell? ⟨Bh, 1, none⟩ = some (.int .i64 a1) := cell_of_cells (j := 1) hh7 rfl
        have g2 : w7.cell? ⟨Bh, 2, none⟩ = some (.int .i64 a2) := cell_of_cells (j := 2) hh7 rfl
        have g3 : w7.cell? ⟨Bh, 3, none⟩ = some (.int .i64 a3) := cell_of_cells (j := 3) hh7 rfl
        have g4 : w7.cell? ⟨Bh, 4, none⟩ = some (.int .i64 a4) := cell_of_cells (j := 4) hh7 rfl
        have g5 : w7.cell? ⟨Bh, 5, none⟩ = some (.int .i64 a5) := cell_of_cells (j := 5) hh7 rfl
        have g6 : w7.cell? ⟨Bh, 6, none⟩ = some (.int .i64 a6) := cell_of_cells (j := 6) hh7 rfl
        clear hh7
        go_wp2_with fail
        refine (wanted_any b xc gs cs ga ca s (pid : Int) ⟨a0, a1, a2, a3, a4, a5, a6⟩ _ HD7.out.one.book hv).mono ?_
        rintro e w8 ⟨rfl, hb8⟩
        rw [hwe, hwn]
        have HD8 := Go.Proofs.Ytpaakikgfojplab.hid (HD7.out.below P hb8)
        clear HD7 hb8 g0 g1 g2 g3 g4 g5 g6 hwe hwn
        have hh8 := (HD8.out.loc _ (List.mem_cons_self ..)).1
        have g0 : w8.cell? ⟨Bh, 0, none⟩ = some (.int .i64 a0) := cell_of_cells (j := 0) hh8 rfl
        have g1 : w8.cell? ⟨Bh, 1, none⟩ = some (.int .i64 a1) := cell_of_cells (j := 1) hh8 rfl
        have g2 : w8.cell? ⟨Bh, 2, none⟩ = some (.int .i64 a2) := cell_of_cells (j := 2) hh8 rfl
        have g3 : w8.cell? ⟨Bh, 3, none⟩ = some (.int .i64 a3) := cell_of_cells (j := 3) hh8 rfl
        have g4 : w8.cell? ⟨Bh, 4, none⟩ = some (.int .i64 a4) := cell_of_cells (j := 4) hh8 rfl
        have g5 : w8.cell? ⟨Bh, 5, none⟩ = some (.int .i64 a5) := cell_of_cells (j := 5) hh8 rfl
        have g6 : w8.cell? ⟨Bh, 6, none⟩ = some (.int .i64 a6) := cell_of_cells (j := 6) hh8 rfl
        clear hh8
        go_wp2_with fail
        refine (bthere_any b xc gs cs ga ca s (pid : Int) ⟨a0, a1, a2, a3, a4, a5, a6⟩ _ HD8.out.one.book hv).mono ?_
        rintro e w9 ⟨rfl, hb9⟩
        have HD9 := Go.Proofs.Ytpaakikgfojplab.hid (HD8.out.below P hb9)
        clear HD8 hb9 g0 g1 g2 g3 g4 g5 g6
        have HSS : Hid (∀ W i, Duo Rep w W ⟨b, xc, gs, cs, ga, ca, i, s, offer s (pid : Int) ⟨a0, a1, a2, a3, a4, a5, a6⟩⟩ ⟨d, xd, gs2, cs2, ga2, ca2, G, t, t⟩ [(Bh, .cells #[.int .i64 a0, .int .i64 a1, .int .i64 a2, .int .i64 a3, .int .i64 a4, .int .i64 a5, .int .i64 a6] 42), (Bo, .cells #[.int .i64 oA, .int .i64 oB, .int .i64 oC, .int .i64 oD] 36)] → W.cell? ⟨b, 0, none⟩ = some (.pointer (some ⟨xc, 0, none⟩)) ∧ W.cell? ⟨Bh, 0, none⟩ = some (.int .i64 a0) ∧ W.cell? ⟨Bh, 1, none⟩ = some (.int .i64 a1) ∧ W.cell? ⟨Bh, 2, none⟩ = some (.int .i64 a2) ∧ W.cell? ⟨Bh, 3, none⟩ = some (.int .i64 a3) ∧ W.cell? ⟨Bh, 4, none⟩ = some (.int .i64 a4) ∧ W.cell? ⟨Bh, 5, none⟩ = some (.int .i64 a5) ∧ W.cell? ⟨Bh, 6, none⟩ = some (.int .i64 a6)) := by
          intro W i hd
          have hh := (hd.loc _ (List.mem_cons_self ..)).1
          exact ⟨cell_of_cells (j := 0) hd.one.book.blk rfl, cell_of_cells (j := 0) hh rfl, cell_of_cells (j := 1) hh rfl, cell_of_cells (j := 2) hh rfl, cell_of_cells (j := 3) hh rfl, cell_of_cells (j := 4) hh rfl, cell_of_cells (j := 5) hh rfl, cell_of_cells (j := 6) hh rfl⟩
        have hh9 := (HD9.out.loc _ (List.mem_cons_self ..)).1
        have c0 : w9.cell? ⟨b, 0, none⟩ = some (.pointer (some ⟨xc, 0, none⟩)) := cell_of_cells (j := 0) HD9.out.one.book.blk rfl
        have g0 : w9.cell? ⟨Bh, 0, none⟩ = some (.int .i64 a0) := cell_of_cells (j := 0) hh9 rfl
        have g1 : w9.cell? ⟨Bh, 1, none⟩ = some (.int .i64 a1) := cell_of_cells (j := 1) hh9 rfl
        have g2 : w9.cell? ⟨Bh, 2, none⟩ = some (.int .i64 a2) := cell_of_cells (j := 2) hh9 rfl
        have g3 : w9.cell? ⟨Bh, 3, none⟩ = some (.int .i64 a3) := cell_of_cells (j := 3) hh9 rfl
        have g4 : w9.cell? ⟨Bh, 4, none⟩ = some (.int .i64 a4) := cell_of_cells (j := 4) hh9 rfl
        have g5 : w9.cell? ⟨Bh, 5, none⟩ = some (.int .i64 a5) := cell_of_cells (j := 5) hh9 rfl
        have g6 : w9.cell? ⟨Bh, 6, none⟩ = some (.int .i64 a6) := cell_of_cells (j := 6) hh9 rfl
        clear hh9
        have HOF := Go.Proofs.Ytpaakikgfojplab.hid (fun (W' : World) (hW : Below w9.heap.size w9 W') => (P.offer W' xc F6 s (pid : Int) ⟨a0, a1, a2, a3, a4, a5, a6⟩ (P.keep HD9.out.one.rep hW) hv (i64_of (by omega) (by omega)) HHI.out).mono (fun _ _ ⟨h1, h2⟩ => And.intro h1 (Left.from h2 hW)))
        generalize hOI : offerId s (pid : Int) ⟨a0, a1, a2, a3, a4, a5, a6⟩ = OI at *
        generalize hOE : offerErr s (pid : Int) ⟨a0, a1, a2, a3, a4, a5, a6⟩ = OE at *
        generalize hTH : Bk.there s (pid : Int) ⟨a0, a1, a2, a3, a4, a5, a6⟩ = TH at *
        go_upto_region 17 with fail
        go_region_held3 (fun w' => w'.cell? ⟨b, 0, none⟩ = some (.pointer (some ⟨xc, 0, none⟩)) ∧ w'.cell? ⟨Bh, 0, none⟩ = some (.int .i64 a0) ∧ w'.cell? ⟨Bh, 1, none⟩ = some (.int .i64 a1) ∧ w'.cell? ⟨Bh, 2, none⟩ = some (.int .i64 a2) ∧ w'.cell? ⟨Bh, 3, none⟩ = some (.int .i64 a3) ∧ w'.cell? ⟨Bh, 4, none⟩ = some (.int .i64 a4) ∧ w'.cell? ⟨Bh, 5, none⟩ = some (.int .i64 a5) ∧ w'.cell? ⟨Bh, 6, none⟩ = some (.int .i64 a6)) (go_keep) ((go_at_call 21; refine (HOF.out _ (by first | exact Below.refl _ _ | exact (Below.refl _ _).drew | exact (Below.refl _ _).drew.drew)).mono ?_; rintro e w10 ⟨rfl, hL10⟩; obtain ⟨F10, hD10⟩ := HD9.out.left P HIO.out hL10; obtain ⟨s0, s1, s2, s3, s4, s5, s6, s7⟩ := HSS.out _ _ hD10))
        all_goals
          generalize hOS : offer s (pid : Int) ⟨a0, a1, a2, a3, a4, a5, a6⟩ = OS at *
          have HD10 : Hid (Duo Rep w w10 ⟨b, xc, gs, cs, ga, ca, F10, s, OS⟩ ⟨d, xd, gs2, cs2, ga2, ca2, G, t, t⟩ [(Bh, .cells #[.int .i64 a0, .int .i64 a1, .int .i64 a2, .int .i64 a3, .int .i64 a4, .int .i64 a5, .int .i64 a6] 42), (Bo, .cells #[.int .i64 oA, .int .i64 oB, .int .i64 oC, .int .i64 oD] 36)]) := hD10
          clear hD10 hL10 HD9 HOF HSS s0 s1 s2 s3 s4 s5 s6 s7 c0 g0 g1 g2 g3 g4 g5 g6 HHI
          have ho10 := (HD10.out.loc _ (List.mem_cons_of_mem _ (List.mem_cons_self ..))).1
          have o3 : w10.cell? ⟨Bo, 3, none⟩ = some (.int .i64 oD) := cell_of_cells (j := 3) ho10 rfl
          clear ho10
          have hpb4 := pickI_bounds oD 4 (by omega)
          obtain ⟨m, hm⟩ : ∃ m : Nat, pickI oD 4 = (m : Int) := ⟨(pickI oD 4).toNat, by omega⟩
          have hm4 : m < 4 := by have := hpb4.2; rw [hm] at this; omega
          have HM := Go.Proofs.Ytpaakikgfojplab.hid hm
          clear hm hpb4
          have hid1 := hI.d
          go_wp2_with fail
          refine (pick_is oD 4 _ hid1 (by omega) (by omega)).mono ?_
          rintro e w11 ⟨rfl, rfl⟩
          rw [HM.out]
          clear HM o3 hid1
          have hh10 := (HD10.out.loc _ (List.mem_cons_self ..)).1
          have g0 : w10.cell? ⟨Bh, 0, none⟩ = some (.int .i64 a0) := cell_of_cells (j := 0) hh10 rfl
          have g1 : w10.cell? ⟨Bh, 1, none⟩ = some (.int .i64 a1) := cell_of_cells (j := 1) hh10 rfl
          have g2 : w10.cell? ⟨Bh, 2, none⟩ = some (.int .i64 a2) := cell_of_cells (j := 2) hh10 rfl
          have g3 : w10.cell? ⟨Bh, 3, none⟩ = some (.int .i64 a3) := cell_of_cells (j := 3) hh10 rfl
          have g4 : w10.cell? ⟨Bh, 4, none⟩ = some (.int .i64 a4) := cell_of_cells (j := 4) hh10 rfl
          have g5 : w10.cell? ⟨Bh, 5, none⟩ = some (.int .i64 a5) := cell_of_cells (j := 5) hh10 rfl
          have g6 : w10.cell? ⟨Bh, 6, none⟩ = some (.int .i64 a6) := cell_of_cells (j := 6) hh10 rfl
          clear hh10
          go_wp2_with fail
          refine (HPE.out _).mono ?_
          rintro e w11 ⟨rfl, hb11⟩
          have HD11 := Go.Proofs.Ytpaakikgfojplab.hid (HD10.out.below P hb11)
          clear hb11 HD10 g0 g1 g2 g3 g4 g5 g6 HPE
          have HIT := Go.Proofs.Ytpaakikgfojplab.hid (show Inv t from HD11.out.two.inv)
          have HFR := Go.Proofs.Ytpaakikgfojplab.hid (HFN.out m hm4 HIT.out)
          have HBK := Go.Proofs.Ytpaakikgfojplab.hid (fol_back HAL.out hpm hm4)
          have HBC := Go.Proofs.Ytpaakikgfojplab.hid (Q.back w11 xd G t (m : Int) (pid : Int) HD11.out.two.rep HIT.out (i64_of (by omega) (by omega)) (i64_of (by omega) (by omega)))
          rw [HBK.out.1, HBK.out.2] at HBC
          have HI1 := Go.Proofs.Ytpaakikgfojplab.hid (inv_setPt HIT.out (m : Int) (show pid < t.all.length by rw [HAL.out.all]; exact hpp))
          have d0 : w11.cell? ⟨d, 0, none⟩ = some (.pointer (some ⟨xd, 0, none⟩)) := cell_of_cells (j := 0) HD11.out.two.book.blk rfl
          clear HBK HFN
          have HT1A : Hid ((Bk.setPt t (m : Int) pid).par = t.par ∧ (Bk.setPt t (m : Int) pid).all = t.all) := ⟨rfl, rfl⟩
          generalize Bk.setPt t (m : Int) pid = t1 at *
          go_wp2_with fail
          refine HBC.out.mono ?_
          rintro e w12 ⟨rfl, hL12⟩
          obtain ⟨G12, hD12⟩ := HD11.out.swap.left P HI1.out hL12
          have HD12 : Hid (Duo Rep w w12 ⟨b, xc, gs, cs, ga, ca, F10, s, OS⟩ ⟨d, xd, gs2, cs2, ga2, ca2, G12, t, t1⟩ [(Bh, .cells #[.int .i64 a0, .int .i64 a1, .int .i64 a2, .int .i64 a3, .int .i64 a4, .int .i64 a5, .int .i64 a6] 42), (Bo, .cells #[.int .i64 oA, .int .i64 oB, .int .i64 oC, .int .i64 oD] 36)]) := hD12.swap
          clear hD12 hL12 HBC HD11 d0
          have d0 : w12.cell? ⟨d, 0, none⟩ = some (.pointer (some ⟨xd, 0, none⟩)) := cell_of_cells (j := 0) HD12.out.two.book.blk rfl
          have HNX : Hid (Calls Try.prog 33 #[.pointer (some ⟨xd, 0, none⟩), .int .i64 (m : Int), .string (txt (enc ⟨a0, a1, a2, a3, a4, a5, a6⟩))] w12 fun e w' => e = .returned (.tuple #[.int .i64 (nextI t1 (m : Int) (enc ⟨a0, a1, a2, a3, a4, a5, a6⟩)), .int .i64 (nextE t1 (m : Int) (enc ⟨a0, a1, a2, a3, a4, a5, a6⟩))]) ∧ Left Rep w12 w' xd G12 (nextS t1 (m : Int) (enc ⟨a0, a1, a2, a3, a4, a5, a6⟩))) := Q.next w12 xd G12 t1 (m : Int) (enc ⟨a0, a1, a2, a3, a4, a5, a6⟩) HD12.out.two.rep HI1.out (i64_of (by omega) (by omega)) HEL.out
          have HI2 := Go.Proofs.Ytpaakikgfojplab.hid (inv_next HI1.out (m : Int) (enc ⟨a0, a1, a2, a3, a4, a5, a6⟩))
          have HPP : Hid (pointE (m : Int) = 0) := by
            unfold Hid pointE
            rw [show peerOk (m : Int) = true by simp [peerOk]; omega]
            rfl
          generalize nextI t1 (m : Int) (enc ⟨a0, a1, a2, a3, a4, a5, a6⟩) = NI at *
          generalize nextE t1 (m : Int) (enc ⟨a0, a1, a2, a3, a4, a5, a6⟩) = NE at *
          generalize nextS t1 (m : Int) (enc ⟨a0, a1, a2, a3, a4, a5, a6⟩) = t2 at *
          go_wp2_with fail
          refine HNX.out.mono ?_
          rintro e w13 ⟨rfl, hL13⟩
          obtain ⟨G13, hD13⟩ := HD12.out.swap.left P HI2.out hL13
          have HD13 : Hid (Duo Rep w w13 ⟨b, xc, gs, cs, ga, ca, F10, s, OS⟩ ⟨d, xd, gs2, cs2, ga2, ca2, G13, t, t2⟩ [(Bh, .cells #[.int .i64 a0, .int .i64 a1, .int .i64 a2, .int .i64 a3, .int .i64 a4, .int .i64 a5, .int .i64 a6] 42), (Bo, .cells #[.int .i64 oA, .int .i64 oB, .int .i64 oC, .int .i64 oD] 36)]) := hD13.swap
          clear hD13 hL13 HNX HD12 d0 HEL
          have d0 : w13.cell? ⟨d, 0, none⟩ = some (.pointer (some ⟨xd, 0, none⟩)) := cell_of_cells (j := 0) HD13.out.two.book.blk rfl
          have HPT := Go.Proofs.Ytpaakikgfojplab.hid (Q.point w13 xd G13 t2 (m : Int) HD13.out.two.rep HI2.out (i64_of (by omega) (by omega)))
          rw [HPP.out] at HPT
          generalize pointV t2 (m : Int) = PV at *
          go_wp2_with fail
          refine HPT.out.mono ?_
          rintro e w14 ⟨rfl, hb14⟩
          have HD14 := Go.Proofs.Ytpaakikgfojplab.hid (HD13.out.below P hb14)
          clear hb14 HPT HD13 d0 HPP
          generalize txt (enc ⟨a0, a1, a2, a3, a4, a5, a6⟩) = TX at *
          rcases HFR.out.cases with ⟨e0, e1, e2, e3, e5, e6, e4⟩ | ⟨e0, e1, e2, e3, e4⟩ | ⟨e0, e1, e2, e3, e4⟩
          · rw [hOE] at e0
            rw [hOI] at e2 e3
            rw [hOS] at e4
            have hos : OS = taken s pid ⟨a0, a1, a2, a3, a4, a5, a6⟩ := by rw [← hOS]; unfold offer; rw [if_pos (by rw [hOE, e0]), Int.toNat_natCast]
            have HOS2 : Hid (OS.par = s.par ∧ OS.all = s.all ++ [⟨⟨a0, a1, a2, a3, a4, a5, a6⟩, pid⟩]) := by rw [hos]; exact ⟨rfl, rfl⟩
            have HTS2 : Hid (t2.par = t.par ∧ t2.all = t.all ++ [⟨⟨a0, a1, a2, a3, a4, a5, a6⟩, pid⟩]) := ⟨by rw [e5, HAL.out.par], by rw [e6, HT1A.out.2]⟩
            have HE4 := Go.Proofs.Ytpaakikgfojplab.hid e4
            have htsm : t.all.length ≤ 500000 := by rw [HAL.out.all]; exact hsm
            subst e0; subst e1; subst e2; subst e3
            clear e4 e5 e6 HFR hOE hOI hTH hOS HIT HI1 HI2 HIO HT1A HAL hos
            have hh14 := (HD14.out.loc _ (List.mem_cons_self ..)).1
            have g0 : w14.cell? ⟨Bh, 0, none⟩ = some (.int .i64 a0) := cell_of_cells (j := 0) hh14 rfl
            have g1 : w14.cell? ⟨Bh, 1, none⟩ = some (.int .i64 a1) := cell_of_cells (j := 1) hh14 rfl
            have g2 : w14.cell? ⟨Bh, 2, none⟩ = some (.int .i64 a2) := cell_of_cells (j := 2) hh14 rfl
            have g3 : w14.cell? ⟨Bh, 3, none⟩ = some (.int .i64 a3) := cell_of_cells (j := 3) hh14 rfl
            have g4 : w14.cell? ⟨Bh, 4, none⟩ = some (.int .i64 a4) := cell_of_cells (j := 4) hh14 rfl
            have g5 : w14.cell? ⟨Bh, 5, none⟩ = some (.int .i64 a5) := cell_of_cells (j := 5) hh14 rfl
            have g6 : w14.cell? ⟨Bh, 6, none⟩ = some (.int .i64 a6) := cell_of_cells (j := 6) hh14 rfl
            clear hh14
            go_wp2_with fail
            refine (came_any b xc gs cs ga ca s pid ⟨a0, a1, a2, a3, a4, a5, a6⟩ _ HD14.out.one.book hsm).mono ?_
            rintro e w15 ⟨rfl, hc15⟩
            obtain ⟨ga15, ca15, hD15⟩ := HD14.out.came P hc15
            have HD15 : Hid (Duo Rep w w15 ⟨b, xc, gs, cs, ga15, ca15, F10, { s with all := s.all ++ [⟨⟨a0, a1, a2, a3, a4, a5, a6⟩, pid⟩] }, OS⟩ ⟨d, xd, gs2, cs2, ga2, ca2, G13, t, t2⟩ [(Bh, .cells #[.int .i64 a0, .int .i64 a1, .int .i64 a2, .int .i64 a3, .int .i64 a4, .int .i64 a5, .int .i64 a6] 42), (Bo, .cells #[.int .i64 oA, .int .i64 oB, .int .i64 oC, .int .i64 oD] 36)]) := hD15
            clear hc15 hD15 HD14 g0 g1 g2 g3 g4 g5 g6
            have hh15 := (HD15.out.loc _ (List.mem_cons_self ..)).1
            have g0 : w15.cell? ⟨Bh, 0, none⟩ = some (.int .i64 a0) := cell_of_cells (j := 0) hh15 rfl
            have g1 : w15.cell? ⟨Bh, 1, none⟩ = some (.int .i64 a1) := cell_of_cells (j := 1) hh15 rfl
            have g2 : w15.cell? ⟨Bh, 2, none⟩ = some (.int .i64 a2) := cell_of_cells (j := 2) hh15 rfl
            have g3 : w15.cell? ⟨Bh, 3, none⟩ = some (.int .i64 a3) := cell_of_cells (j := 3) hh15 rfl
            have g4 : w15.cell? ⟨Bh, 4, none⟩ = some (.int .i64 a4) := cell_of_cells (j := 4) hh15 rfl
            have g5 : w15.cell? ⟨Bh, 5, none⟩ = some (.int .i64 a5) := cell_of_cells (j := 5) hh15 rfl
            have g6 : w15.cell? ⟨Bh, 6, none⟩ = some (.int .i64 a6) := cell_of_cells (j := 6) hh15 rfl
            clear hh15
            go_wp2_with fail
            refine (came_any d xd gs2 cs2 ga2 ca2 t pid ⟨a0, a1, a2, a3, a4, a5, a6⟩ _ HD15.out.two.book htsm).mono ?_
            rintro e w16 ⟨rfl, hc16⟩
            obtain ⟨ga16, ca16, hD16⟩ := HD15.out.swap.came P hc16
            have HD16 : Hid (Duo Rep w w16 ⟨b, xc, gs, cs, ga15, ca15, F10, { s with all := s.all ++ [⟨⟨a0, a1, a2, a3, a4, a5, a6⟩, pid⟩] }, OS⟩ ⟨d, xd, gs2, cs2, ga16, ca16, G13, { t with all := t.all ++ [⟨⟨a0, a1, a2, a3, a4, a5, a6⟩, pid⟩] }, t2⟩ [(Bh, .cells #[.int .i64 a0, .int .i64 a1, .int .i64 a2, .int .i64 a3, .int .i64 a4, .int .i64 a5, .int .i64 a6] 42), (Bo, .cells #[.int .i64 oA, .int .i64 oB, .int .i64 oC, .int .i64 oD] 36)]) := hD16.swap
            clear hc16 hD16 HD15 g0 g1 g2 g3 g4 g5 g6
            have HFI : Hid (FolI Rep w w16 b xc gs cs d xd gs2 cs2) := by
              have h2 := ((HD16.out.close HOS2.out.1 HOS2.out.2).swap.close HTS2.out.1 HTS2.out.2).swap.drop
              exact ⟨ga15, ca15, ga16, ca16, F10, G13, OS, t2, h2, HE4.out⟩
            clear HD16 HOS2 HTS2 HE4
            go_wp2
            go_roundw
            case rel => exact ⟨k + 1, by omega, by go_num, HFI⟩
            case measure => simp [intOf]; omega
          · rw [hOE] at e0
            rw [hTH] at e2 e3
            have hno : OS = s := by rw [← hOS]; unfold offer; rw [if_neg (by rw [hOE, e0]; decide)]
            have HFI : Hid (FolI Rep w w14 b xc gs cs d xd gs2 cs2) := by
              have h1 := HD14.out
              rw [hno] at h1
              have h2 := (h1.swap.close (show t2.par = t.par by rw [e4.par, HAL.out.par]) (show t2.all = t.all by rw [e4.all, HAL.out.all])).swap.drop
              exact ⟨ga, ca, ga2, ca2, F10, G13, s, t2, h2, e4⟩
            have HEN := Go.Proofs.Ytpaakikgfojplab.hid (And.intro e0 (And.intro e1 (And.intro e2 e3)))
            subst e0; subst e1; subst e2; subst e3
            clear HD14 hno e4 HFR hOE hOI hTH hOS HIT HI1 HI2 HIO HT1A HAL HEN
            go_wp2
            go_roundw
            case rel => exact ⟨k + 1, by omega, by go_num, HFI⟩
            case measure => simp [intOf]; omega
          · rw [hOE] at e0
            have hno : OS = s := by rw [← hOS]; unfold offer; rw [if_neg (by rw [hOE, e0]; decide)]
            have HFI : Hid (FolI Rep w w14 b xc gs cs d xd gs2 cs2) := by
              have h1 := HD14.out
              rw [hno] at h1
              have h2 := (h1.swap.close (show t2.par = t.par by rw [e4.par, HAL.out.par]) (show t2.all = t.all by rw [e4.all, HAL.out.all])).swap.drop
              exact ⟨ga, ca, ga2, ca2, F10, G13, s, t2, h2, e4⟩
            have HEN := Go.Proofs.Ytpaakikgfojplab.hid (And.intro e0 (And.intro e1 (And.intro e2 e3)))
            subst e0; subst e1; subst e2; subst e3
            clear HD14 hno e4 HFR hOE hOI hTH hOS HIT HI1 HI2 HIO HT1A HAL HEN
            go_wp2
            go_roundw
            case rel => exact ⟨k + 1, by omega, by go_num, HFI⟩
            case measure => simp [intOf]; omega
    · have hkn : k = n := by omega
      have hkl : ¬ (k : Int) < (n : Int) := by omega
      have hD1 : Hid (Duo Rep w wr ⟨b, xc, gs, cs, ga, ca, F, s, s⟩ ⟨d, xd, gs2, cs2, ga2, ca2, G, t, t⟩ []) := hD0
      clear hD0 HI HAL
      go_wp2_with fail
      refine (tells_any P b xc gs cs ga ca s F _ (hD1.out.both rfl)).mono ?_
      rintro e w3 ⟨rfl, hb3⟩
      have hD2 := Go.Proofs.Ytpaakikgfojplab.hid (hD1.out.below P hb3)
      clear hb3 hD1
      go_wp2_with fail
      refine (tells_any P d xd gs2 cs2 ga2 ca2 t G _ (hD2.out.swap.both rfl)).mono ?_
      rintro e w4 ⟨rfl, hb4⟩
      have hD3 := Go.Proofs.Ytpaakikgfojplab.hid (hD2.out.below P hb4)
      clear hb4 hD2
      have d0 : w4.cell? ⟨d, 0, none⟩ = some (.pointer (some ⟨xd, 0, none⟩)) := cell_of_cells (j := 0) hD3.out.two.book.blk rfl
      have HNX : Hid (Calls Try.prog 33 #[.pointer (some ⟨xd, 0, none⟩), .int .i64 4, .string ⟨#[]⟩] w4 fun e w' => e = .returned (.tuple #[.int .i64 0, .int .i64 12]) ∧ Left Rep w4 w' xd G t) := Q.next w4 xd G t 4 [] hD3.out.two.rep hD3.out.two.inv ⟨by omega, by omega⟩ (Nat.zero_le _)
      go_wp2_with fail
      refine HNX.out.mono ?_
      rintro e w5 ⟨rfl, hL5⟩
      obtain ⟨G5, hD5⟩ := hD3.out.swap.left P hD3.out.two.inv hL5
      have HD5 : Hid (Duo Rep w w5 ⟨b, xc, gs, cs, ga, ca, F, s, s⟩ ⟨d, xd, gs2, cs2, ga2, ca2, G5, t, t⟩ []) := hD5.swap
      clear hD5 hL5 HNX hD3 d0
      have d0 : w5.cell? ⟨d, 0, none⟩ = some (.pointer (some ⟨xd, 0, none⟩)) := cell_of_cells (j := 0) HD5.out.two.book.blk rfl
      have HBC : Hid (Calls Try.prog 32 #[.pointer (some ⟨xd, 0, none⟩), .int .i64 (-1), .int .i64 0] w5 fun e w' => e = .returned (.int .i64 12) ∧ Left Rep w5 w' xd G5 t) := Q.back w5 xd G5 t (-1) 0 HD5.out.two.rep HD5.out.two.inv ⟨by omega, by omega⟩ ⟨by omega, by omega⟩
      go_wp2_with fail
      refine HBC.out.mono ?_
      rintro e w6 ⟨rfl, hL6⟩
      obtain ⟨G6, hD6⟩ := HD5.out.swap.left P HD5.out.two.inv hL6
      have HD6 : Hid (Duo Rep w w6 ⟨b, xc, gs, cs, ga, ca, F, s, s⟩ ⟨d, xd, gs2, cs2, ga2, ca2, G6, t, t⟩ []) := hD6.swap
      clear hD6 hL6 HBC HD5 d0
      have d0 : w6.cell? ⟨d, 0, none⟩ = some (.pointer (some ⟨xd, 0, none⟩)) := cell_of_cells (j := 0) HD6.out.two.book.blk rfl
      have HPT : Hid (Calls Try.prog 34 #[.pointer (some ⟨xd, 0, none⟩), .int .i64 4] w6 fun e w' => e = .returned (.tuple #[.int .i64 0, .int .i64 12]) ∧ Below w6.heap.size w6 w') := Q.point w6 xd G6 t 4 HD6.out.two.rep HD6.out.two.inv ⟨by omega, by omega⟩
      go_wp2_with fail
      refine HPT.out.mono ?_
      rintro e w7 ⟨rfl, hb7⟩
      have HFB := Go.Proofs.Ytpaakikgfojplab.hid (HD6.out.below P hb7).bel
      clear hb7 HPT HD6 d0
      go_wp2
      go_ret
      exact ⟨rfl, HFB.out⟩

end Go.Proofs.Ytpaakikgfojplab

