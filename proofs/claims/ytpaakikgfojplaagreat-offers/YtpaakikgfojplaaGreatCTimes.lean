import Derived.Test.YtpaakikgfojplaaGreatCM1
/-
  THE WALKS of the document's own numbers (package beaconref): times, often, above, below, Leads, by contracts.
-/
namespace Go.Proofs.YtpaakikgfojplaaGreat
open Go.RowKit Num

theorem one_int (n : Int) : ∀ u ∈ [Value.int .i64 n], u.oneCell' = true := by
  intro u hu; simp at hu; subst hu; rfl

theorem own_weak {w : World} {b0 b1 n : Nat} {v : Value} {xs : List Value} (h : w.ownsRow b1 3 1 v n xs) (hb : b0 ≤ b1) : w.ownsRow b0 3 1 v n xs := by
  refine ⟨h.1, ?_⟩
  rcases h.2 with hn | ⟨g, cap, cur, hv, hb', r⟩
  · exact Or.inl hn
  · exact Or.inr ⟨g, cap, cur, hv, by omega, r⟩

set_option maxHeartbeats 3200000 in
set_option maxRecDepth 1000000 in
theorem times_any (b0 g cap f : Nat) (ds : List Nat) (w : World) (hown : w.ownsRow b0 3 1 (.slice (some ⟨g, 0, none⟩) ds.length cap) ds.length (dcells ds)) (hg : DGood 1024 ds) (hf1 : 1 ≤ f) (hf : f ≤ 1024) (hlen : ds.length ≤ 1000) :
    Calls Tryz.prog 106 #[.slice (some ⟨g, 0, none⟩) ds.length cap, .int .i64 (f : Int)] w fun e w' => ∃ g' cap' ds', e = .returned (.slice (some ⟨g', 0, none⟩) ds'.length cap') ∧
      w'.ownsRow w.heap.size 3 1 (.slice (some ⟨g', 0, none⟩) ds'.length cap') ds'.length (dcells ds') ∧ DGood 1024 ds' ∧ dval 1024 ds' = f * dval 1024 ds ∧ ds'.length ≤ ds.length + 1 ∧ Below w.heap.size w w' := by
  obtain ⟨i0, hi, hz0, hz1, hz2⟩ := info_parts Tryz.info3
  go_enter Tryz.func106, Tryz.ntmps106
  go_wp2
  go_loopw [5, 6, 7] (fun o c i wr => ∃ (k c0 : Nat) (outs : List Nat), k ≤ ds.length ∧ i = .int .i64 k ∧ c = .int .i64 c0 ∧ DPart 1024 f ds k outs c0 ∧
      wr.ownsRow w.heap.size 3 1 o outs.length (dcells outs) ∧ Below w.heap.size w wr)
    (fun _ _ i _ => ds.length - (intOf i).toNat)
  case atStart => exact ⟨0, 0, [], Nat.zero_le _, rfl, rfl, DPart.start _ _ _, World.ownsRow_nil _ _ _ _, Below.refl _ _⟩
  case round =>
    obtain ⟨k, c0, outs, hk, rfl, rfl, hpart, hout, hbel⟩ := hrel
    have hc0 := hpart.carry
    have hol := hpart.len
    have hsz := hbel.size
    by_cases hlt : k < ds.length
    · have hci := ((own_keep hown hbel (Nat.le_refl _)).cellAt k (by omega)).trans (dcells_at ds k hlt)
      have hd := dig_lt hg.small hlt
      have P := hpart.step hf hg.small hlt
      generalize ds.getD k 0 = d at hci hd P
      have hm : (d : Int) * (f : Int) ≤ 1023 * 1024 := by
        have : d * f ≤ 1023 * 1024 := Nat.mul_le_mul (by omega) hf
        rw [← Int.natCast_mul]; omega
      have hm0 : 0 ≤ (d : Int) * (f : Int) := by rw [← Int.natCast_mul]; omega
      have HP := hid P
      have HO := hid hown
      have HG := hid hg
      clear P hpart hown hg
      go_wp2_with (at_builtin; refine wpList_append_lies _ rfl (.tmp 23) (.tmp 26) 22 rfl w.heap.size 3 i0 (.int .i64 0) 1 8 Tryz.underlying22 hi hz0 hz1 hz2 rfl (by omega) _ outs.length (dcells outs) rfl (hout.alloc _) ⟨wr.heap.size, 0, none⟩ 1 1 [.int .i64 (((d : Int) * (f : Int) + (c0 : Int)) % 1024)] rfl rfl (cell_one_new _ _ _) (one_int _) (by omega) (by unfold maxLen; omega) (by omega) (by simp; omega) (wr.heap.size + 1) (by simp) ?_)
      intro g2 cap2 w1 hown2 hgrow hat hlt2
      have hrow := fun k (e : Value.ownBlock u5 = some k) => (hout.lt k e).1
      have HB := hid ((hbel.alloc (by omega) _).grown hgrow (by simp; omega) hrow)
      have HOW := hid hown2
      clear hown2 hgrow hat hbel hout hrow
      go_wp2
      go_roundw
      case rel =>
        have e1 : ((d : Int) * (f : Int) + (c0 : Int)) % 1024 = (((d * f + c0) % 1024 : Nat) : Int) := by omega
        have e2 : ((d : Int) * (f : Int) + (c0 : Int)) / 1024 = (((d * f + c0) / 1024 : Nat) : Int) := by omega
        have HOW' := HOW.out
        rw [e1] at HOW'
        rw [e2]
        refine ⟨k + 1, _, outs ++ [(d * f + c0) % 1024], by omega, by go_num, rfl, HP.out, ?_, HB.out⟩
        rw [List.length_append, dcells_append, hol]
        exact HOW'
      case measure => simp [intOf]; omega
    · have hkn : k = ds.length := by omega
      subst hkn
      have HO := hid hown
      have HP := hid hpart
      have HG := hid hg
      clear hown hpart hg
      go_wp2
      go_loopw [5, 6] (fun o c wq => ∃ (c0 : Nat) (outs : List Nat), c = .int .i64 c0 ∧ c0 < 1024 ∧ wq.ownsRow w.heap.size 3 1 o outs.length (dcells outs) ∧ Below w.heap.size w wq ∧ outs.length ≤ ds.length + 1 ∧
          ((0 < c0 ∧ DPart 1024 f ds ds.length outs c0) ∨ (c0 = 0 ∧ DGood 1024 outs ∧ dval 1024 outs = f * dval 1024 ds)))
        (fun _ c _ => (intOf c).toNat)
      case atStart =>
        refine ⟨c0, outs, rfl, hc0, hout, hbel, by omega, ?_⟩
        rcases Nat.eq_zero_or_pos c0 with h0 | h0
        · subst h0
          exact Or.inr ⟨rfl, HP.out.done hf1 HG.out⟩
        · exact Or.inl ⟨h0, HP.out⟩
      case round =>
        clear hout hbel hsz HP hol hc0
        obtain ⟨c1, os, rfl, hc1, hout, hbel, hol, hcase⟩ := hrel
        have hsz := hbel.size
        rcases hcase with ⟨hpos, hpart⟩ | ⟨rfl, hgood, hval⟩
        · have hol' := hpart.len
          have HM := hid (hpart.more (Nat.le_refl _) hpos)
          clear hpart
          have em : (c1 : Int) % 1024 = (c1 : Int) := by omega
          have ed : (c1 : Int) / 1024 = 0 := by omega
          go_wp2_with (at_builtin; refine wpList_append_lies _ rfl (.tmp 32) (.tmp 35) 22 rfl w.heap.size 3 i0 (.int .i64 0) 1 8 Tryz.underlying22 hi hz0 hz1 hz2 rfl (by omega) _ os.length (dcells os) rfl (hout.alloc _) ⟨wr.heap.size, 0, none⟩ 1 1 [.int .i64 (c1 : Int)] rfl rfl (cell_one_new _ _ _) (one_int _) (by omega) (by unfold maxLen; omega) (by omega) (by simp; omega) (wr.heap.size + 1) (by simp) ?_)
          intro g2 cap2 w1 hown2 hgrow hat hlt2
          have hrow := fun k (e : Value.ownBlock u5 = some k) => (hout.lt k e).1
          have HB := hid ((hbel.alloc (by omega) _).grown hgrow (by simp; omega) hrow)
          have HOW := hid hown2
          clear hown2 hgrow hat hbel hout hrow
          go_wp2
          go_roundw
          case rel =>
            refine ⟨0, os ++ [c1], rfl, by omega, ?_, HB.out, by simp; omega, Or.inr ⟨rfl, HM.out⟩⟩
            rw [List.length_append, dcells_append, hol']
            exact HOW.out
          case measure => simp [intOf]; omega
        · obtain ⟨gq, cq, rfl, hgq, hgl⟩ := hout.form hgood.some
          obtain ⟨m, hm⟩ : ∃ m, os.length = m + 1 := ⟨os.length - 1, by have := hgood.some; omega⟩
          have hlast := hgood.last
          have hci := (hout.cellAt m (by omega)).trans (dcells_at os m (by omega))
          have em : os.length - 1 = m := by omega
          rw [em] at hlast
          have hmb : m ≤ 1000 := by omega
          have HOUT := hid hout
          have HGD := hid hgood
          have HVL := hid hval
          have HLN := hid hol
          have HBL := hid hbel
          clear hout hgood hval hol hbel em
          generalize os.getD m 0 = d at *
          have hd0 : ((d : Int) == 0) = false := by rw [beq_eq_false_iff_ne]; omega
          rw [hm]
          go_wp2
          refine wp_loop_rounds 1 ?_
          rw [rounds_succ]
          go_wp2
          go_ret
          exact ⟨gq, cq, os, by rw [hm]; rfl, HOUT.out, HGD.out, HVL.out, HLN.out, HBL.out⟩

set_option maxHeartbeats 1600000 in
set_option maxRecDepth 1000000 in
theorem often_any (b0 g cap f n : Nat) (ds : List Nat) (w : World) (hown : w.ownsRow b0 3 1 (.slice (some ⟨g, 0, none⟩) ds.length cap) ds.length (dcells ds)) (hb0 : b0 ≤ w.heap.size) (hg : DGood 1024 ds) (hf1 : 1 ≤ f) (hf : f ≤ 1024) (hlen : ds.length + n ≤ 1000) :
    Calls Tryz.prog 94 #[.slice (some ⟨g, 0, none⟩) ds.length cap, .int .i64 (f : Int), .int .i64 (n : Int)] w fun e w' => ∃ g' cap' ds', e = .returned (.slice (some ⟨g', 0, none⟩) ds'.length cap') ∧
      w'.ownsRow b0 3 1 (.slice (some ⟨g', 0, none⟩) ds'.length cap') ds'.length (dcells ds') ∧ DGood 1024 ds' ∧ dval 1024 ds' = f ^ n * dval 1024 ds ∧ ds'.length ≤ ds.length + n ∧ Below w.heap.size w w' := by
  go_enter Tryz.func94, Tryz.ntmps94
  go_wp2
  go_loopw [0, 7] (fun v i wr => ∃ (k g' cap' : Nat) (ds' : List Nat), k ≤ n ∧ i = .int .i64 k ∧ v = .slice (some ⟨g', 0, none⟩) ds'.length cap' ∧ wr.ownsRow b0 3 1 (.slice (some ⟨g', 0, none⟩) ds'.length cap') ds'.length (dcells ds') ∧ DGood 1024 ds' ∧ dval 1024 ds' = f ^ k * dval 1024 ds ∧ ds'.length ≤ ds.length + k ∧ Below w.heap.size w wr)
    (fun _ i _ => n - (intOf i).toNat)
  case atStart => exact ⟨0, g, cap, ds, Nat.zero_le _, rfl, rfl, hown, hg, by simp, by omega, Below.refl _ _⟩
  case round =>
    clear hown hg
    obtain ⟨k, g', cap', ds', hk, rfl, rfl, hN, hG, hV, hL, hB⟩ := hrel
    have HV := hid hV
    clear hV
    by_cases hlt : k < n
    · go_wp2_with (go_at_call 106; refine (times_any b0 g' cap' f ds' _ hN hG hf1 hf (by omega)).mono ?_; rintro e w1 ⟨g2, cap2, ds2, rfl, hN2, hG2, hV2, hL2, hB2⟩; have HV2 := hid hV2; clear hV2)
      go_roundw
      case rel =>
        have hs := hB.size
        exact ⟨k + 1, g2, cap2, ds2, by omega, by go_num, rfl, own_weak hN2 (by omega), hG2, by rw [HV2.out, HV.out, Nat.pow_succ, Nat.mul_comm (f ^ k) f, Nat.mul_assoc], by omega, hB.trans (hB2.mono hs)⟩
      case measure => simp [intOf]; omega
    · go_wp2
      go_ret
      have hkn : k = n := by omega
      subst hkn
      exact ⟨g', cap', ds', rfl, hN, hG, HV.out, hL, hB⟩

theorem more_by {B : Nat} {xs ys : List Nat} (hB : 1 ≤ B) (hx : DGood B xs) (hy : DGood B ys) (h : xs.length ≠ ys.length) : decide (ys.length < xs.length) = decide (dval B ys < dval B xs) := less_by hB hy hx (Ne.symm h)

set_option maxHeartbeats 1600000 in
set_option maxRecDepth 1000000 in
theorem above_any (b0 b1 g cap r cap' : Nat) (xs ys : List Nat) (w : World) (ox : w.ownsRow b0 3 1 (.slice (some ⟨g, 0, none⟩) xs.length cap) xs.length (dcells xs)) (oy : w.ownsRow b1 3 1 (.slice (some ⟨r, 0, none⟩) ys.length cap') ys.length (dcells ys)) (gx : DGood 1024 xs) (gy : DGood 1024 ys)
    (hlx : xs.length ≤ 2000) :
    Calls Tryz.prog 95 #[.slice (some ⟨g, 0, none⟩) xs.length cap, .slice (some ⟨r, 0, none⟩) ys.length cap'] w fun e w' => e = .returned (.bool (decide (dval 1024 ys < dval 1024 xs))) ∧ Below w.heap.size w w' := by
  by_cases hne : xs.length = ys.length
  · have hb : (((xs.length : Nat) : Int) != ((ys.length : Nat) : Int)) = false := by simp [hne]
    go_enter Tryz.func95, Tryz.ntmps95
    go_wp2
    go_loopw [5] (fun i wr => ∃ (k nq : Nat), k ≤ xs.length ∧ i = .int .i64 ((k : Int) - 1) ∧ xs.drop k = ys.drop k ∧ wr = w.drewN nq)
      (fun i _ => (intOf i + 1).toNat)
    case atStart => exact ⟨xs.length, 0, Nat.le_refl _, by go_num, by rw [List.drop_of_length_le (by omega), List.drop_of_length_le (by omega)], rfl⟩
    case round =>
      obtain ⟨k, nq, hk, rfl, hd, rfl⟩ := hrel
      rcases Nat.eq_zero_or_pos k with h0 | h0
      · subst h0
        have he : xs = ys := eq_of_drop hd
        have HE := hid he
        clear he hd
        go_wp2
        go_ret
        exact ⟨by rw [HE.out]; simp, by repeat (first | exact Below.refl _ _ | refine drawB ?_ _)⟩
      · obtain ⟨i, rfl⟩ : ∃ i, k = i + 1 := ⟨k - 1, by omega⟩
        rw [show (((i + 1 : Nat) : Int) - 1) = (i : Int) from by omega]
        have c1 := (ox.cellAt i (by omega)).trans (dcells_at xs i (by omega))
        have c2 := (oy.cellAt i (by omega)).trans (dcells_at ys i (by omega))
        have i1 : (0 : Int) ≤ (i : Int) := by omega
        have i2 : (i : Int) < ((xs.length : Nat) : Int) := by omega
        have i3 : (i : Int) < ((ys.length : Nat) : Int) := by omega
        by_cases hq : xs.getD i 0 = ys.getD i 0
        · have HD := hid (drop_step i (by omega) (by omega) hd hq)
          rw [← hq] at c2
          generalize xs.getD i 0 = d at *
          clear hd hq
          go_wp2
          go_quiet (fail)
          go_wp2
          go_roundw
          case rel => exact ⟨i, _, by omega, by go_num, HD.out, rfl⟩
          case measure => simp [intOf]
        · have hbb : (((xs.getD i 0 : Nat) : Int) != ((ys.getD i 0 : Nat) : Int)) = true := by rw [bne_iff_ne]; omega
          have HL := hid (less_at gy gx i (by omega) (by omega) hd.symm (Ne.symm hq))
          generalize xs.getD i 0 = d at *
          generalize ys.getD i 0 = d' at *
          clear hd hq
          go_wp2
          go_quiet (fail)
          go_wp2
          go_quiet (fail)
          go_wp2
          go_ret
          exact ⟨by rw [← HL.out]; simp, by repeat (first | exact Below.refl _ _ | refine drawB ?_ _)⟩
  · have hb : (((xs.length : Nat) : Int) != ((ys.length : Nat) : Int)) = true := by rw [bne_iff_ne]; omega
    have HR := hid (more_by (by omega) gx gy hne)
    clear ox oy gx gy
    go_enter Tryz.func95, Tryz.ntmps95
    go_wp2
    go_ret
    exact ⟨by rw [← HR.out]; simp, by repeat (first | exact Below.refl _ _ | refine drawB ?_ _)⟩
end Go.Proofs.YtpaakikgfojplaaGreat

