import Derived.Test.YtpaakikgfojplaaGreatCKeepW
import Derived.Test.YtpaakikgfojplaaGreatCM39
/-
  THE WALK of the statements' told; a step up to the ninth kind.
-/
namespace Go.Proofs.YtpaakikgfojplaaGreat
open Go.RowKit Num Bk
set_option linter.unusedVariables false

set_option maxHeartbeats 1600000 in
set_option maxRecDepth 1000000 in
theorem lsame_is (b1 g1 c1 b2 g2 c2 : Nat) (ds : List Nat) (w : World) (h1 : w.ownsRow b1 3 1 (.slice (some ⟨g1, 0, none⟩) ds.length c1) ds.length (dcells ds)) (h2 : w.ownsRow b2 3 1 (.slice (some ⟨g2, 0, none⟩) ds.length c2) ds.length (dcells ds)) (hl : ds.length ≤ 1000000) :
    Calls Tryz.prog 36 #[.slice (some ⟨g1, 0, none⟩) ds.length c1, .slice (some ⟨g2, 0, none⟩) ds.length c2] w fun e w' => e = .returned (.bool true) ∧ Below w.heap.size w w' := by
  go_enter Tryz.func36, Tryz.ntmps36
  go_wp2
  go_loopw [5] (fun i wr => ∃ k : Nat, k ≤ ds.length ∧ i = .int .i64 k ∧ Below w.heap.size w wr) (fun i _ => ds.length - (intOf i).toNat)
  case atStart => exact ⟨0, Nat.zero_le _, rfl, Below.refl _ _⟩
  case round =>
    obtain ⟨k, hk, rfl, hbel⟩ := hrel
    by_cases hlt : k < ds.length
    · have c1 := ((row_keep h1 hbel (Nat.le_refl _)).cellAt k (by omega)).trans (dcells_at ds k hlt)
      have c2 := ((row_keep h2 hbel (Nat.le_refl _)).cellAt k (by omega)).trans (dcells_at ds k hlt)
      have i1 : (0 : Int) ≤ (k : Int) := by omega
      have i2 : (k : Int) < ((ds.length : Nat) : Int) := by omega
      generalize ds.getD k 0 = d at *
      clear h1 h2
      go_wp2
      go_quiet (fail)
      go_wp2
      go_roundw
      case rel => exact ⟨k + 1, by omega, by go_num, drawB hbel _⟩
      case measure => simp [intOf]; omega
    · go_wp2
      go_ret
      exact ⟨rfl, hbel⟩


theorem run_eql_blk (w : World) (a0 a1 a2 a3 a4 a5 a6 a7 a8 : Int) :
    (binOp .eql 82 (.agg #[.int .i64 a0, .int .i64 a1, .int .i64 a2, .int .i64 a3, .int .i64 a4, .int .i64 a5, .int .i64 a6, .int .i64 a7, .int .i64 a8]) (.agg #[.int .i64 a0, .int .i64 a1, .int .i64 a2, .int .i64 a3, .int .i64 a4, .int .i64 a5, .int .i64 a6, .int .i64 a7, .int .i64 a8])).run Tryz.prog w = .ok (.bool true) w := by
  go_simp
attribute [local go_sem] run_eql_blk

theorem WAt.stays {Rep : World → Nat → (Nat → Prop) → St → Prop} (P : PSpec Rep) {w w' : World} {wd : Nat} {x c : Bool → Nat} {F G : Bool → Nat → Prop} {s : Bool → St} {lv mv : Value} {L M : List Ent} (h : WAt Rep w wd x c F G s lv mv L M) (hb : Below w.heap.size w w') : Stays Rep w w' wd x c F G lv mv L.length :=
  (h.keep P hb).same.from hb

theorem kept_stays {Rep : World → Nat → (Nat → Prop) → St → Prop} (P : PSpec Rep) {w W w' : World} {wd g : Nat} {x c : Bool → Nat} {F G : Bool → Nat → Prop} {s : Bool → St} {lv mv : Value} {L : List Ent} {e0 : Ent} (hb : Below w.heap.size w W) (hg : w.heap.size ≤ g) (h : Kept1 Rep W w' wd g x c F G s lv mv L e0) : Stays Rep w w' wd x c F G lv mv L.length := by
  obtain ⟨lv', mv', M', h1, h2, h3, h4⟩ := h
  have hs := hb.size
  refine ⟨F, G, s, lv', mv', L ++ [e0], M', h1, (Fr.of_below hb _ (fun k h1 h2 => by omega)).trans' h2 (fun i hi h => ?_), ?_, by simp⟩
  · rcases h with h | h | h | h
    · omega
    · exact Or.inr (Or.inl h)
    · exact Or.inr (Or.inr (Or.inl h))
    · exact Or.inr (Or.inr (Or.inr h))
  · rintro k (h | h | h | h)
    · exact Or.inl (Or.inl h)
    · exact Or.inl (Or.inr (Or.inl h))
    · rcases h3 k h with h' | h'
      · exact Or.inl (Or.inr (Or.inr (Or.inl h')))
      · exact Or.inr (by omega)
    · rcases h4 k h with h' | h'
      · exact Or.inl (Or.inr (Or.inr (Or.inr h')))
      · exact Or.inr (by omega)

set_option maxHeartbeats 12800000 in
set_option maxRecDepth 1000000 in
theorem told_any {Rep : World → Nat → (Nat → Prop) → St → Prop} (P : PSpec Rep) {w : World} {wd : Nat} {x c : Bool → Nat} {F G : Bool → Nat → Prop} {s : Bool → St} {lv mv : Value} {L M : List Ent} (h : WAt Rep w wd x c F G s lv mv L M) (b : Bool) (o : OpS) (ho : OpI o) (hL : L.length ≤ 1499999999999) :
    Calls Tryz.prog 13 #[.pointer (some ⟨wd, 0, none⟩), sideV (x b) (c b), opV o] w fun r w' => r = .returned (.bool true) ∧ Stays Rep w w' wd x c F G lv mv L.length := by
  unfold sideV opV
  rw [show opA o = #[.int .i64 o.kind, .bool o.other, .int .i64 o.A, .int .i64 o.B, .int .i64 o.C, .int .i64 o.h.slot, .int .i64 o.h.pool, .int .i64 o.h.proof, .int .i64 o.h.count, .int .i64 o.h.frm, .int .i64 o.h.dst, .int .i64 o.h.amount, .string o.S] from rfl]
  go_enter Tryz.func13, Tryz.ntmps13
  go_upto_region 1 with fail
  generalize hA : (w.alloc (.cells #[.pointer (some ⟨x b, 0, none⟩), .pointer (some ⟨c b, 0, none⟩)] 31)).alloc (.cells #[.int .i64 o.kind, .bool o.other, .int .i64 o.A, .int .i64 o.B, .int .i64 o.C, .int .i64 o.h.slot, .int .i64 o.h.pool, .int .i64 o.h.proof, .int .i64 o.h.count, .int .i64 o.h.frm, .int .i64 o.h.dst, .int .i64 o.h.amount, .string o.S] 42) = A at *
  obtain ⟨hsA, hbA, hA1, hA2⟩ := below_two hA
  have hX : Boxes w A (x b) (c b) o := ⟨hA1, hA2⟩
  have HWA := Go.Proofs.YtpaakikgfojplaaGreat.hid (h.keep P hbA)
  have HBA := Go.Proofs.YtpaakikgfojplaaGreat.hid hbA
  have hv := (h.side b).inv
  have hkl := hv.wk.kl
  have hLT : (line (s b).all (tip (s b))).length ≤ 20001 := by
    have h1 := line_length hv.tree (tip (s b))
    have h2 := height_small hv (inv_lt hv hv.tipin)
    omega
  have HOA := Go.Proofs.YtpaakikgfojplaaGreat.hid ho.a
  clear hA hA1 hA2 hsA h hbA ho
  have p0 : A.cell? ⟨w.heap.size, 0, none⟩ = some (.pointer (some ⟨x b, 0, none⟩)) := cell_of_cells (j := 0) hX.side rfl
  have k0 : A.cell? ⟨w.heap.size + 1, 0, none⟩ = some (.int .i64 o.kind) := cell_of_cells (j := 0) hX.op rfl
  have k2 : A.cell? ⟨w.heap.size + 1, 2, none⟩ = some (.int .i64 o.A) := cell_of_cells (j := 2) hX.op rfl
  by_cases e5 : o.kind = 5
  · have b5 : (o.kind == 5) = true := by rw [e5]; rfl
    clear e5
    go_wp2_with fail
    refine (P.look A (x b) (F b) (s b) o.A (HWA.out.side b).p hv HOA.out).mono ?_
    rintro e w1 ⟨rfl, hb1⟩
    obtain ⟨a0, a1, a2, a3, a4, a5, a6, a7, a8, hbv⟩ := blk_agg (s b) o.A
    rw [hbv]
    have hX1 := hX.keep hb1
    clear p0 k0 k2 hX
    go_upto_region 4 with fail
    generalize hT : w1.alloc (.cells #[.int .i64 a0, .int .i64 a1, .int .i64 a2, .int .i64 a3, .int .i64 a4, .int .i64 a5, .int .i64 a6, .int .i64 a7, .int .i64 a8] 82) = T at *
    obtain ⟨hsT, hbT, hTo⟩ := below_zero hT
    clear hT
    have hX := hX1.keep hbT
    have hAT := hb1.trans (hbT.mono hb1.size)
    have hWT := HWA.out.keep P hAT
    have p1 : T.cell? ⟨w.heap.size, 1, none⟩ = some (.pointer (some ⟨c b, 0, none⟩)) := cell_of_cells (j := 1) hX.side rfl
    have k2 : T.cell? ⟨w.heap.size + 1, 2, none⟩ = some (.int .i64 o.A) := cell_of_cells (j := 2) hX.op rfl
    go_wp2_with fail
    refine (rlook T (c b) (G b) (s b) o.A (hWT.side b).r hv).mono ?_
    rintro e w2 ⟨rfl, hb2⟩
    rw [hbv]
    have hT2 := (hb2.block w1.heap.size (by omega)).trans hTo
    have hl12 : w1.heap.size < w2.heap.size := lt_of_block hT2
    have v0 := cell_of_cells (j := 0) hT2 rfl
    have v1 := cell_of_cells (j := 1) hT2 rfl
    have v2 := cell_of_cells (j := 2) hT2 rfl
    have v3 := cell_of_cells (j := 3) hT2 rfl
    have v4 := cell_of_cells (j := 4) hT2 rfl
    have v5 := cell_of_cells (j := 5) hT2 rfl
    have v6 := cell_of_cells (j := 6) hT2 rfl
    have v7 := cell_of_cells (j := 7) hT2 rfl
    have v8 := cell_of_cells (j := 8) hT2 rfl
    have hA2 := hAT.trans (hb2.mono hAT.size)
    have HFIN := Go.Proofs.YtpaakikgfojplaaGreat.hid (fun ob => (HWA.out.stays P (hA2.alloc hA2.size ob)).from HBA.out)
    generalize missing (s b) o.A = oe at *
    clear hX hX1 p1 k2 hWT hAT hA2 hbT hb2 hT2 hTo hbv HWA hsT hb1
    go_wp2
    go_ret
    exact ⟨by simp, HFIN.out _⟩
  · have b5 : (o.kind == 5) = false := by simp [e5]
    clear e5
    by_cases e7 : o.kind = 7
    · have b7 : (o.kind == 7) = true := by rw [e7]; rfl
      clear e7
      go_wp2_with fail
      refine (P.tip A (x b) (F b) (s b) (HWA.out.side b).p hv).mono ?_
      rintro e w1 ⟨rfl, hb1⟩
      have hX1 := hX.keep hb1
      have hW1 := HWA.out.keep P hb1
      clear p0 k0 k2 hX
      have p1 : w1.cell? ⟨w.heap.size, 1, none⟩ = some (.pointer (some ⟨c b, 0, none⟩)) := cell_of_cells (j := 1) hX1.side rfl
      go_wp2_with fail
      refine (rtip w1 (c b) (G b) (s b) (hW1.side b).r hv).mono ?_
      rintro e w2 ⟨rfl, hb2⟩
      have HFIN := Go.Proofs.YtpaakikgfojplaaGreat.hid ((HWA.out.stays P (hb1.trans (hb2.mono hb1.size))).from HBA.out)
      generalize tip (s b) = vv at *
      clear hX1 p1 hW1 hb1 hb2 HWA
      go_wp2
      go_ret
      exact ⟨by simp, HFIN.out⟩
    · have b7 : (o.kind == 7) = false := by simp [e7]
      clear e7
      by_cases e8 : o.kind = 8
      · have b8 : (o.kind == 8) = true := by rw [e8]; rfl
        clear e8
        go_wp2_with fail
        refine (P.final A (x b) (F b) (s b) (HWA.out.side b).p hv).mono ?_
        rintro e w1 ⟨rfl, hb1⟩
        have hX1 := hX.keep hb1
        have hW1 := HWA.out.keep P hb1
        clear p0 k0 k2 hX
        have p1 : w1.cell? ⟨w.heap.size, 1, none⟩ = some (.pointer (some ⟨c b, 0, none⟩)) := cell_of_cells (j := 1) hX1.side rfl
        go_wp2_with fail
        refine (rfinal w1 (c b) (G b) (s b) (hW1.side b).r hv).mono ?_
        rintro e w2 ⟨rfl, hb2⟩
        have HFIN := Go.Proofs.YtpaakikgfojplaaGreat.hid ((HWA.out.stays P (hb1.trans (hb2.mono hb1.size))).from HBA.out)
        generalize fin (s b) = vv at *
        clear hX1 p1 hW1 hb1 hb2 HWA
        go_wp2
        go_ret
        exact ⟨by simp, HFIN.out⟩
      · have b8 : (o.kind == 8) = false := by simp [e8]
        clear e8
        by_cases e6 : o.kind = 6
        · have b6 : (o.kind == 6) = true := by rw [e6]; rfl
          clear e6
          go_wp2_with fail
          refine (P.kept A (x b) (F b) (s b) (HWA.out.side b).p hv).mono ?_
          rintro e w1 ⟨g1, c1, rfl, ho1, hb1⟩
          have hX1 := hX.keep hb1
          have hW1 := HWA.out.keep P hb1
          clear p0 k0 k2 hX
          have p1 : w1.cell? ⟨w.heap.size, 1, none⟩ = some (.pointer (some ⟨c b, 0, none⟩)) := cell_of_cells (j := 1) hX1.side rfl
          go_wp2_with fail
          refine (rkept w1 (c b) (G b) (s b) (hW1.side b).r hv).mono ?_
          rintro e w2 ⟨g2, c2, rfl, ho2, hb2⟩
          have ho12 := row_keep ho1 hb2 (Nat.le_refl _)
          have hg1 := (ho1.lt g1 (by simp [Value.ownBlock])).1
          have hbA2 := hb1.trans (hb2.mono hb1.size)
          clear p1 hX1 hW1 hb1 hb2 ho1
          generalize hLL : (s b).keep = l at *
          go_wp2_with fail
          refine (lsame_is _ g1 c1 _ g2 c2 l w2 ho12 ho2 (by omega)).mono ?_
          rintro e w3 ⟨rfl, hb3⟩
          have ho13 := row_keep ho12 hb3 (Nat.le_refl _)
          have hbA3 := hbA2.trans (hb3.mono hbA2.size)
          have hW3 := HWA.out.keep P hbA3
          have hAs := HBA.out.size
          clear ho12 ho2 hb3 hbA2
          go_wp2_with fail
          refine (keep_any P hW3 g1 l.length c1 l rfl (row_weak ho13 (Nat.zero_le _)) (by omega) (fun b' k hk e => by
            have h1 : k < A.heap.size := hk.elim (P.lt (HWA.out.side b').p k) ((HWA.out.side b').r.lt k)
            omega) (fun e he h => by
            have h1 := (HWA.out.toWMid.lt e he).1
            omega) hL).mono ?_
          rintro e w4 ⟨rfl, hK⟩
          have HFIN := Go.Proofs.YtpaakikgfojplaaGreat.hid (kept_stays P (HBA.out.trans (hbA3.mono hAs)) (by omega) hK)
          clear hK hW3 ho13 hbA3 HWA
          go_wp2
          go_ret
          exact ⟨rfl, HFIN.out⟩
        · have b6 : (o.kind == 6) = false := by simp [e6]
          clear e6
          go_wp2_with fail
          refine (P.path A (x b) (F b) (s b) (HWA.out.side b).p hv).mono ?_
          rintro e w1 ⟨g1, c1, rfl, ho1, hb1⟩
          have hX1 := hX.keep hb1
          have hW1 := HWA.out.keep P hb1
          clear p0 k0 k2 hX
          have p1 : w1.cell? ⟨w.heap.size, 1, none⟩ = some (.pointer (some ⟨c b, 0, none⟩)) := cell_of_cells (j := 1) hX1.side rfl
          go_wp2_with fail
          refine (rpath w1 (c b) (G b) (s b) (hW1.side b).r hv).mono ?_
          rintro e w2 ⟨g2, c2, rfl, ho2, hb2⟩
          have ho12 := row_keep ho1 hb2 (Nat.le_refl _)
          have hg1 := (ho1.lt g1 (by simp [Value.ownBlock])).1
          have hbA2 := hb1.trans (hb2.mono hb1.size)
          clear p1 hX1 hW1 hb1 hb2 ho1
          generalize hLL : line (s b).all (tip (s b)) = l at *
          go_wp2_with fail
          refine (lsame_is _ g1 c1 _ g2 c2 l w2 ho12 ho2 (by omega)).mono ?_
          rintro e w3 ⟨rfl, hb3⟩
          have ho13 := row_keep ho12 hb3 (Nat.le_refl _)
          have hbA3 := hbA2.trans (hb3.mono hbA2.size)
          have hW3 := HWA.out.keep P hbA3
          have hAs := HBA.out.size
          clear ho12 ho2 hb3 hbA2
          go_wp2_with fail
          refine (keep_any P hW3 g1 l.length c1 l rfl (row_weak ho13 (Nat.zero_le _)) (by omega) (fun b' k hk e => by
            have h1 : k < A.heap.size := hk.elim (P.lt (HWA.out.side b').p k) ((HWA.out.side b').r.lt k)
            omega) (fun e he h => by
            have h1 := (HWA.out.toWMid.lt e he).1
            omega) hL).mono ?_
          rintro e w4 ⟨rfl, hK⟩
          have HFIN := Go.Proofs.YtpaakikgfojplaaGreat.hid (kept_stays P (HBA.out.trans (hbA3.mono hAs)) (by omega) hK)
          clear hK hW3 ho13 hbA3 HWA
          go_wp2
          go_ret
          exact ⟨rfl, HFIN.out⟩

end Go.Proofs.YtpaakikgfojplaaGreat

