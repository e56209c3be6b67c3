import Derived.Test.YtpaakikgfojplaaGreatCM23
import Derived.Test.YtpaakikgfojplaaGreatCM12
import Derived.Test.YtpaakikgfojplaaGreatCM34
import Derived.Test.YtpaakikgfojplaaGreatCBc1
/-
  THE WALKS of the program's tree: Kept, Tip, lineDown, Path.
-/
namespace Go.Proofs.YtpaakikgfojplaaGreat
open Go.RowKit Num Bk
set_option linter.unusedVariables false

/-- The numbers of nodes. -/
def IdsAre (ns : List Nd) (ids : List Nat) : Prop := ids.length = ns.length ∧ ∀ k, k < ns.length → (ns.getD k zeroN).id = ((ids.getD k 0 : Nat) : Int)

set_option maxHeartbeats 3200000 in
set_option maxRecDepth 1000000 in
theorem tkept_is (x gk ck : Nat) (pv : Value) {ps : List Nat} (p : Par) (acc : Int) (ns : List Nd) (past : List Nat) (ids : List Nat) (w : World) (hr : ChAt w x gk ck pv ps p acc ns past) (hl : ns.length ≤ 100) (hl1 : 1 ≤ ns.length) (hids : IdsAre ns ids) :
    Calls Tryz.prog 68 #[.pointer (some ⟨x, 5, none⟩)] w fun e w' => ListOut w w' e ids := by
  obtain ⟨i0, hi0, hz0, hz1, hz2⟩ := info_parts Tryz.info3
  obtain ⟨hil, hid⟩ := hids
  go_enter Tryz.func68, Tryz.ntmps68
  go_wp2
  go_loopw [3, 4] (fun l i wr => ∃ (k : Nat) (os : List Nat), k ≤ ns.length ∧ i = .int .i64 k ∧ os.length = k ∧ Hid (os = ids.take k) ∧ wr.ownsRow w.heap.size 3 1 l os.length (dcells os) ∧ Below w.heap.size w wr)
    (fun _ i _ => ns.length - (intOf i).toNat)
  case atStart => exact ⟨0, [], Nat.zero_le _, rfl, rfl, rfl, World.ownsRow_made _ _ _ (Nat.le_refl _) (by unfold maxLen; omega) rfl, (Below.refl _ _).alloc (Nat.le_refl _) _⟩
  case round =>
    obtain ⟨k, os, hk, rfl, hosl, HOS, hown, hbel⟩ := hrel
    have hrr := hr.keep hbel
    have hsz := hbel.size
    have c8 := cell_of_cells (j := 8) hrr.blk rfl
    by_cases hlt : k < ns.length
    · have hn := hrr.node hlt
      have cn : wr.cell? ⟨gk, k * 37, none⟩ = some (.int .i64 (ns.getD k zeroN).id) := by
        have := hn 0 (.int .i64 (ns.getD k zeroN).id) rfl
        simpa using this
      rw [hid k hlt] at cn
      have HT := Go.Proofs.YtpaakikgfojplaaGreat.hid (take_succ_getD ids k (by omega))
      rw [← HOS.out] at HT
      have i1 : (0 : Int) ≤ (k : Int) := by omega
      have i2 : (k : Int) < ((ns.length : Nat) : Int) := by omega
      clear hn hrr HOS hid
      generalize ids.getD k 0 = d at *
      go_wp2_with (at_builtin; refine wpList_append_lies _ rfl (.tmp 15) (.tmp 24) 22 rfl w.heap.size 3 i0 (.int .i64 0) 1 8 Tryz.underlying22 hi0 hz0 hz1 hz2 rfl (by omega) _ os.length (dcells os) rfl (hown.alloc _) ⟨wr.heap.size, 0, none⟩ 1 1 [.int .i64 (d : Int)] rfl rfl (cell_one_new _ _ _) (one_int _) (by omega) (by unfold maxLen; omega) (by omega) (by simp; omega) (wr.heap.size + 1) (by simp) ?_)
      intro gq capq wq hownq hgrowq hatq hltq
      have hrow := fun k (e : Value.ownBlock u3 = some k) => (hown.lt k e).1
      have HB := Go.Proofs.YtpaakikgfojplaaGreat.hid ((hbel.alloc (by omega) _).grown hgrowq (by simp; omega) hrow)
      have HO := Go.Proofs.YtpaakikgfojplaaGreat.hid hownq
      clear hownq hgrowq hatq hbel hown hrow
      go_wp2
      go_roundw
      case rel =>
        refine ⟨k + 1, os ++ [d], by omega, by go_num, by simp; omega, HT.out.symm, ?_, HB.out⟩
        rw [List.length_append, dcells_append, hosl]
        exact HO.out
      case measure => simp [intOf]; omega
    · have hos : os = ids := by rw [HOS.out, show k = ids.length by omega, List.take_length]
      obtain ⟨go, co, rfl, _, _⟩ := hown.form (by omega)
      clear HOS hrr hid
      subst hos
      go_wp2
      go_ret
      exact ⟨go, co, rfl, hown, hbel⟩

def idNd (v : Value) : Sem Value := Instr.field 95 v 0
theorem idNd_eq (v : Value) : Instr.field 95 v 0 = idNd v := rfl
theorem run_idNd (w : World) (n : Nd) : (idNd (ndV n)).run Tryz.prog w = .ok (.int .i64 n.id) w := by
  unfold idNd
  kernel_rfl
attribute [local go_sem ↓] idNd_eq
attribute [local go_sem] run_idNd

set_option maxHeartbeats 800000 in
set_option maxRecDepth 1000000 in
theorem ttipid_is (x gk ck : Nat) (pv : Value) {ps : List Nat} (p : Par) (acc : Int) (ns : List Nd) (past : List Nat) (w : World) (hr : ChAt w x gk ck pv ps p acc ns past) (hl : ns.length ≤ 100) (hl1 : 1 ≤ ns.length) :
    Calls Tryz.prog 66 #[.pointer (some ⟨x, 5, none⟩)] w fun e w' => e = .returned (.int .i64 (tipN ns).id) ∧ Below w.heap.size w w' := by
  go_enter Tryz.func66, Tryz.ntmps66
  go_wp2_with fail
  refine (ttip_is x gk ck pv p acc ns past w hr hl hl1).mono ?_
  rintro e w1 ⟨rfl, hb1⟩
  clear hr
  generalize hT : tipN ns = T at *
  go_wp2
  go_ret
  exact ⟨by rw [hT]; rfl, hb1⟩

/-- The walk down, in the program's terms. -/
def downN : List Nd → Int → List Int
  | [], _ => []
  | n :: r, q => if n.id = q then q :: downN r n.par else downN r q
theorem downN_map (p : Par) (all : List Itm) : ∀ (l : List Nat) (q : Int), downN (l.map (ndOf p all)) q = (downK all l q).map (fun k : Nat => (k : Int)) := by
  intro l
  induction l with
  | nil => intro q; rfl
  | cons k r ih =>
    intro q
    rw [List.map_cons, downN, downK]
    have e : (ndOf p all k).id = (k : Int) := rfl
    have e2 : (ndOf p all k).par = parI all k := rfl
    rw [e, e2]
    by_cases h : (k : Int) = q
    · rw [if_pos h, if_pos h, ih, List.map_cons, h]
    · rw [if_neg h, if_neg h, ih]

theorem take_rev (L : List Nat) (m : Nat) (h : m < L.length) : (L.take (m + 1)).reverse = L.getD m 0 :: (L.take m).reverse := by
  rw [take_succ_getD L m h, List.reverse_append]; rfl

set_option maxHeartbeats 3200000 in
set_option maxRecDepth 1000000 in
theorem tdown_is (x gk ck : Nat) (pv : Value) {ps : List Nat} (p p0 : Par) (acc : Int) (all : List Itm) (L : List Nat) (past : List Nat) (t : Nat) (w : World) (hr : ChAt w x gk ck pv ps p acc (L.map (ndOf p0 all)) past) (hl : L.length ≤ 100) (hl1 : 1 ≤ L.length) (ht : (tipN (L.map (ndOf p0 all))).id = (t : Int)) (hne : 1 ≤ (downK all L.reverse (t : Int)).length) :
    Calls Tryz.prog 85 #[.pointer (some ⟨x, 5, none⟩)] w fun e w' => ListOut w w' e (downK all L.reverse (t : Int)) := by
  obtain ⟨i0, hi0, hz0, hz1, hz2⟩ := info_parts Tryz.info3
  have HD : Hid (∀ D, D = downK all L.reverse (t : Int) → D = downK all L.reverse (t : Int)) := fun D h => h
  generalize hDD : downK all L.reverse (t : Int) = D at *
  have HDD := Go.Proofs.YtpaakikgfojplaaGreat.hid hDD
  clear hDD HD
  have hml : (L.map (ndOf p0 all)).length = L.length := List.length_map ..
  go_enter Tryz.func85, Tryz.ntmps85
  go_wp2_with fail
  generalize hA : w.alloc (.cells #[] 3) = A at *
  obtain ⟨hsA, hbA, hAR⟩ := below_of hA
  have hown0 : A.ownsRow w.heap.size 3 1 (.slice (some ⟨w.heap.size, 0, none⟩) 0 0) 0 [] := by
    rw [← hA]; exact World.ownsRow_made _ _ _ (Nat.le_refl _) (by unfold maxLen; omega) rfl
  clear hA hAR
  refine (ttipid_is x gk ck pv p acc _ past A (hr.keep hbA) (by omega) (by omega)).mono ?_
  rintro e w1 ⟨rfl, hb1⟩
  rw [ht]
  have hb01 := hbA.trans (hb1.mono hbA.size)
  have hown1 := row_keep hown0 hb1 (Nat.le_refl _)
  have hr1 := hr.keep hb01
  have c8 := cell_of_cells (j := 8) hr1.blk rfl
  rw [hml] at c8
  clear hown0 hbA hb1 ht hsA
  go_wp2
  go_loopw [3, 4, 5] (fun l q i wr => ∃ (k : Nat) (os : List Nat) (qi : Int), k ≤ L.length ∧ i = .int .i64 ((k : Int) - 1) ∧ q = .int .i64 qi ∧ os.length + k ≤ L.length ∧ Hid (os ++ downK all (L.take k).reverse qi = D) ∧ wr.ownsRow w.heap.size 3 1 l os.length (dcells os) ∧ Below w.heap.size w wr)
    (fun _ _ i _ => (intOf i + 1).toNat)
  case atStart => exact ⟨L.length, [], t, Nat.le_refl _, by go_num, rfl, by simp, by unfold Hid; rw [List.take_length]; exact HDD.out, hown1, hb01⟩
  case round =>
    obtain ⟨k, os, qi, hk, rfl, rfl, hosl, HOS, hown, hbel⟩ := hrel
    have hrr := hr.keep hbel
    have hsz := hbel.size
    clear c8
    have c8 := cell_of_cells (j := 8) hrr.blk rfl
    rw [hml] at c8
    rcases k with _ | m
    · have hos : os = D := by have := HOS.out; simpa [downK] using this
      obtain ⟨go, co, rfl, _, _⟩ := hown.form (by rw [hos]; omega)
      clear HOS hrr HDD
      subst hos
      rw [show (((0 : Nat) : Int) - 1) = -1 from rfl]
      go_wp2
      go_ret
      exact ⟨go, co, rfl, hown, hbel⟩
    · have hn := hrr.node (i := m) (by omega)
      have hgm : (L.map (ndOf p0 all)).getD m zeroN = ndOf p0 all (L.getD m 0) := by
        simp [List.getD, show m < L.length by omega]
      rw [hgm] at hn
      have cn : wr.cell? ⟨gk, m * 37, none⟩ = some (.int .i64 ((L.getD m 0 : Nat) : Int)) := by
        have := hn 0 (.int .i64 ((L.getD m 0 : Nat) : Int)) rfl
        simpa using this
      have cp : wr.cell? ⟨gk, m * 37 + 1, none⟩ = some (.int .i64 (parI all (L.getD m 0))) := hn 1 _ rfl
      have HT := Go.Proofs.YtpaakikgfojplaaGreat.hid (take_rev L m (by omega))
      have i1 : (0 : Int) ≤ (m : Int) := by omega
      have i2 : (m : Int) < ((L.length : Nat) : Int) := by omega
      rw [show (((m + 1 : Nat) : Int) - 1) = (m : Int) from by omega]
      clear hn hrr hgm
      rw [HT.out, downK] at HOS
      clear HT
      generalize L.getD m 0 = d at *
      generalize parI all d = dp at *
      by_cases hq : (d : Int) = qi
      · have hqb : ((d : Int) == qi) = true := by simp [hq]
        rw [if_pos hq] at HOS
        have HS : Hid ((os ++ [d]) ++ downK all (L.take m).reverse dp = D) := by
          have := HOS.out
          unfold Hid
          rw [← this]; simp
        clear HOS
        have hqe : (.int .i64 qi : Value) = .int .i64 (d : Int) := by rw [hq]
        subst hq
        go_wp2_with (at_builtin; refine wpList_append_lies _ rfl (.tmp 29) (.tmp 31) 22 rfl w.heap.size 3 i0 (.int .i64 0) 1 8 Tryz.underlying22 hi0 hz0 hz1 hz2 rfl (by omega) _ os.length (dcells os) rfl (hown.alloc _) ⟨wr.heap.size, 0, none⟩ 1 1 [.int .i64 (d : Int)] rfl rfl (cell_one_new _ _ _) (one_int _) (by omega) (by unfold maxLen; omega) (by omega) (by simp; omega) (wr.heap.size + 1) (by simp) ?_)
        intro gq capq wq hownq hgrowq hatq hltq
        have hrow := fun k (e : Value.ownBlock u3 = some k) => (hown.lt k e).1
        have hBq := (hbel.alloc (by omega) _).grown hgrowq (by simp; omega) hrow
        have hrq := hr.keep hBq
        have k8 := cell_of_cells (j := 8) hrq.blk rfl
        rw [hml] at k8
        have kp : wq.cell? ⟨gk, m * 37 + 1, none⟩ = some (.int .i64 dp) := by
          rw [← cp]
          have h1 := hBq.cell (p := ⟨gk, m * 37 + 1, none⟩) hr.lts.2.1
          have h2 := hbel.cell (p := ⟨gk, m * 37 + 1, none⟩) hr.lts.2.1
          rw [h1, h2]
        have HB := Go.Proofs.YtpaakikgfojplaaGreat.hid hBq
        have HO := Go.Proofs.YtpaakikgfojplaaGreat.hid hownq
        clear hownq hgrowq hatq hbel hown hrow hBq hrq
        go_wp2
        go_roundw
        case rel =>
          refine ⟨m, os ++ [d], dp, by omega, by go_num, rfl, by simp; omega, HS, ?_, HB.out⟩
          rw [List.length_append, dcells_append]
          exact HO.out
        case measure => simp [intOf]
      · have hqb : ((d : Int) == qi) = false := by simp [hq]
        rw [if_neg hq] at HOS
        clear hq
        go_wp2
        go_roundw
        case rel => exact ⟨m, os, qi, by omega, by go_num, rfl, by omega, HOS, hown, hbel⟩
        case measure => simp [intOf]

set_option maxHeartbeats 3200000 in
set_option maxRecDepth 1000000 in
theorem tpath_is (x gk ck : Nat) (pv : Value) {ps : List Nat} (p p0 : Par) (acc : Int) (all : List Itm) (L : List Nat) (past : List Nat) (t : Nat) (w : World) (hr : ChAt w x gk ck pv ps p acc (L.map (ndOf p0 all)) past) (hl : L.length ≤ 100) (hl1 : 1 ≤ L.length) (hl2 : past.length ≤ 20000) (ht : (tipN (L.map (ndOf p0 all))).id = (t : Int)) (hne : 1 ≤ (downK all L.reverse (t : Int)).length) (hdl : (downK all L.reverse (t : Int)).length ≤ 20000) :
    Calls Tryz.prog 69 #[.pointer (some ⟨x, 5, none⟩)] w fun e w' => ListOut w w' e (past ++ (downK all L.reverse (t : Int)).reverse) := by
  obtain ⟨i0, hi0, hz0, hz1, hz2⟩ := info_parts Tryz.info3
  obtain ⟨ao, pcap, hpv, hpo⟩ := own_any hr.pst
  subst hpv
  have HDN := Go.Proofs.YtpaakikgfojplaaGreat.hid (fun W (hW : ChAt W x gk ck (.slice ao past.length pcap) ps p acc (L.map (ndOf p0 all)) past) => tdown_is x gk ck (.slice ao past.length pcap) p p0 acc all L past t W hW hl hl1 ht hne)
  generalize downK all L.reverse (t : Int) = D at *
  clear ht
  go_enter Tryz.func69, Tryz.ntmps69
  go_wp2
  go_loopw [3, 4] (fun l i wr => ∃ (k : Nat) (os : List Nat), k ≤ past.length ∧ i = .int .i64 k ∧ os.length = k ∧ Hid (os = past.take k) ∧ wr.ownsRow w.heap.size 3 1 l os.length (dcells os) ∧ Below w.heap.size w wr)
    (fun _ i _ => past.length - (intOf i).toNat)
  case atStart => exact ⟨0, [], Nat.zero_le _, rfl, rfl, rfl, World.ownsRow_made _ _ _ (Nat.le_refl _) (by unfold maxLen; omega) rfl, (Below.refl _ _).alloc (Nat.le_refl _) _⟩
  case round =>
    obtain ⟨k, os, hk, rfl, hosl, HOS, hown, hbel⟩ := hrel
    have hrr := hr.keep hbel
    have hsz := hbel.size
    have c9 := cell_of_cells (j := 9) hrr.blk rfl
    by_cases hlt : k < past.length
    · obtain ⟨gp, rfl⟩ := hpo (by omega)
      have cm := (hrr.pst.cellAt k (by omega)).trans (dcells_at past k hlt)
      have HT := Go.Proofs.YtpaakikgfojplaaGreat.hid (take_succ_getD past k hlt)
      rw [← HOS.out] at HT
      have i1 : (0 : Int) ≤ (k : Int) := by omega
      have i2 : (k : Int) < ((past.length : Nat) : Int) := by omega
      clear hrr HOS
      generalize past.getD k 0 = d at *
      go_wp2_with (at_builtin; refine wpList_append_lies _ rfl (.tmp 17) (.tmp 25) 22 rfl w.heap.size 3 i0 (.int .i64 0) 1 8 Tryz.underlying22 hi0 hz0 hz1 hz2 rfl (by omega) _ os.length (dcells os) rfl (hown.alloc _) ⟨wr.heap.size, 0, none⟩ 1 1 [.int .i64 (d : Int)] rfl rfl (cell_one_new _ _ _) (one_int _) (by omega) (by unfold maxLen; omega) (by omega) (by simp; omega) (wr.heap.size + 1) (by simp) ?_)
      intro gq capq wq hownq hgrowq hatq hltq
      have hrow := fun k (e : Value.ownBlock u3 = some k) => (hown.lt k e).1
      have HB := Go.Proofs.YtpaakikgfojplaaGreat.hid ((hbel.alloc (by omega) _).grown hgrowq (by simp; omega) hrow)
      have HO := Go.Proofs.YtpaakikgfojplaaGreat.hid hownq
      clear hownq hgrowq hatq hbel hown hrow
      go_wp2
      go_roundw
      case rel =>
        refine ⟨k + 1, os ++ [d], by omega, by go_num, by simp; omega, HT.out.symm, ?_, HB.out⟩
        rw [List.length_append, dcells_append, hosl]
        exact HO.out
      case measure => simp [intOf]; omega
    · have hos : os = past := by rw [HOS.out, show k = past.length by omega, List.take_length]
      clear HOS
      subst hos
      go_wp2_with fail
      refine (HDN.out _ hrr).mono ?_
      rintro e w2 ⟨g2, cap2, rfl, hownD, hb2⟩
      have hown2 := row_keep hown hb2 (Nat.le_refl _)
      have hbel2 := hbel.trans (hb2.mono hsz)
      have hg2 := own_lt hownD
      have hgl := (hownD.lt g2 (by simp [Value.ownBlock])).1
      have hsep : ∀ k, Value.ownBlock u3 = some k → k < wr.heap.size := fun k e => (hown.lt k e).2
      clear hrr HDN hown hbel hb2 c9
      go_wp2
      go_loopw [3, 6] (fun l i wq => ∃ (k : Nat) (ps : List Nat), k ≤ D.length ∧ i = .int .i64 ((k : Int) - 1) ∧ ps.length + k = os.length + D.length ∧ Hid (ps = os ++ (D.drop k).reverse) ∧ wq.ownsRow w.heap.size 3 1 l ps.length (dcells ps) ∧ wq.ownsRow 0 3 1 (.slice (some ⟨g2, 0, none⟩) D.length cap2) D.length (dcells D) ∧ (∀ k, l.ownBlock = some k → k ≠ g2) ∧ Below w.heap.size w wq)
        (fun _ i _ => (intOf i + 1).toNat)
      case atStart => exact ⟨D.length, os, Nat.le_refl _, by go_num, rfl, by unfold Hid; simp, hown2, row_weak hownD (Nat.zero_le _), fun k e => by have := hsep k e; omega, hbel2⟩
      case round =>
        clear hown2 hbel2 hownD hg2
        obtain ⟨k, ps, hk, rfl, hpl, HPS, hownp, hownD, hnq, hbel⟩ := hrel
        have hsz2 := hbel.size
        rcases k with _ | m
        · have hps : ps = os ++ D.reverse := by rw [HPS.out]; simp
          obtain ⟨go, co, rfl, _, _⟩ := hownp.form (by omega)
          clear HPS
          subst hps
          rw [show (((0 : Nat) : Int) - 1) = -1 from rfl]
          go_wp2
          go_ret
          exact ⟨go, co, rfl, hownp, hbel⟩
        · have cm := (hownD.cellAt m (by omega)).trans (dcells_at D m (by omega))
          have HT : Hid (ps ++ [D.getD m 0] = os ++ (D.drop m).reverse) := by
            unfold Hid
            have hm : m < D.length := by omega
            rw [HPS.out, List.drop_eq_getElem_cons hm, List.reverse_cons, List.append_assoc]
            simp [List.getD, hm]
          have i1 : (0 : Int) ≤ (m : Int) := by omega
          have i2 : (m : Int) < ((D.length : Nat) : Int) := by omega
          rw [show (((m + 1 : Nat) : Int) - 1) = (m : Int) from by omega]
          clear HPS
          generalize D.getD m 0 = d at *
          have hg2 := own_lt hownD
          go_wp2_with (at_builtin; refine wpList_append_lies _ rfl (.tmp 36) (.tmp 41) 22 rfl w.heap.size 3 i0 (.int .i64 0) 1 8 Tryz.underlying22 hi0 hz0 hz1 hz2 rfl (by omega) _ ps.length (dcells ps) rfl (hownp.alloc _) ⟨wr.heap.size, 0, none⟩ 1 1 [.int .i64 (d : Int)] rfl rfl (cell_one_new _ _ _) (one_int _) (by omega) (by unfold maxLen; omega) (by omega) (by simp; omega) (wr.heap.size + 1) (by simp) ?_)
          intro gq capq w5 hownq hgrowq hatq hltq
          have hrow := fun k (e : Value.ownBlock _ = some k) => (hownp.lt k e).1
          have HB := Go.Proofs.YtpaakikgfojplaaGreat.hid ((hbel.alloc (by omega) _).grown hgrowq (by simp; omega) hrow)
          have HO := Go.Proofs.YtpaakikgfojplaaGreat.hid hownq
          have HOD := Go.Proofs.YtpaakikgfojplaaGreat.hid ((hownD.alloc (.cells #[.int .i64 (d : Int)] 3)).kept hgrowq (Or.inr (by intro e; exact hnq g2 (by rw [← e]; rfl) rfl)))
          have HNG : Hid (∀ k, (Value.slice (some ⟨gq, 0, none⟩) (ps.length + 1) capq).ownBlock = some k → k ≠ g2) := by
            intro k e
            simp [Value.ownBlock] at e
            subst e
            rcases hatq with h | h
            · exact hnq _ h
            · omega
          clear hownq hgrowq hatq hbel hownp hrow hownD
          go_wp2
          go_roundw
          case rel =>
            refine ⟨m, ps ++ [d], by omega, by go_num, by simp; omega, HT, ?_, HOD.out, ?_, HB.out⟩
            · rw [List.length_append, dcells_append]
              exact HO.out
            · exact HNG.out
          case measure => simp [intOf]

end Go.Proofs.YtpaakikgfojplaaGreat

/-
  THE PROGRAM's CHAIN: Tip, Final, Kept, Path, Look.
-/
namespace Go.Proofs.YtpaakikgfojplaaGreat
open Go.RowKit Num Bk
set_option linter.unusedVariables false

theorem tip_nd {s : St} (hi : Inv s) : tipN (s.keep.map (ndOf s.par s.all)) = ndOf s.par s.all (tip s) :=
  tipN_map _ _ _ (by intro e; have := hi.wk.kne; rw [e] at this; simp at this) hi.rise

theorem ids_keep (s : St) : IdsAre (s.keep.map (ndOf s.par s.all)) s.keep := by
  refine ⟨(List.length_map ..).symm, fun k hk => ?_⟩
  rw [List.length_map] at hk
  have : (s.keep.map (ndOf s.par s.all)).getD k zeroN = ndOf s.par s.all (s.keep.getD k 0) := by simp [List.getD, hk]
  rw [this]
  rfl

set_option maxHeartbeats 800000 in
theorem ptip_is (w : World) (x : Nat) (F : Nat → Prop) (s : St) (hR : RepP w x F s) (hi : Inv s) :
    Calls Tryz.prog 30 #[.pointer (some ⟨x, 0, none⟩)] w fun e w' => e = .returned (.int .i64 ((Bk.tip s : Nat) : Int)) ∧ Below w.heap.size w w' := by
  obtain ⟨gk, ck, pv, ⟨hr⟩, hF⟩ := hR
  have hks := keep_small hi
  have HT := Go.Proofs.YtpaakikgfojplaaGreat.hid (tip_nd hi)
  go_enter Tryz.func30, Tryz.ntmps30
  go_wp2_with fail
  refine (ttipid_is x gk ck pv s.par _ _ _ w hr (by omega) (by omega)).mono ?_
  rintro e w1 ⟨rfl, hb1⟩
  rw [HT.out]
  clear hr
  go_wp2
  go_ret
  exact ⟨rfl, hb1⟩

set_option maxHeartbeats 800000 in
theorem pfinal_is (w : World) (x : Nat) (F : Nat → Prop) (s : St) (hR : RepP w x F s) (hi : Inv s) :
    Calls Tryz.prog 32 #[.pointer (some ⟨x, 0, none⟩)] w fun e w' => e = .returned (.int .i64 ((Bk.fin s : Nat) : Int)) ∧ Below w.heap.size w w' := by
  obtain ⟨gk, ck, pv, ⟨hr⟩, hF⟩ := hR
  have hks := keep_small hi
  have h0 : ((s.keep.map (ndOf s.par s.all)).getD 0 zeroN).id = ((fin s : Nat) : Int) := by
    obtain ⟨l, hl⟩ := head_fin hi
    rw [hl]; rfl
  have HT := Go.Proofs.YtpaakikgfojplaaGreat.hid h0
  go_enter Tryz.func32, Tryz.ntmps32
  go_wp2_with fail
  refine (tfinal_is x gk ck pv s.par _ _ _ w hr (by omega) (by omega)).mono ?_
  rintro e w1 ⟨rfl, rfl⟩
  rw [HT.out]
  clear hr h0
  go_wp2
  go_ret
  exact ⟨rfl, Below.refl _ _⟩

set_option maxHeartbeats 800000 in
theorem pkept_is (w : World) (x : Nat) (F : Nat → Prop) (s : St) (hR : RepP w x F s) (hi : Inv s) :
    Calls Tryz.prog 34 #[.pointer (some ⟨x, 0, none⟩)] w fun e w' => ListOut w w' e s.keep := by
  obtain ⟨gk, ck, pv, ⟨hr⟩, hF⟩ := hR
  have hks := keep_small hi
  go_enter Tryz.func34, Tryz.ntmps34
  go_wp2_with fail
  refine (tkept_is x gk ck pv s.par _ _ _ s.keep w hr (by omega) (by omega) (ids_keep s)).mono ?_
  rintro e w1 ⟨g, cap, rfl, hown, hb1⟩
  clear hr
  go_wp2
  go_ret
  exact ⟨g, cap, rfl, hown, hb1⟩

set_option maxHeartbeats 800000 in
theorem ppath_is (w : World) (x : Nat) (F : Nat → Prop) (s : St) (hR : RepP w x F s) (hi : Inv s) :
    Calls Tryz.prog 38 #[.pointer (some ⟨x, 0, none⟩)] w fun e w' => ListOut w w' e (line s.all (Bk.tip s)) := by
  obtain ⟨gk, ck, pv, ⟨hr⟩, hF⟩ := hR
  have hks := keep_small hi
  have hls := line_small hi
  rw [List.length_map] at hks
  have ht : (tipN (s.keep.map (ndOf s.par s.all))).id = ((tip s : Nat) : Int) := by rw [tip_nd hi]; rfl
  have hpl := path_line hi
  have hll := line_length hi.tree (tip s)
  have hlf := line_length hi.tree (fin s)
  have hhs := height_small hi (inv_lt hi hi.tipin)
  have hhm := height_mem hi.tree (fin_tip hi)
  have hlen := congrArg List.length hpl
  rw [List.length_append, List.length_reverse, List.length_dropLast] at hlen
  have HP := Go.Proofs.YtpaakikgfojplaaGreat.hid hpl
  go_enter Tryz.func38, Tryz.ntmps38
  go_wp2_with fail
  refine (tpath_is x gk ck pv s.par s.par _ s.all s.keep _ (tip s) w hr (by omega) (by omega) hls ht (by omega) (by omega)).mono ?_
  rintro e w1 ⟨g, cap, rfl, hown, hb1⟩
  clear hr ht hpl hlen hll
  rw [HP.out] at hown
  rw [HP.out]
  go_wp2
  go_ret
  exact ⟨g, cap, rfl, hown, hb1⟩

/-- What Look tells, by what is there. -/
theorem look_v {s : St} (hi : Inv s) (id : Int) : Value.agg (lkA (findN (s.keep.map (ndOf s.par s.all)) id)) = blkV s id := by
  rcases found hi id with ⟨hm, k, rfl, hk, hf⟩ | ⟨hm, hf⟩
  · rw [hf]
    unfold blkV
    rw [hm]
    simp only [if_true, Int.toNat_natCast]
    have h1 : (ndOf s.par s.all k).hdr = hd s.all k := rfl
    have h2 : (ndOf s.par s.all k).height = ((height s.all k : Nat) : Int) := rfl
    have h3 : (ndOf s.par s.all k).par = if k = 0 then -1 else ((pa s.all k : Nat) : Int) := rfl
    have h4 : (if (ndOf s.par s.all k).par = -1 then (0 : Int) else (ndOf s.par s.all k).par) = ((pa s.all k : Nat) : Int) := by
      rw [h3]
      by_cases e : k = 0
      · subst e
        have : pa s.all 0 = 0 := by unfold pa; rw [hi.zero]; rfl
        simp [this]
      · rw [if_neg e, if_neg (by omega)]
    show Value.agg (bkA (ndOf s.par s.all k).hdr (if (ndOf s.par s.all k).par = -1 then 0 else (ndOf s.par s.all k).par) (ndOf s.par s.all k).height) = _
    rw [h1, h2, h4]
    rfl
  · rw [hf]
    unfold blkV
    simp only [if_neg hm]
    rfl

set_option maxHeartbeats 1600000 in
set_option maxRecDepth 1000000 in
theorem plook_is (w : World) (x : Nat) (F : Nat → Prop) (s : St) (id : Int) (hR : RepP w x F s) (hi : Inv s) :
    Calls Tryz.prog 28 #[.pointer (some ⟨x, 0, none⟩), .int .i64 id] w fun e w' => e = .returned (.tuple #[blkV s id, .int .i64 (missing s id)]) ∧ Below w.heap.size w w' := by
  obtain ⟨gk, ck, pv, ⟨hr⟩, hF⟩ := hR
  have hks := keep_small hi
  have hls := line_small hi
  have HV := Go.Proofs.YtpaakikgfojplaaGreat.hid (look_v hi id)
  have HE := Go.Proofs.YtpaakikgfojplaaGreat.hid (findErr_map hi id)
  go_enter Tryz.func28, Tryz.ntmps28
  go_wp2_with fail
  generalize hA : w.alloc (.cells #[.int .i64 0, .int .i64 0, .int .i64 0, .int .i64 0, .int .i64 0, .int .i64 0, .int .i64 0, .int .i64 0, .int .i64 0] 82) = A at *
  obtain ⟨hsA, hbA, hAR⟩ := below_of hA
  clear hA
  refine (tlook_is x gk ck pv s.par _ _ _ id A (hr.keep hbA) (by omega) (by omega)).mono ?_
  rintro r w1 ⟨rfl, hb1⟩
  rw [HV.out, HE.out]
  have hR1 : w1.heap[w.heap.size]? = some (.cells (bkA zeroH 0 0) 82 (0, 0)) := (hb1.block w.heap.size (by omega)).trans hAR
  have HR1 := Go.Proofs.YtpaakikgfojplaaGreat.hid hR1
  have HB1 := Go.Proofs.YtpaakikgfojplaaGreat.hid (hbA.trans (hb1.mono (by omega)))
  clear hr hAR hb1 hbA hR1 HV HE
  obtain ⟨h, q, n, hb⟩ : ∃ h q n, blkV s id = .agg (bkA h q n) := ⟨_, _, _, rfl⟩
  rw [hb]
  go_wp2_with (refine wpList_store_row rfl 82 _ _ rfl w.heap.size (bkA h q n) rfl rfl 82 (bkA zeroH 0 0) HR1.out (info_blkA _ _ _) rfl (bk_one _ _ _) ?_)
  refine bodyPost_ret (results_ct rfl _ _ _ w.heap.size 82 (bkA h q n) (0, 0) _ rfl (setRow_heap _ _ _ _ _ _ HR1.out) rfl Tryz.underlying82 (info_blkA _ _ _)) rfl ⟨by rw [hb]; rfl, Below.setRow HB1.out (Nat.le_refl _) _⟩

end Go.Proofs.YtpaakikgfojplaaGreat

