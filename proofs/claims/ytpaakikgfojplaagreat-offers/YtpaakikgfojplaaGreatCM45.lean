import Derived.Test.YtpaakikgfojplaaGreatCM43
import Derived.Test.YtpaakikgfojplaaGreatCTxL
import Derived.Test.YtpaakikgfojplaaGreatCM12
import Derived.Test.YtpaakikgfojplaaGreatCM28
/-
  THE WALKS of the program's texts: Decode.
-/
namespace Go.Proofs.YtpaakikgfojplaaGreat
open Go.RowKit Num Bk Tx
set_option linter.unusedVariables false

/-- What Decode tells. -/
def decH (t : List UInt8) : Hdr := (dec t).getD zeroH
def decE (t : List UInt8) : Int := if (dec t).isSome then 0 else 13

/-- The seven cells behind k numbers that were read. -/
def sevC (l : List Nat) : Array Value := #[.int .i64 (l.getD 0 0 : Nat), .int .i64 (l.getD 1 0 : Nat), .int .i64 (l.getD 2 0 : Nat), .int .i64 (l.getD 3 0 : Nat), .int .i64 (l.getD 4 0 : Nat), .int .i64 (l.getD 5 0 : Nat), .int .i64 (l.getD 6 0 : Nat)]
theorem sevC_snoc (l : List Nat) (n k : Nat) (hk : l.length = k) (h7 : k < 7) : (sevC l).setIfInBounds k (.int .i64 (n : Int)) = sevC (l ++ [n]) := by
  have e : ∀ j, j < 7 → (l ++ [n]).getD j 0 = if j = k then n else l.getD j 0 := by
    intro j hj
    simp only [List.getD, List.getElem?_append]
    by_cases h : j < l.length
    · rw [if_pos h, if_neg (by omega)]
    · rw [if_neg h]
      by_cases h2 : j = k
      · rw [if_pos h2, show j - l.length = 0 by omega]; rfl
      · rw [if_neg h2, List.getElem?_eq_none (l := [n]) (by simp; omega), List.getElem?_eq_none (l := l) (by omega)]
  unfold sevC
  rw [e 0 (by omega), e 1 (by omega), e 2 (by omega), e 3 (by omega), e 4 (by omega), e 5 (by omega), e 6 (by omega)]
  match k, h7 with
  | 0, _ => rfl
  | 1, _ => rfl
  | 2, _ => rfl
  | 3, _ => rfl
  | 4, _ => rfl
  | 5, _ => rfl
  | 6, _ => rfl

theorem rds_next {k : Nat} {t r : List UInt8} {l : List Nat} (h : rds k t = some (l, r)) : rds (k + 1) t = match rd r with | none => none | some (n, q) => some (l ++ [n], q) := by
  cases hr : rd r with
  | none => simp [rds, h, hr]
  | some x => obtain ⟨n, q⟩ := x; simp [rds, h, hr]
theorem rds_more {k m : Nat} {t : List UInt8} (h : rds k t = none) (hm : k ≤ m) : rds m t = none := by
  induction hm with
  | refl => exact h
  | step _ ih => rw [rds, ih]
theorem rds_len {k : Nat} {t r : List UInt8} {l : List Nat} (h : rds k t = some (l, r)) : l.length = k ∧ r.length ≤ t.length ∧ r = t.drop (t.length - r.length) := by
  obtain ⟨h1, h2, _⟩ := rds_some h
  have hl : t.length = (nums l).length + r.length := by rw [h1, List.length_append]
  refine ⟨h2, by omega, ?_⟩
  rw [h1, List.length_append, show (nums l).length + r.length - r.length = (nums l).length by omega, List.drop_left]

def hdrC (h : Hdr) : Array Value := #[.int .i64 h.slot, .int .i64 h.pool, .int .i64 h.proof, .int .i64 h.count, .int .i64 h.frm, .int .i64 h.dst, .int .i64 h.amount]
theorem info_hdrC (h : Hdr) : (Tryz.prog.info? 40).map (·.size) = some (hdrC h).size := by
  show _ = some 7
  kernel_rfl
theorem one_hdrC (h : Hdr) : (hdrC h).all (·.oneCell') = true := by simp [hdrC, Value.oneCell']
theorem setRow_tx {B : Nat} {a w : World} (h : Below B a w) {g : Nat} (hg : B ≤ g) (cs : Array Value) : Below B a (w.setRow g cs) :=
  ⟨h.os, h.tape, h.output, by have := h.size; simpa [World.setRow] using this, fun k hk => by rw [setRow_other _ _ _ _ (by omega)]; exact h.block k hk⟩
theorem results_tx {fn : Func} {p u : Tmp} {ty : TypeId} (h : fn.results = #[.cell p ty, .tmp u]) (tmps : Array Value) (P : Program) (w : World) (g : Nat) (t : TypeId) (cs : Array Value) (fr : Nat × Nat) (d : TypeDesc)
    (hp : tmps.getD p undef = .pointer (some ⟨g, 0, none⟩)) (hg : w.heap[g]? = some (.cells cs t fr))
    (hd : (match d with | .struct _ | .array _ _ => true | _ => false) = true) (hu : P.underlying ty = some d) (hi : (P.info? ty).map (·.size) = some cs.size) :
    (results fn tmps).run P w = .ok (.tuple #[.agg cs, tmps.getD u undef]) w := by
  rw [results_cell_tmp h, hp]
  simp [asAddr, Result.andThen, run_loadVar_row w g t ty cs fr d hg hu (by revert hd; cases d <;> simp) hi]

theorem dec_head {b : UInt8} {r : List UInt8} (h : b ≠ 135) : dec (b :: r) = none := by
  unfold dec seven
  simp [h]
theorem dec_rds (r : List UInt8) : dec (135 :: r) = match rds 7 r with | some (l, []) => some (ofL l) | _ => none := by
  unfold dec seven
  simp only [if_pos]
  cases rds 7 r with
  | none => rfl
  | some x =>
    obtain ⟨l, q⟩ := x
    cases q <;> rfl

/-- The two blocks of Decode. -/
structure DcAt (w wr : World) (l : List Nat) : Prop where
  res : wr.heap[w.heap.size]? = some (.cells (hdrC zeroH) 40 (0, 0))
  arr : wr.heap[w.heap.size + 1]? = some (.cells (sevC l) 121 (0, 0))
  bel : Below w.heap.size w wr

set_option maxHeartbeats 3200000 in
set_option maxRecDepth 1000000 in
theorem tdecode_is (t : List UInt8) (w : World) (ht : t.length ≤ maxLen) :
    Calls Tryz.prog 71 #[.string (txt t)] w fun e w' => e = .returned (.tuple #[.agg (hdrC (decH t)), .int .i64 (decE t)]) ∧ Below w.heap.size w w' := by
  have HML := Go.Proofs.YtpaakikgfojplaaGreat.hid (show maxLen = 9223372036854775807 from rfl)
  have hl : t.length ≤ 9223372036854775807 := by rw [← HML.out]; exact ht
  have HTL := Go.Proofs.YtpaakikgfojplaaGreat.hid ht
  clear ht HML
  have HDH := Go.Proofs.YtpaakikgfojplaaGreat.hid (show decH t = (dec t).getD zeroH from rfl)
  have HDE := Go.Proofs.YtpaakikgfojplaaGreat.hid (show decE t = if (dec t).isSome then 0 else 13 from rfl)
  generalize decH t = DH at *
  generalize decE t = DE at *
  have hsz := txt_size t
  have hempty : t = [] ∨ ∃ b r, t = b :: r := by cases t; exact Or.inl rfl; exact Or.inr ⟨_, _, rfl⟩
  rcases hempty with he | ⟨b, r, he⟩
  · have hdh : DH = zeroH := by rw [HDH.out, he]; rfl
    have hde : DE = 13 := by rw [HDE.out, he]; rfl
    have hl0 : t.length = 0 := by rw [he]; rfl
    rw [hl0] at hsz
    subst hdh; subst hde
    clear HDH HDE he hl0
    go_enter Tryz.func71, Tryz.ntmps71
    go_upto_region 1 with fail
    generalize hA : w.alloc (.cells #[.int .i64 0, .int .i64 0, .int .i64 0, .int .i64 0, .int .i64 0, .int .i64 0, .int .i64 0] 40) = A at *
    obtain ⟨hsA, hbA, hAR⟩ := below_tx hA
    clear hA hsA
    have HAR : Hid (A.heap[w.heap.size]? = some (.cells (hdrC zeroH) 40 (0, 0))) := hAR
    have HBA := Go.Proofs.YtpaakikgfojplaaGreat.hid hbA
    clear hAR hbA
    generalize txt t = T at *
    go_wp2_with (refine wpList_store_row rfl 40 _ _ rfl w.heap.size (hdrC zeroH) rfl rfl 40 (hdrC zeroH) HAR.out (info_hdrC _) rfl (one_hdrC _) ?_)
    refine bodyPost_ret (results_tx rfl _ _ _ w.heap.size 40 (hdrC zeroH) (0, 0) _ rfl (setRow_heap _ _ _ _ _ _ HAR.out) rfl Tryz.underlying40 (info_hdrC _)) rfl ⟨rfl, setRow_tx HBA.out (Nat.le_refl _) _⟩
  · have h0 : 0 < (txt t).size := by rw [hsz, he]; simp
    have hg : (txt t)[0] = b := by rw [txt_get, he]; rfl
    have hlen : t.length = r.length + 1 := by rw [he]; rfl
    have hln : ((r.length : Int) + 1 == 0) = false := by rw [beq_eq_false_iff_ne]; omega
    have hln2 : ¬ (r.length : Int) + 1 = 0 := by omega
    have HDR := Go.Proofs.YtpaakikgfojplaaGreat.hid (show ∀ j, t.drop (j + 1) = r.drop j by rw [he]; intro j; rfl)
    by_cases hb : b = 135
    · rw [hb] at hg he
      have HDD := Go.Proofs.YtpaakikgfojplaaGreat.hid ((congrArg dec he).trans (dec_rds r))
      clear he hb
      go_enter Tryz.func71, Tryz.ntmps71
      go_upto_region 5 with fail
      generalize hA : (w.alloc (.cells #[.int .i64 0, .int .i64 0, .int .i64 0, .int .i64 0, .int .i64 0, .int .i64 0, .int .i64 0] 40)).alloc (.cells #[.int .i64 0, .int .i64 0, .int .i64 0, .int .i64 0, .int .i64 0, .int .i64 0, .int .i64 0] 121) = A at *
      obtain ⟨hsA, hbA, hA1, hA2⟩ := below_tx2 hA
      have HAA : Hid (DcAt w A []) := ⟨hA1, hA2, hbA⟩
      have HLEN := Go.Proofs.YtpaakikgfojplaaGreat.hid hlen
      have HSZ := Go.Proofs.YtpaakikgfojplaaGreat.hid hsz
      clear hA hsA hbA hA1 hA2 hg h0 hlen hsz hln hln2 hl
      go_wp2
      go_loopw [5, 6] (fun a i wr => ∃ (k : Nat) (l : List Nat) (q : List UInt8) (p : Nat), k ≤ 7 ∧ i = .int .i64 k ∧ a = .int .i64 (p : Int) ∧ Hid (p = t.length - q.length ∧ q.length ≤ r.length) ∧ Hid (rds k r = some (l, q)) ∧ Hid (DcAt w wr l)) (fun _ i _ => 7 - (intOf i).toNat)
      case atStart => exact ⟨0, [], r, 1, Nat.zero_le _, rfl, rfl, ⟨by have := HLEN.out; omega, Nat.le_refl _⟩, rfl, HAA⟩
      case round =>
        clear HAA
        obtain ⟨k, l, q, p, hk, rfl, rfl, HP, HRD, HDC⟩ := hrel
        have hlk := (rds_len HRD.out).1
        have HRS := Go.Proofs.YtpaakikgfojplaaGreat.hid HDC.out.res
        have HBE := Go.Proofs.YtpaakikgfojplaaGreat.hid HDC.out.bel
        by_cases hlt : k < 7
        · have hlt' : (k : Int) < 7 := by omega
          have hdq : t.drop p = q := by
            have h3 := (rds_len HRD.out).2.2
            have h4 := HP.out
            have h5 := HLEN.out
            rw [show p = (r.length - q.length) + 1 by omega, HDR.out, ← h3]
          have HNX := Go.Proofs.YtpaakikgfojplaaGreat.hid (rds_next HRD.out)
          have hrc := tread_is t p wr HTL.out (Nat.le_trans (by have := HP.out; omega) HTL.out)
          rw [hdq] at hrc
          have HRC := Go.Proofs.YtpaakikgfojplaaGreat.hid hrc
          clear hrc hdq HRD
          cases hq : rd q with
          | none =>
            rw [hq] at HRC HNX
            have hdn : dec t = none := by
              have h7 := rds_more (show rds (k + 1) r = none from HNX.out) (show k + 1 ≤ 7 by omega)
              rw [HDD.out, h7]
            have hdh : DH = zeroH := by rw [HDH.out, hdn]; rfl
            have hde : DE = 13 := by rw [HDE.out, hdn]; rfl
            subst hdh; subst hde
            clear HDH HDE hdn HDR HNX HDD hq
            go_wp2_with fail
            refine HRC.out.mono ?_
            rintro e w1 ⟨rfl, rfl⟩
            rw [show rdN none = 0 from rfl, show rdA t.length none = 0 from rfl, show rdE none = 13 from rfl]
            clear HRC
            go_wp2_with (refine wpList_store_row rfl 40 _ _ rfl w.heap.size (hdrC zeroH) rfl rfl 40 (hdrC zeroH) HRS.out (info_hdrC _) rfl (one_hdrC _) ?_)
            refine bodyPost_ret (results_tx rfl _ _ _ w.heap.size 40 (hdrC zeroH) (0, 0) _ rfl (setRow_heap _ _ _ _ _ _ HRS.out) rfl Tryz.underlying40 (info_hdrC _)) rfl ⟨rfl, setRow_tx HBE.out (Nat.le_refl _) _⟩
          | some x =>
            obtain ⟨n, q2⟩ := x
            rw [hq] at HRC HNX
            have HR2 : Hid (rds (k + 1) r = some (l ++ [n], q2)) := HNX.out
            have hq2 : q2.length ≤ r.length := (rds_len HR2.out).2.1
            obtain ⟨p2, hp2⟩ : ∃ p2, p2 = t.length - q2.length := ⟨_, rfl⟩
            have HP2 : Hid (p2 = t.length - q2.length ∧ q2.length ≤ r.length) := ⟨hp2, hq2⟩
            have HPE := Go.Proofs.YtpaakikgfojplaaGreat.hid hp2
            clear hp2
            have cA := cell_of_cells (j := k) HDC.out.arr (show (sevC l)[k]? = some (.int .i64 ((l.getD k 0 : Nat) : Int)) from by
              match k, hlt with
              | 0, _ => rfl
              | 1, _ => rfl
              | 2, _ => rfl
              | 3, _ => rfl
              | 4, _ => rfl
              | 5, _ => rfl
              | 6, _ => rfl)
            have fA := free_of_cells (j := k) HDC.out.arr
            have i1 : (0 : Int) ≤ (k : Int) := by omega
            have HD2 : Hid (DcAt w (wr.setCell ⟨w.heap.size + 1, k, none⟩ (.int .i64 (n : Int))) (l ++ [n])) := by
              refine ⟨?_, ?_, HDC.out.bel.setCell (by show w.heap.size ≤ w.heap.size + 1; omega) _⟩
              · rw [Below.heap_setCell _ _ _ _ (show w.heap.size ≠ w.heap.size + 1 by omega)]
                exact HDC.out.res
              · rw [heap_setCell_same _ _ _ _ _ _ HDC.out.arr, sevC_snoc l n k hlk hlt]
            clear HNX hq HDC HRS HBE
            go_wp2_with fail
            refine HRC.out.mono ?_
            rintro e w1 ⟨rfl, rfl⟩
            rw [show rdN (some (n, q2)) = (n : Int) from rfl, show rdA t.length (some (n, q2)) = ((t.length - q2.length : Nat) : Int) from rfl, show rdE (some (n, q2)) = 0 from rfl]
            rw [← HPE.out]
            clear HRC hq2 HPE
            go_wp2
            go_roundw
            case rel => exact ⟨k + 1, l ++ [n], q2, p2, by omega, by go_num, rfl, HP2, HR2, HD2⟩
            case measure => simp [intOf]; omega
        · have hk7 : k = 7 := by omega
          subst hk7
          have hsz := HSZ.out
          cases q with
          | nil =>
            have hp : p = t.length := by have := HP.out.1; simpa using this
            have hds : dec t = some (ofL l) := by rw [HDD.out, HRD.out]
            have hdh : DH = ofL l := by rw [HDH.out, hds]; rfl
            have hde : DE = 0 := by rw [HDE.out, hds]; rfl
            have a0 : wr.cell? ⟨w.heap.size + 1, 0, none⟩ = some (.int .i64 ((l.getD 0 0 : Nat) : Int)) := cell_of_cells (j := 0) HDC.out.arr rfl
            have a1 : wr.cell? ⟨w.heap.size + 1, 1, none⟩ = some (.int .i64 ((l.getD 1 0 : Nat) : Int)) := cell_of_cells (j := 1) HDC.out.arr rfl
            have a2 : wr.cell? ⟨w.heap.size + 1, 2, none⟩ = some (.int .i64 ((l.getD 2 0 : Nat) : Int)) := cell_of_cells (j := 2) HDC.out.arr rfl
            have a3 : wr.cell? ⟨w.heap.size + 1, 3, none⟩ = some (.int .i64 ((l.getD 3 0 : Nat) : Int)) := cell_of_cells (j := 3) HDC.out.arr rfl
            have a4 : wr.cell? ⟨w.heap.size + 1, 4, none⟩ = some (.int .i64 ((l.getD 4 0 : Nat) : Int)) := cell_of_cells (j := 4) HDC.out.arr rfl
            have a5 : wr.cell? ⟨w.heap.size + 1, 5, none⟩ = some (.int .i64 ((l.getD 5 0 : Nat) : Int)) := cell_of_cells (j := 5) HDC.out.arr rfl
            have a6 : wr.cell? ⟨w.heap.size + 1, 6, none⟩ = some (.int .i64 ((l.getD 6 0 : Nat) : Int)) := cell_of_cells (j := 6) HDC.out.arr rfl
            unfold ofL at hdh
            rw [hp]
            clear HDC hds
            generalize l.getD 0 0 = n0 at *
            generalize l.getD 1 0 = n1 at *
            generalize l.getD 2 0 = n2 at *
            generalize l.getD 3 0 = n3 at *
            generalize l.getD 4 0 = n4 at *
            generalize l.getD 5 0 = n5 at *
            generalize l.getD 6 0 = n6 at *
            subst hde
            clear HDE HDR HDD HRD HP hp HTL HLEN HSZ HDH hlk
            subst hdh
            go_wp2_with (refine wpList_store_row rfl 40 _ _ rfl w.heap.size (hdrC ⟨n0, n1, n2, n3, n4, n5, n6⟩) rfl rfl 40 (hdrC zeroH) HRS.out (info_hdrC _) rfl (one_hdrC _) ?_)
            refine bodyPost_ret (results_tx rfl _ _ _ w.heap.size 40 (hdrC ⟨n0, n1, n2, n3, n4, n5, n6⟩) (0, 0) _ rfl (setRow_heap _ _ _ _ _ _ HRS.out) rfl Tryz.underlying40 (info_hdrC _)) rfl ⟨rfl, setRow_tx HBE.out (Nat.le_refl _) _⟩
          | cons c q =>
            have hp : ¬ (p : Int) = (t.length : Int) := by
              have h1 := HP.out
              have h2 := HLEN.out
              simp at h1
              omega
            have hpb : ((p : Int) != (t.length : Int)) = true := by rw [bne_iff_ne]; exact hp
            have hds : dec t = none := by rw [HDD.out, HRD.out]
            have hdh : DH = zeroH := by rw [HDH.out, hds]; rfl
            have hde : DE = 13 := by rw [HDE.out, hds]; rfl
            subst hdh; subst hde
            clear HDE HDR HDD HRD HDC HP hp hds HTL HLEN HSZ HDH hlk
            go_wp2_with (refine wpList_store_row rfl 40 _ _ rfl w.heap.size (hdrC zeroH) rfl rfl 40 (hdrC zeroH) HRS.out (info_hdrC _) rfl (one_hdrC _) ?_)
            refine bodyPost_ret (results_tx rfl _ _ _ w.heap.size 40 (hdrC zeroH) (0, 0) _ rfl (setRow_heap _ _ _ _ _ _ HRS.out) rfl Tryz.underlying40 (info_hdrC _)) rfl ⟨rfl, setRow_tx HBE.out (Nat.le_refl _) _⟩
    · have hdn : dec t = none := by rw [he]; exact dec_head hb
      have hdh : DH = zeroH := by rw [HDH.out, hdn]; rfl
      have hde : DE = 13 := by rw [HDE.out, hdn]; rfl
      have hbb : ((b.toNat : Int) != 135) = true := by
        rw [bne_iff_ne]
        intro e
        apply hb
        apply UInt8.toNat.inj
        show b.toNat = 135
        omega
      subst hdh; subst hde
      clear HDH HDE he hdn HDR hb
      go_enter Tryz.func71, Tryz.ntmps71
      go_upto_region 1 with fail
      generalize hA : w.alloc (.cells #[.int .i64 0, .int .i64 0, .int .i64 0, .int .i64 0, .int .i64 0, .int .i64 0, .int .i64 0] 40) = A at *
      obtain ⟨hsA, hbA, hAR⟩ := below_tx hA
      clear hA hsA
      have HAR : Hid (A.heap[w.heap.size]? = some (.cells (hdrC zeroH) 40 (0, 0))) := hAR
      have HBA := Go.Proofs.YtpaakikgfojplaaGreat.hid hbA
      clear hAR hbA
      go_wp2_with (refine wpList_store_row rfl 40 _ _ rfl w.heap.size (hdrC zeroH) rfl rfl 40 (hdrC zeroH) HAR.out (info_hdrC _) rfl (one_hdrC _) ?_)
      refine bodyPost_ret (results_tx rfl _ _ _ w.heap.size 40 (hdrC zeroH) (0, 0) _ rfl (setRow_heap _ _ _ _ _ _ HAR.out) rfl Tryz.underlying40 (info_hdrC _)) rfl ⟨rfl, setRow_tx HBA.out (Nat.le_refl _) _⟩

end Go.Proofs.YtpaakikgfojplaaGreat

/-
  THE WALKS of the document's texts: Decode.
-/
namespace Go.Proofs.YtpaakikgfojplaaGreat
open Go.RowKit Num Bk Tx
set_option linter.unusedVariables false

def sevI (l : List Int) : Array Value := #[.int .i64 (l.getD 0 0), .int .i64 (l.getD 1 0), .int .i64 (l.getD 2 0), .int .i64 (l.getD 3 0), .int .i64 (l.getD 4 0), .int .i64 (l.getD 5 0), .int .i64 (l.getD 6 0)]
theorem sevI_snoc (l : List Int) (n : Int) (k : Nat) (hk : l.length = k) (h7 : k < 7) : (sevI l).setIfInBounds k (.int .i64 n) = sevI (l ++ [n]) := by
  have e : ∀ j, j < 7 → (l ++ [n]).getD j 0 = if j = k then n else l.getD j 0 := by
    intro j hj
    simp only [List.getD, List.getElem?_append]
    by_cases h : j < l.length
    · rw [if_pos h, if_neg (by omega)]
    · rw [if_neg h]
      by_cases h2 : j = k
      · rw [if_pos h2, show j - l.length = 0 by omega]; rfl
      · rw [if_neg h2, List.getElem?_eq_none (l := [n]) (by simp; omega), List.getElem?_eq_none (l := l) (by omega)]
  unfold sevI
  rw [e 0 (by omega), e 1 (by omega), e 2 (by omega), e 3 (by omega), e 4 (by omega), e 5 (by omega), e 6 (by omega)]
  match k, h7 with
  | 0, _ => rfl
  | 1, _ => rfl
  | 2, _ => rfl
  | 3, _ => rfl
  | 4, _ => rfl
  | 5, _ => rfl
  | 6, _ => rfl
/-- The two blocks of Decode. -/
structure DqAt (w wr : World) (l : List Int) : Prop where
  res : wr.heap[w.heap.size]? = some (.cells (hdrC zeroH) 40 (0, 0))
  arr : wr.heap[w.heap.size + 1]? = some (.cells (sevI l) 121 (0, 0))
  bel : Below w.heap.size w wr
/-- What was read, where the text is a header's. -/
def ReadsK (t : List UInt8) (k : Nat) (A : List Int) (p : Nat) : Prop := ∀ h, low h = false → Fits h → t = enc h → A = (flds h).take k ∧ t.drop p = nums (((flds h).drop k).map Int.toNat)

theorem low_get {h : Hdr} (hl : low h = false) (k : Nat) : 0 ≤ (flds h).getD k 0 := by
  obtain ⟨h0, h1, h2, h3, h4, h5, h6⟩ := low_false hl
  match k with
  | 0 => exact h0
  | 1 => exact h1
  | 2 => exact h2
  | 3 => exact h3
  | 4 => exact h4
  | 5 => exact h5
  | 6 => exact h6
  | n + 7 => simp [flds, List.getD]
theorem reads_step {t : List UInt8} {k p j : Nat} {A : List Int} {n : Int} (hk : k < 7) (h1 : ReadsK t k A p) (h2 : Reads1 t p n j) : ReadsK t (k + 1) (A ++ [n]) j := by
  intro h hl hf e
  obtain ⟨e1, e2⟩ := h1 h hl hf e
  have hk' : k < (flds h).length := hk
  have hd : (flds h).drop k = (flds h).getD k 0 :: (flds h).drop (k + 1) := by
    rw [List.drop_eq_getElem_cons hk']
    simp [List.getD, hk']
  have hx := low_get hl k
  have hxf : (flds h).getD k 0 ≤ 9223372036854775807 := hf _ (by rw [show (flds h).getD k 0 = (flds h)[k] from by simp [List.getD, hk']]; exact List.getElem_mem _)
  have hn : t.drop p = num ((flds h).getD k 0).toNat ++ nums (((flds h).drop (k + 1)).map Int.toNat) := by
    rw [e2, hd]
    simp [nums]
  obtain ⟨g1, g2⟩ := h2 _ _ (by omega) hn
  refine ⟨?_, ?_⟩
  · rw [g1, e1, List.take_succ_eq_append_getElem hk', show (((flds h).getD k 0).toNat : Int) = (flds h).getD k 0 by omega]
    simp [List.getD, hk']
  · rw [g2, ← List.drop_drop, hn, List.drop_left]

def ofI (l : List Int) : Hdr := ⟨l.getD 0 0, l.getD 1 0, l.getD 2 0, l.getD 3 0, l.getD 4 0, l.getD 5 0, l.getD 6 0⟩
theorem ofI_flds (h : Hdr) : ofI (flds h) = h := rfl
theorem fits_ofI {l : List Int} (h : ∀ x ∈ l, B64 x) : Fits (ofI l) := by
  have hx : ∀ i, l.getD i 0 ≤ 9223372036854775807 := by
    intro i
    by_cases hi : i < l.length
    · rw [List.getD_eq_getElem?_getD, List.getElem?_eq_getElem hi]
      exact (h _ (List.getElem_mem hi)).2
    · rw [List.getD_eq_getElem?_getD, List.getElem?_eq_none (by omega)]
      decide
  intro x hx'
  simp only [flds, ofI, List.mem_cons, List.not_mem_nil, or_false] at hx'
  rcases hx' with rfl | rfl | rfl | rfl | rfl | rfl | rfl <;> apply hx
/-- The header that was read is the text's, or none is. -/
theorem reads_end {t : List UInt8} {A : List Int} {p : Nat} (hA : A.length = 7) (hb : ∀ x ∈ A, B64 x) (h : ReadsK t 7 A p) :
    (encE (ofI A) = 0 ∧ encT (ofI A) = t ∧ decH t = ofI A ∧ decE t = 0) ∨ ((encE (ofI A) ≠ 0 ∨ encT (ofI A) ≠ t) ∧ decH t = zeroH ∧ decE t = 13) := by
  have hf := fits_ofI hb
  cases hd : dec t with
  | some g =>
    left
    obtain ⟨e, gl, gf⟩ := dec_some hd
    obtain ⟨e1, _⟩ := h g gl gf e
    rw [List.take_of_length_le (by show 7 ≤ 7; omega)] at e1
    have e2 : ofI A = g := by rw [e1]; rfl
    rw [e2]
    refine ⟨by unfold encE; rw [gl]; rfl, by unfold encT; rw [gl]; exact e.symm, by unfold decH; rw [hd]; rfl, by unfold decE; rw [hd]; rfl⟩
  | none =>
    right
    refine ⟨?_, by unfold decH; rw [hd]; rfl, by unfold decE; rw [hd]; rfl⟩
    by_cases h0 : encE (ofI A) = 0
    · right
      intro e
      have hl : low (ofI A) = false := by
        cases hlo : low (ofI A)
        · rfl
        · unfold encE at h0; rw [hlo] at h0; simp at h0
      have e2 : enc (ofI A) = t := by rw [← e]; unfold encT; rw [hl]; rfl
      rw [← e2, dec_enc hl hf] at hd
      simp at hd
    · exact Or.inl h0

set_option maxHeartbeats 3200000 in
set_option maxRecDepth 1000000 in
theorem rdecode_is (t : List UInt8) (w : World) (ht : t.length ≤ maxLen) :
    Calls Tryz.prog 73 #[.string (txt t)] w fun e w' => e = .returned (.tuple #[.agg (hdrC (decH t)), .int .i64 (decE t)]) ∧ Below w.heap.size w w' := by
  have HTL := Go.Proofs.YtpaakikgfojplaaGreat.hid ht
  clear ht
  have HEN := Go.Proofs.YtpaakikgfojplaaGreat.hid (fun (A : List Int) (p : Nat) (hA : A.length = 7) (hb : ∀ x ∈ A, B64 x) (h : ReadsK t 7 A p) => reads_end hA hb h)
  generalize decH t = DH at *
  generalize decE t = DE at *
  go_enter Tryz.func73, Tryz.ntmps73
  go_upto_region 3 with fail
  generalize hA : (w.alloc (.cells #[.int .i64 0, .int .i64 0, .int .i64 0, .int .i64 0, .int .i64 0, .int .i64 0, .int .i64 0] 40)).alloc (.cells #[.int .i64 0, .int .i64 0, .int .i64 0, .int .i64 0, .int .i64 0, .int .i64 0, .int .i64 0] 121) = A at *
  obtain ⟨hsA, hbA, hA1, hA2⟩ := below_tx2 hA
  have HAA : Hid (DqAt w A []) := ⟨hA1, hA2, hbA⟩
  clear hA hsA hbA hA1 hA2
  go_wp2
  go_loopw [4, 6] (fun a i wr => ∃ (k : Nat) (l : List Int) (p : Nat), k ≤ 7 ∧ p ≤ 1 + 9 * k ∧ i = .int .i64 k ∧ a = .int .i64 (p : Int) ∧ Hid (l.length = k ∧ (∀ x ∈ l, B64 x) ∧ ReadsK t k l p) ∧ Hid (DqAt w wr l)) (fun _ i _ => 7 - (intOf i).toNat)
  case atStart =>
    refine ⟨0, [], 1, Nat.zero_le _, Nat.le_refl _, rfl, rfl, ⟨rfl, by simp, ?_⟩, HAA⟩
    intro h hl hf e
    refine ⟨rfl, ?_⟩
    rw [e]
    rfl
  case round =>
    clear HAA
    obtain ⟨k, l, p, hk, hp, rfl, rfl, HL, HDC⟩ := hrel
    have HRS := Go.Proofs.YtpaakikgfojplaaGreat.hid HDC.out.res
    have HBE := Go.Proofs.YtpaakikgfojplaaGreat.hid HDC.out.bel
    by_cases hlt : k < 7
    · have hlt' : (k : Int) < 7 := by omega
      have HRC := Go.Proofs.YtpaakikgfojplaaGreat.hid (loose_is t p wr HTL.out (by omega))
      have cA := cell_of_cells (j := k) HDC.out.arr (show (sevI l)[k]? = some (.int .i64 (l.getD k 0)) from by
        match k, hlt with
        | 0, _ => rfl
        | 1, _ => rfl
        | 2, _ => rfl
        | 3, _ => rfl
        | 4, _ => rfl
        | 5, _ => rfl
        | 6, _ => rfl)
      have fA := free_of_cells (j := k) HDC.out.arr
      have i1 : (0 : Int) ≤ (k : Int) := by omega
      go_wp2_with fail
      refine HRC.out.mono ?_
      rintro e w1 ⟨n, j, rfl, rfl, hnb, hj, hR⟩
      have HD2 : Hid (DqAt w (wr.setCell ⟨w.heap.size + 1, k, none⟩ (.int .i64 n)) (l ++ [n])) := by
        refine ⟨?_, ?_, HDC.out.bel.setCell (by show w.heap.size ≤ w.heap.size + 1; omega) _⟩
        · rw [Below.heap_setCell _ _ _ _ (show w.heap.size ≠ w.heap.size + 1 by omega)]
          exact HDC.out.res
        · rw [heap_setCell_same _ _ _ _ _ _ HDC.out.arr, sevI_snoc l n k HL.out.1 hlt]
      have HL2 : Hid ((l ++ [n]).length = k + 1 ∧ (∀ x ∈ l ++ [n], B64 x) ∧ ReadsK t (k + 1) (l ++ [n]) j) := by
        refine ⟨by rw [List.length_append, HL.out.1]; rfl, ?_, reads_step hlt HL.out.2.2 hR⟩
        intro x hx
        rcases List.mem_append.1 hx with h | h
        · exact HL.out.2.1 x h
        · simp at h; subst h; exact hnb
      clear HRC HDC HRS HBE HL hR hnb
      go_wp2
      go_roundw
      case rel => exact ⟨k + 1, l ++ [n], j, by omega, by omega, by go_num, rfl, HL2, HD2⟩
      case measure => simp [intOf]; omega
    · have hk7 : k = 7 := by omega
      subst hk7
      have HF := Go.Proofs.YtpaakikgfojplaaGreat.hid (fits_ofI HL.out.2.1)
      have HRE := Go.Proofs.YtpaakikgfojplaaGreat.hid (fun W => rencode_is (ofI l) W HF.out)
      have HCS := Go.Proofs.YtpaakikgfojplaaGreat.hid (HEN.out l p HL.out.1 HL.out.2.1 HL.out.2.2)
      have a0 : wr.cell? ⟨w.heap.size + 1, 0, none⟩ = some (.int .i64 (l.getD 0 0)) := cell_of_cells (j := 0) HDC.out.arr rfl
      have a1 : wr.cell? ⟨w.heap.size + 1, 1, none⟩ = some (.int .i64 (l.getD 1 0)) := cell_of_cells (j := 1) HDC.out.arr rfl
      have a2 : wr.cell? ⟨w.heap.size + 1, 2, none⟩ = some (.int .i64 (l.getD 2 0)) := cell_of_cells (j := 2) HDC.out.arr rfl
      have a3 : wr.cell? ⟨w.heap.size + 1, 3, none⟩ = some (.int .i64 (l.getD 3 0)) := cell_of_cells (j := 3) HDC.out.arr rfl
      have a4 : wr.cell? ⟨w.heap.size + 1, 4, none⟩ = some (.int .i64 (l.getD 4 0)) := cell_of_cells (j := 4) HDC.out.arr rfl
      have a5 : wr.cell? ⟨w.heap.size + 1, 5, none⟩ = some (.int .i64 (l.getD 5 0)) := cell_of_cells (j := 5) HDC.out.arr rfl
      have a6 : wr.cell? ⟨w.heap.size + 1, 6, none⟩ = some (.int .i64 (l.getD 6 0)) := cell_of_cells (j := 6) HDC.out.arr rfl
      clear HEN HL HDC HTL
      unfold ofI at HRE HCS
      generalize l.getD 0 0 = n0 at *
      generalize l.getD 1 0 = n1 at *
      generalize l.getD 2 0 = n2 at *
      generalize l.getD 3 0 = n3 at *
      generalize l.getD 4 0 = n4 at *
      generalize l.getD 5 0 = n5 at *
      generalize l.getD 6 0 = n6 at *
      generalize encE ⟨n0, n1, n2, n3, n4, n5, n6⟩ = EE at *
      generalize encT ⟨n0, n1, n2, n3, n4, n5, n6⟩ = ET at *
      unfold hdrV at HRE
      simp only at HRE
      go_upto_region 10 with fail
      generalize hB : wr.alloc (.cells #[.int .i64 n0, .int .i64 n1, .int .i64 n2, .int .i64 n3, .int .i64 n4, .int .i64 n5, .int .i64 n6] 40) = B at *
      obtain ⟨hsB, hbB, hBR⟩ := below_tx hB
      have hlB : wr.heap.size < B.heap.size := by omega
      clear hB hsB a0 a1 a2 a3 a4 a5 a6
      have x0 := cell_of_cells (j := 0) hBR rfl
      have x1 := cell_of_cells (j := 1) hBR rfl
      have x2 := cell_of_cells (j := 2) hBR rfl
      have x3 := cell_of_cells (j := 3) hBR rfl
      have x4 := cell_of_cells (j := 4) hBR rfl
      have x5 := cell_of_cells (j := 5) hBR rfl
      have x6 := cell_of_cells (j := 6) hBR rfl
      have hr0 := lt_of_block HRS.out
      go_wp2_with fail
      refine (HRE.out B).mono ?_
      rintro e w2 ⟨rfl, hb2⟩
      have hb22 := hbB.trans (hb2.mono (Nat.le_of_lt hlB))
      have HRS2 : Hid (w2.heap[w.heap.size]? = some (.cells (hdrC zeroH) 40 (0, 0))) := (hb22.block _ hr0).trans HRS.out
      have HB2 := Go.Proofs.YtpaakikgfojplaaGreat.hid (HBE.out.trans (hb22.mono HBE.out.size))
      have hB2 := (hb2.block _ hlB).trans hBR
      clear x0 x1 x2 x3 x4 x5 x6 hBR hb2 hbB hb22 HRS HBE HRE hr0 hlB
      have x0 := cell_of_cells (j := 0) hB2 rfl
      have x1 := cell_of_cells (j := 1) hB2 rfl
      have x2 := cell_of_cells (j := 2) hB2 rfl
      have x3 := cell_of_cells (j := 3) hB2 rfl
      have x4 := cell_of_cells (j := 4) hB2 rfl
      have x5 := cell_of_cells (j := 5) hB2 rfl
      have x6 := cell_of_cells (j := 6) hB2 rfl
      clear hB2
      have hl1 := txt_list ET
      have hl2 := txt_list t
      rcases HCS.out with ⟨h1, h2, h3, h4⟩ | ⟨h1, h3, h4⟩
      · subst h1; subst h2; subst h3; subst h4
        clear HCS
        go_wp2_with (refine wpList_store_row rfl 40 _ _ rfl w.heap.size (hdrC ⟨n0, n1, n2, n3, n4, n5, n6⟩) rfl rfl 40 (hdrC zeroH) HRS2.out (info_hdrC _) rfl (one_hdrC _) ?_)
        refine bodyPost_ret (results_tx rfl _ _ _ w.heap.size 40 (hdrC ⟨n0, n1, n2, n3, n4, n5, n6⟩) (0, 0) _ rfl (setRow_heap _ _ _ _ _ _ HRS2.out) rfl Tryz.underlying40 (info_hdrC _)) rfl ⟨rfl, setRow_tx HB2.out (Nat.le_refl _) _⟩
      · subst h3; subst h4
        by_cases g1 : EE = 0
        · have g2 : (ET == t) = false := by
            rw [beq_eq_false_iff_ne]
            exact h1.resolve_left (fun e => e g1)
          subst g1
          clear HCS h1
          go_wp2_with (refine wpList_store_row rfl 40 _ _ rfl w.heap.size (hdrC zeroH) rfl rfl 40 (hdrC zeroH) HRS2.out (info_hdrC _) rfl (one_hdrC _) ?_)
          refine bodyPost_ret (results_tx rfl _ _ _ w.heap.size 40 (hdrC zeroH) (0, 0) _ rfl (setRow_heap _ _ _ _ _ _ HRS2.out) rfl Tryz.underlying40 (info_hdrC _)) rfl ⟨rfl, setRow_tx HB2.out (Nat.le_refl _) _⟩
        · have g2 : (EE != 0) = true := by rw [bne_iff_ne]; exact g1
          clear HCS h1 g1
          go_wp2_with (refine wpList_store_row rfl 40 _ _ rfl w.heap.size (hdrC zeroH) rfl rfl 40 (hdrC zeroH) HRS2.out (info_hdrC _) rfl (one_hdrC _) ?_)
          refine bodyPost_ret (results_tx rfl _ _ _ w.heap.size 40 (hdrC zeroH) (0, 0) _ rfl (setRow_heap _ _ _ _ _ _ HRS2.out) rfl Tryz.underlying40 (info_hdrC _)) rfl ⟨rfl, setRow_tx HB2.out (Nat.le_refl _) _⟩

end Go.Proofs.YtpaakikgfojplaaGreat

/-
  WHAT THE PROGRAM's CHAIN OWES TO PEERS, as hypotheses.
-/
namespace Go.Proofs.YtpaakikgfojplaaGreat
open Go.RowKit Num Bk Tx
set_option linter.unusedVariables false

def strV (t : List UInt8) : Value := .string ⟨t.toArray⟩
/-- A header, if there is one. -/
def hdrOf (o : Option Hdr) : Hdr := o.getD zeroH
/-- Decode's error. -/
def formE (t : List UInt8) : Int := if (dec t).isSome then 0 else 13

structure PPeer (Rep : World → Nat → (Nat → Prop) → St → Prop) : Prop where
  next : ∀ (w : World) (x : Nat) (F : Nat → Prop) (s : St) (n : Int) (t : List UInt8), Rep w x F s → Inv s → I64 n → t.length ≤ maxLen →
    Calls Tryz.prog 40 #[.pointer (some ⟨x, 0, none⟩), .int .i64 n, strV t] w fun e w' => e = .returned (.tuple #[.int .i64 (nextI s n t), .int .i64 (nextE s n t)]) ∧ Left Rep w w' x F (nextS s n t)
  back : ∀ (w : World) (x : Nat) (F : Nat → Prop) (s : St) (n id : Int), Rep w x F s → Inv s → I64 n → I64 id →
    Calls Tryz.prog 42 #[.pointer (some ⟨x, 0, none⟩), .int .i64 n, .int .i64 id] w fun e w' => e = .returned (.int .i64 (backE s n id)) ∧ Left Rep w w' x F (backS s n id)
  point : ∀ (w : World) (x : Nat) (F : Nat → Prop) (s : St) (n : Int), Rep w x F s → Inv s → I64 n →
    Calls Tryz.prog 44 #[.pointer (some ⟨x, 0, none⟩), .int .i64 n] w fun e w' => e = .returned (.tuple #[.int .i64 (pointV s n), .int .i64 (pointE n)]) ∧ Below w.heap.size w w'

end Go.Proofs.YtpaakikgfojplaaGreat

