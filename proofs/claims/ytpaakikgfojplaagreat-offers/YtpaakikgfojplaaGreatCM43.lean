import Derived.Test.YtpaakikgfojplaaGreatCM42
import Derived.Test.YtpaakikgfojplaaGreatCM9
/-
  THE WALKS of the program's texts: Encode.
-/
namespace Go.Proofs.YtpaakikgfojplaaGreat
open Go.RowKit Num Bk Tx
set_option linter.unusedVariables false

/-- What Encode tells. -/
def encT (h : Hdr) : List UInt8 := if low h then [] else enc h
def encE (h : Hdr) : Int := if low h then 1 else 0

theorem flds_length (h : Hdr) : (flds h).length = 7 := rfl
theorem low_take (L : List Int) (k : Nat) (h : k < L.length) (hn : (L.take k).any (fun x => decide (x < 0)) = false) : (L.take (k + 1)).any (fun x => decide (x < 0)) = decide (L.getD k 0 < 0) := by
  rw [List.take_succ_eq_append_getElem h, List.any_append, hn]
  simp [List.getD, h]
theorem low_any (L : List Int) (k : Nat) (h : k < L.length) (hn : L.getD k 0 < 0) : L.any (fun x => decide (x < 0)) = true := by
  rw [List.any_eq_true]
  refine ⟨L.getD k 0, ?_, by simpa using hn⟩
  rw [show L.getD k 0 = L[k] from by simp [List.getD, h]]
  exact List.getElem_mem h
theorem nums_take (L : List Int) (k : Nat) (h : k < L.length) : nums ((L.take (k + 1)).map Int.toNat) = nums ((L.take k).map Int.toNat) ++ num (L.getD k 0).toNat := by
  rw [List.take_succ_eq_append_getElem h, List.map_append]
  show nums (_ ++ [L[k].toNat]) = _
  rw [nums_snoc]
  simp [List.getD, h]

end Go.Proofs.YtpaakikgfojplaaGreat

/-
  THE WALKS of the document's texts: Encode.
-/
namespace Go.Proofs.YtpaakikgfojplaaGreat
open Go.RowKit Num Bk Tx
set_option linter.unusedVariables false

set_option maxHeartbeats 1600000 in
set_option maxRecDepth 1000000 in
theorem fields_is (h : Hdr) (w : World) :
    Calls Tryz.prog 98 #[hdrV h] w fun e w' => ∃ g, e = .returned (.slice (some ⟨g, 0, none⟩) 7 7) ∧ w'.heap[g]? = some (.cells #[.int .i64 h.slot, .int .i64 h.pool, .int .i64 h.proof, .int .i64 h.count, .int .i64 h.frm, .int .i64 h.dst, .int .i64 h.amount] 3 (0, 0)) ∧ Below w.heap.size w w' := by
  obtain ⟨a0, a1, a2, a3, a4, a5, a6⟩ := h
  unfold hdrV
  simp only
  have HF := Go.Proofs.YtpaakikgfojplaaGreat.hid (below_tx2 (w := w) (cs := #[.int .i64 a0, .int .i64 a1, .int .i64 a2, .int .i64 a3, .int .i64 a4, .int .i64 a5, .int .i64 a6]) (t := 40) (ds := #[.int .i64 a0, .int .i64 a1, .int .i64 a2, .int .i64 a3, .int .i64 a4, .int .i64 a5, .int .i64 a6]) (u := 3) rfl)
  go_enter Tryz.func98, Tryz.ntmps98
  go_wp2
  go_ret
  exact ⟨w.heap.size + 1, rfl, HF.out.2.2.2, HF.out.2.1⟩

set_option maxHeartbeats 1600000 in
set_option maxRecDepth 1000000 in
theorem rencode_is (h : Hdr) (w : World) (hf : Fits h) :
    Calls Tryz.prog 88 #[hdrV h] w fun e w' => e = .returned (.tuple #[.string (txt (encT h)), .int .i64 (encE h)]) ∧ Below w.heap.size w w' := by
  have HT := Go.Proofs.YtpaakikgfojplaaGreat.hid (show encT h = if low h then [] else enc h from rfl)
  have HE := Go.Proofs.YtpaakikgfojplaaGreat.hid (show encE h = if low h then 1 else 0 from rfl)
  have HL := Go.Proofs.YtpaakikgfojplaaGreat.hid (show low h = (flds h).any fun x => decide (x < 0) from rfl)
  have HC := Go.Proofs.YtpaakikgfojplaaGreat.hid (show enc h = 135 :: nums ((flds h).map Int.toNat) from rfl)
  have HF := Go.Proofs.YtpaakikgfojplaaGreat.hid (fun k (hk : k < 7) => hf ((flds h).getD k 0) (by have hk' : k < (flds h).length := hk; rw [show (flds h).getD k 0 = (flds h)[k] from by simp [List.getD, hk']]; exact List.getElem_mem _))
  have hfl := flds_length h
  have hcl : ∀ k, k < 7 → (#[.int .i64 h.slot, .int .i64 h.pool, .int .i64 h.proof, .int .i64 h.count, .int .i64 h.frm, .int .i64 h.dst, .int .i64 h.amount] : Array Value)[k]? = some (.int .i64 ((flds h).getD k 0)) := by
    intro k hk
    match k, hk with
    | 0, _ => rfl
    | 1, _ => rfl
    | 2, _ => rfl
    | 3, _ => rfl
    | 4, _ => rfl
    | 5, _ => rfl
    | 6, _ => rfl
  have HCL := Go.Proofs.YtpaakikgfojplaaGreat.hid hcl
  clear hcl hf
  generalize encT h = T at *
  generalize encE h = E at *
  generalize low h = lo at *
  generalize enc h = N at *
  generalize flds h = L at *
  obtain ⟨a0, a1, a2, a3, a4, a5, a6⟩ := h
  unfold hdrV
  simp only at HCL ⊢
  go_enter Tryz.func88, Tryz.ntmps88
  go_upto_region 1 with fail
  generalize hA0 : w.alloc (.cells #[.int .i64 a0, .int .i64 a1, .int .i64 a2, .int .i64 a3, .int .i64 a4, .int .i64 a5, .int .i64 a6] 40) = A0 at *
  obtain ⟨hsA0, hbA0, hAR0⟩ := below_tx hA0
  clear hA0
  have a00 := cell_of_cells (j := 0) hAR0 rfl
  have a01 := cell_of_cells (j := 1) hAR0 rfl
  have a02 := cell_of_cells (j := 2) hAR0 rfl
  have a03 := cell_of_cells (j := 3) hAR0 rfl
  have a04 := cell_of_cells (j := 4) hAR0 rfl
  have a05 := cell_of_cells (j := 5) hAR0 rfl
  have a06 := cell_of_cells (j := 6) hAR0 rfl
  go_wp2_with fail
  refine (fields_is ⟨a0, a1, a2, a3, a4, a5, a6⟩ A0).mono ?_
  rintro e A ⟨gf, rfl, hA2, hbA1⟩
  have hbA := hbA0.trans (hbA1.mono (by omega))
  have hgA := lt_of_block hA2
  clear hbA0 hbA1 hsA0 hAR0 a00 a01 a02 a03 a04 a05 a06
  have hcv := txt_new A 135 (by omega) (by omega) 1
  go_upto_region 3 with fail
  generalize hB : A.alloc (.cells #[.int .u8 135] 5) = B at *
  obtain ⟨hsB, hbB, _⟩ := below_tx hB
  clear hB hcv
  have hB2 := (hbB.block gf hgA).trans hA2
  have HBB := Go.Proofs.YtpaakikgfojplaaGreat.hid (hbA.trans (hbB.mono hbA.size))
  have hcell : ∀ k, k < 7 → B.cell? ⟨gf, k, none⟩ = some (.int .i64 (L.getD k 0)) := fun k hk => cell_of_cells (j := k) hB2 (HCL.out k hk)
  have HCE := Go.Proofs.YtpaakikgfojplaaGreat.hid hcell
  have hlt0 : gf < B.heap.size := lt_of_block hB2
  clear hbA hA2 hbB hB2 hcell HCL hsB hgA
  go_wp2
  go_loopw [5, 6] (fun t i wr => ∃ k : Nat, k ≤ 7 ∧ i = .int .i64 k ∧ t = .string (txt (135 :: nums ((L.take k).map Int.toNat))) ∧ Hid ((L.take k).any (fun x => decide (x < 0)) = false) ∧ Below B.heap.size B wr) (fun _ i _ => 7 - (intOf i).toNat)
  case atStart => exact ⟨0, Nat.zero_le _, rfl, rfl, rfl, Below.refl _ _⟩
  case round =>
    obtain ⟨k, hk, rfl, rfl, HN, hb⟩ := hrel
    by_cases hlt : k < 7
    · have hlt' : (k : Int) < 7 := by omega
      have hi0 : (0 : Int) ≤ (k : Int) := by omega
      have cK := (hb.cell (p := ⟨gf, k, none⟩) hlt0).trans (HCE.out k hlt)
      have hfk := HF.out k hlt
      have HST := Go.Proofs.YtpaakikgfojplaaGreat.hid (low_take L k (by omega) HN.out)
      have HNT := Go.Proofs.YtpaakikgfojplaaGreat.hid (nums_take L k (by omega))
      have HLA := Go.Proofs.YtpaakikgfojplaaGreat.hid (low_any L k (by omega))
      have hnl := nums_le ((L.take k).map Int.toNat)
      have hnl2 : ((L.take k).map Int.toNat).length ≤ 7 := by simp; omega
      generalize nums ((L.take k).map Int.toNat) = NT at *
      generalize L.getD k 0 = x at *
      by_cases hx : x < 0
      · have hlo : lo = true := HL.out.trans (HLA.out hx)
        have hT : T = [] := by rw [HT.out, hlo]; rfl
        have hE : E = 1 := by rw [HE.out, hlo]; rfl
        have HR := Go.Proofs.YtpaakikgfojplaaGreat.hid (HBB.out.trans (hb.mono HBB.out.size))
        subst hT
        subst hE
        clear HT HE HL HC HF HN HST HNT HLA hb HCE
        go_wp2
        go_ret2
        exact ⟨rfl, HR.out⟩
      · obtain ⟨m, rfl⟩ : ∃ m : Nat, x = (m : Int) := ⟨x.toNat, by omega⟩
        rw [Int.toNat_natCast] at HNT
        have hml := num_le m
        have hif : ¬ 9223372036854775807 < (txt (135 :: NT)).size + (txt (num m)).size := by rw [txt_size, txt_size, List.length_cons]; omega
        have HAP := Go.Proofs.YtpaakikgfojplaaGreat.hid (show txt (135 :: NT) ++ txt (num m) = txt (135 :: (NT ++ num m)) by rw [txt_app]; rfl)
        have HN2 : Hid ((L.take (k + 1)).any (fun x => decide (x < 0)) = false) := HST.out.trans (by simp)
        clear HST HLA HN
        go_wp2_with fail
        refine (number_is m _ (by omega)).mono ?_
        rintro e w2 ⟨rfl, hb2⟩
        have HB2 := Go.Proofs.YtpaakikgfojplaaGreat.hid (hb.trans (hb2.mono hb.size))
        clear hb hb2 cK
        generalize txt (num m) = TM at *
        go_wp2
        go_roundw
        case rel => exact ⟨k + 1, by omega, by go_num, by rw [HNT.out]; exact congrArg Value.string HAP.out, HN2, HB2.out⟩
        case measure => simp [intOf]; omega
    · have hk7 : k = 7 := by omega
      subst hk7
      have hlo : lo = false := by have := HN.out; rw [List.take_of_length_le (by omega)] at this; exact HL.out.trans this
      have hT : T = 135 :: nums ((L.take 7).map Int.toNat) := by rw [HT.out, hlo, HC.out, List.take_of_length_le (by omega)]; rfl
      have hE : E = 0 := by rw [HE.out, hlo]; rfl
      have HR := Go.Proofs.YtpaakikgfojplaaGreat.hid (HBB.out.trans (hb.mono HBB.out.size))
      rw [← hT]
      subst hE
      clear HT HE HL HC HF HN hb HCE hT
      go_wp2
      go_ret2
      exact ⟨rfl, HR.out⟩

end Go.Proofs.YtpaakikgfojplaaGreat

/-
  THE WALKS of the program's texts: one number is read; Decode.
-/
namespace Go.Proofs.YtpaakikgfojplaaGreat
open Go.RowKit Num Bk Tx
set_option linter.unusedVariables false

theorem txt_index (t : List UInt8) (i : Nat) (w : World) (h : i < t.length) : (Instr.index 9 (.string (txt t)) (.int .i64 (i : Int))).run Tryz.prog w = .ok (.int .u8 ((t.getD i 0).toNat : Int)) w := by
  rw [run_index_string w 9 (txt t) .i64 (i : Int) Tryz.underlying9, dif_pos ⟨by omega, by rw [txt_size]; omega⟩]
  have e : (txt t)[(i : Int).toNat]'(by rw [txt_size]; omega) = t.getD i 0 := by
    show (txt t).data[(i : Int).toNat]'_ = _
    simp [txt, List.getD, h]
  rw [e]

theorem txt_get (t : List UInt8) (i : Nat) (h : i < (txt t).size) : (txt t)[i] = t.getD i 0 := by
  have h' : i < t.length := by rwa [txt_size] at h
  show (txt t).data[i]'_ = _
  simp [txt, List.getD, h']
theorem wrap_two (v tb : Nat) (h : tb < 256) (hv : v * 256 + tb < 9223372036854775808) : wrap64 ((v : Int) * 256 + wrap64 (tb : Int)) = ((v * 256 + tb : Nat) : Int) := by
  have e1 : wrap64 (tb : Int) = (tb : Int) := by unfold wrap64; omega
  rw [e1]
  unfold wrap64
  omega
theorem three_eq {a b c x y z : Int} (h1 : a = x) (h2 : b = y) (h3 : c = z) : Ending.returned (.tuple #[.int .i64 a, .int .i64 b, .int .i64 c]) = Ending.returned (.tuple #[.int .i64 x, .int .i64 y, .int .i64 z]) := by subst h1; subst h2; subst h3; rfl
/-- What read tells of the text behind a place. -/
def rdN (o : Option (Nat × List UInt8)) : Int := match o with | none => 0 | some (n, _) => n
def rdA (len : Nat) (o : Option (Nat × List UInt8)) : Int := match o with | none => 0 | some (_, r) => (len - r.length : Nat)
def rdE (o : Option (Nat × List UInt8)) : Int := match o with | none => 13 | some _ => 0

theorem rd_cons (b : UInt8) (r : List UInt8) : rd (b :: r) = if 27 < b.toNat ∨ r.length < sz b.toNat then none else if sz b.toNat = 8 ∧ 128 ≤ (r.getD 0 0).toNat then none else if kind (if sz b.toNat = 0 then b.toNat else val (r.take (sz b.toNat))) ≠ b.toNat then none else some (if sz b.toNat = 0 then b.toNat else val (r.take (sz b.toNat)), r.drop (sz b.toNat)) := rfl
theorem drop_cons (t : List UInt8) (i : Nat) (h : i < t.length) : t.drop i = t.getD i 0 :: t.drop (i + 1) := by
  rw [List.drop_eq_getElem_cons h]
  simp [List.getD, h]
theorem drop_getD (t : List UInt8) (i j : Nat) : (t.drop i).getD j 0 = t.getD (i + j) 0 := by simp [List.getD]
theorem val_take (r : List UInt8) (k : Nat) (h : k < r.length) : val (r.take (k + 1)) = val (r.take k) * 256 + (r.getD k 0).toNat := by
  rw [List.take_succ_eq_append_getElem h, val_snoc]
  simp [List.getD, h]
theorem val_take_lt (r : List UInt8) (k : Nat) (h : k ≤ r.length) : val (r.take k) < 256 ^ k := by
  have := val_lt (r.take k)
  rwa [List.length_take, Nat.min_eq_left h] at this
theorem val_top (r : List UInt8) (k : Nat) (hk : 1 ≤ k) (h : k ≤ r.length) (hb : (r.getD 0 0).toNat < 128) : val (r.take k) < 128 * 256 ^ (k - 1) := by
  obtain ⟨j, rfl⟩ : ∃ j, k = j + 1 := ⟨k - 1, by omega⟩
  match r, h with
  | c :: q, h =>
    simp at h hb
    rw [List.take_succ_cons, val_cons, List.length_take, Nat.min_eq_left h]
    have h1 := val_take_lt q j h
    have h2 : c.toNat * 256 ^ j ≤ 127 * 256 ^ j := Nat.mul_le_mul_right _ (by omega)
    simp
    omega

set_option maxHeartbeats 1600000 in
set_option maxRecDepth 1000000 in
theorem tread_is (t : List UInt8) (i : Nat) (w : World) (ht : t.length ≤ maxLen) (hi : i ≤ maxLen) :
    Calls Tryz.prog 86 #[.string (txt t), .int .i64 (i : Int)] w fun e w' => e = .returned (.tuple #[.int .i64 (rdN (rd (t.drop i))), .int .i64 (rdA t.length (rd (t.drop i))), .int .i64 (rdE (rd (t.drop i)))]) ∧ w = w' := by
  have HML := Go.Proofs.YtpaakikgfojplaaGreat.hid (show maxLen = 9223372036854775807 from rfl)
  have hl : t.length ≤ 9223372036854775807 := by rw [← HML.out]; exact ht
  have hi' : i ≤ 9223372036854775807 := by rw [← HML.out]; exact hi
  clear ht hi HML
  generalize hO : rd (t.drop i) = O at *
  have HO := Go.Proofs.YtpaakikgfojplaaGreat.hid hO
  clear hO
  have hsz := txt_size t
  by_cases h1 : i < t.length
  · have b0 : ¬ (i : Int) < 0 := by omega
    have b1 : ¬ (t.length : Int) ≤ (i : Int) := by omega
    have hx := fun W => txt_index t i W h1
    rw [drop_cons t i h1, rd_cons] at HO
    have HT1 := Go.Proofs.YtpaakikgfojplaaGreat.hid (fun j (hj : i + j < t.length) W => txt_index t (i + j) W hj)
    have hrl : (t.drop (i + 1)).length = t.length - (i + 1) := List.length_drop ..
    have hgd := fun j => drop_getD t (i + 1) j
    have HGD := Go.Proofs.YtpaakikgfojplaaGreat.hid hgd
    clear hgd
    have hbl := (t.getD i 0).toNat_lt
    generalize t.getD i 0 = b at *
    generalize t.drop (i + 1) = r at *
    generalize hf : b.toNat = f at *
    have hs8 : sz f ≤ 8 := by unfold sz; repeat' split
                              all_goals omega
    clear hf
    go_enter Tryz.func86, Tryz.ntmps86
    go_wp2_with fail
    refine (behind_is f _).mono ?_
    rintro e w1 ⟨rfl, rfl⟩
    generalize hZ : sz f = Z at *
    have HS4 : Hid (Z ≠ 8 → Z ≤ 4) := by
      rw [← hZ]
      unfold Hid sz
      repeat' split
      all_goals omega
    clear hZ
    by_cases h2 : 27 < f ∨ r.length < Z
    · have hO : O = none := HO.out.symm.trans (if_pos h2)
      subst hO
      clear HO HS4
      by_cases h3 : 27 < f
      · have c1 : (27 : Int) < (f : Int) := by omega
        go_wp2
        go_ret3
        exact ⟨rfl, rfl⟩
      · have c1 : ¬ (27 : Int) < (f : Int) := by omega
        have c2 : (t.length : Int) - (i : Int) - 1 < (Z : Int) := by omega
        go_wp2
        go_ret3
        exact ⟨rfl, rfl⟩
    · have HO2 := Go.Proofs.YtpaakikgfojplaaGreat.hid (HO.out.symm.trans (if_neg h2))
      clear HO
      have c1 : ¬ (27 : Int) < (f : Int) := by omega
      have c2 : ¬ (t.length : Int) - (i : Int) - 1 < (Z : Int) := by omega
      have hzr : Z ≤ r.length := by omega
      by_cases h3 : Z = 8 ∧ 128 ≤ (r.getD 0 0).toNat
      · have hO : O = none := HO2.out.trans (if_pos h3)
        obtain ⟨h8, h9⟩ := h3
        have hx1 := fun W => HT1.out 1 (by omega) W
        have hg0 := HGD.out 0
        rw [Nat.add_zero] at hg0
        rw [← hg0] at hx1
        have c3 : (128 : Int) ≤ ((r.getD 0 0).toNat : Int) := by omega
        have hw1 : ((i + 1 : Nat) : Int) = (i : Int) + 1 := by omega
        rw [hw1] at hx1
        subst hO
        subst h8
        clear HO2 HS4 HGD hg0 HT1 hw1
        generalize (r.getD 0 0).toNat = tb at *
        go_wp2
        go_ret3
        exact ⟨rfl, rfl⟩
      · have HO3 := Go.Proofs.YtpaakikgfojplaaGreat.hid (HO2.out.trans (if_neg h3))
        have HV : Hid (Z ≠ 0 → ∀ k, k ≤ Z → val (r.take k) < 9223372036854775808) := by
          intro hz k hk
          by_cases h8 : Z = 8
          · rcases Nat.eq_zero_or_pos k with hk0 | hk0
            · subst hk0; simp [val]
            · have h9 := val_top r k hk0 (by omega) (by
                have : ¬ 128 ≤ (r.getD 0 0).toNat := fun e => h3 ⟨h8, e⟩
                omega)
              have : 256 ^ (k - 1) ≤ 256 ^ 7 := Nat.pow_le_pow_right (by decide) (by omega)
              have h10 : (128 * 256 ^ 7 : Nat) = 9223372036854775808 := by decide
              omega
          · have h9 := val_take_lt r k (by omega)
            have := HS4.out h8
            have : 256 ^ k ≤ 256 ^ 4 := Nat.pow_le_pow_right (by decide) (by omega)
            have h10 : (256 ^ 4 : Nat) = 4294967296 := by decide
            omega
        have HVT := Go.Proofs.YtpaakikgfojplaaGreat.hid (fun k (h : k < r.length) => val_take r k h)
        have HRD := Go.Proofs.YtpaakikgfojplaaGreat.hid (show (r.drop Z).length = r.length - Z from List.length_drop ..)
        have HX : Hid (∀ k, k < Z → ∀ W, (Instr.index 9 (.string (txt t)) (.int .i64 ((i : Int) + ((k + 1 : Nat) : Int)))).run Tryz.prog W = .ok (.int .u8 ((r.getD k 0).toNat : Int)) W) := by
          intro k hk W
          have e := HT1.out (k + 1) (by omega) W
          rw [show ((i + (k + 1) : Nat) : Int) = (i : Int) + ((k + 1 : Nat) : Int) by omega] at e
          rw [HGD.out k, show i + 1 + k = i + (k + 1) by omega]
          exact e
        have HGR : Hid (∀ k, r.getD k 0 = t.getD (i + 1 + k) 0) := HGD.out
        have HBT : Hid (∀ k, (r.getD k 0).toNat < 256) := fun k => (r.getD k 0).toNat_lt
        have HX1 := Go.Proofs.YtpaakikgfojplaaGreat.hid (fun (h8 : Z = 8) => HX.out 0 (by omega))
        have HC3 := Go.Proofs.YtpaakikgfojplaaGreat.hid (show Z = 8 → ¬ (128 : Int) ≤ ((r.getD 0 0).toNat : Int) from fun h8 e => h3 ⟨h8, by omega⟩)
        clear h3 h2 HO2 HS4 HGD HT1
        by_cases h8 : Z = 8
        · have hx1 := fun W => HX1.out h8 W
          have c3 := HC3.out h8
          rw [show (i : Int) + ((0 + 1 : Nat) : Int) = (i : Int) + 1 from rfl] at hx1
          have hz0 : ¬ Z = 0 := by omega
          clear HX1 HC3
          generalize (r.getD 0 0).toNat = t0 at hx1 c3
          subst h8
          go_upto_region 12 with fail
          clear hx1 c3
          go_wp2
          go_loopw [9, 10] (fun n i wr => ∃ k : Nat, k ≤ 8 ∧ n = .int .i64 ((val (r.take k) : Nat) : Int) ∧ i = .int .i64 ((k + 1 : Nat) : Int) ∧ wr = w) (fun _ i _ => 8 + 1 - (intOf i).toNat)
          case atStart => exact ⟨0, Nat.zero_le _, rfl, rfl, rfl⟩
          case round =>
            obtain ⟨k, hk, rfl, rfl, rfl⟩ := hrel
            have hvk := HV.out hz0 k hk
            by_cases hlt : k < 8
            · have hle : ((k + 1 : Nat) : Int) ≤ (8 : Int) := by omega
              have hxk := HX.out k hlt wr
              have hbk := HBT.out k
              have HGE : Hid (∀ h : i + (k + 1) < (txt t).size, ((txt t)[i + (k + 1)]).toNat = (r.getD k 0).toNat) := fun h => by rw [txt_get, HGR.out, show i + 1 + k = i + (k + 1) by omega]
              have hv1 := HV.out hz0 (k + 1) (by omega)
              have hvt := HVT.out k (by omega)
              rw [hvt] at hv1
              have HVT1 := Go.Proofs.YtpaakikgfojplaaGreat.hid hvt
              clear hvt
              generalize val (r.take k) = v at *
              generalize (r.getD k 0).toNat = tb at *
              go_wp2
              go_roundw
              case rel => exact ⟨k + 1, by omega, by rw [HVT1.out]; simp only [HGE.out]; exact congrArg (Value.int .i64) (wrap_two v tb hbk hv1), by go_num, trivial⟩
              case measure => simp [intOf]; omega
            · have hke : k = 8 := by omega
              have hle : ¬ ((k + 1 : Nat) : Int) ≤ (8 : Int) := by omega
              have HO4 := Go.Proofs.YtpaakikgfojplaaGreat.hid HO3.out
              rw [if_neg hz0] at HO4
              rw [hke] at hvk hle ⊢
              have hrd := HRD.out
              generalize val (r.take 8) = v at *
              generalize r.drop 8 = rr at *
              go_wp2_with fail
              refine (firstByte_is v _).mono ?_
              rintro e w1 ⟨rfl, rfl⟩
              by_cases hkf : kind v = f
              · have hO : O = some (v, rr) := HO4.out.trans (if_neg (by rw [hkf]; simp))
                rw [hkf]
                subst hO
                have HAA : Hid (rdA t.length (some (v, rr)) = (i : Int) + 1 + (8 : Int)) := by
                  show ((t.length - rr.length : Nat) : Int) = _
                  omega
                have HAN : Hid (rdN (some (v, rr)) = (v : Int)) := rfl
                have HAE : Hid (rdE (some (v, rr)) = 0) := rfl
                clear HO3 HO4 HV HVT HRD HX HBT hrd hkf
                go_wp2
                go_ret3
                exact ⟨three_eq HAN.out.symm HAA.out.symm HAE.out.symm, rfl⟩
              · have hO : O = none := HO4.out.trans (if_pos hkf)
                have hkb : ((kind v : Int) == (f : Int)) = false := by rw [beq_eq_false_iff_ne]; omega
                have hkc : ((kind v : Int) != (f : Int)) = true := by rw [bne_iff_ne]; omega
                subst hO
                clear HO3 HO4 HV HVT HRD HX HBT hrd
                generalize kind v = kv at *
                go_wp2
                go_ret3
                exact ⟨rfl, rfl⟩
        · clear HX1 HC3
          by_cases hz0 : Z = 0
          · subst hz0
            have HO4 := Go.Proofs.YtpaakikgfojplaaGreat.hid HO3.out
            rw [if_pos rfl] at HO4
            have hrd := HRD.out
            rw [List.drop_zero] at HO4 hrd
            clear HRD HV HVT HX HBT HO3
            go_upto_region 12 with fail
            go_wp2
            go_loopw [9, 10] (fun n i wr => n = .int .i64 (f : Int) ∧ i = .int .i64 1 ∧ wr = w) (fun _ _ _ => 0)
            case atStart => exact ⟨rfl, rfl, rfl⟩
            case round =>
              obtain ⟨rfl, rfl, rfl⟩ := hrel
              go_wp2_with fail
              refine (firstByte_is f _).mono ?_
              rintro e w1 ⟨rfl, rfl⟩
              by_cases hkf : kind f = f
              · have hO : O = some (f, r) := HO4.out.trans (if_neg (by rw [hkf]; simp))
                rw [hkf]
                subst hO
                have HAA : Hid (rdA t.length (some (f, r)) = (i : Int) + 1) := by
                  show ((t.length - r.length : Nat) : Int) = _
                  omega
                have HAN : Hid (rdN (some (f, r)) = (f : Int)) := rfl
                have HAE : Hid (rdE (some (f, r)) = 0) := rfl
                clear HO4 hrd hkf
                go_wp2
                go_ret3
                exact ⟨three_eq HAN.out.symm HAA.out.symm HAE.out.symm, rfl⟩
              · have hO : O = none := HO4.out.trans (if_pos hkf)
                have hkb : ((kind f : Int) == (f : Int)) = false := by rw [beq_eq_false_iff_ne]; omega
                have hkc : ((kind f : Int) != (f : Int)) = true := by rw [bne_iff_ne]; omega
                subst hO
                clear HO4 hrd
                generalize kind f = kv at *
                go_wp2
                go_ret3
                exact ⟨rfl, rfl⟩
          · have hzb : ((Z : Int) == 0) = false := by rw [beq_eq_false_iff_ne]; omega
            have h8b : ((Z : Int) == 8) = false := by rw [beq_eq_false_iff_ne]; omega
            have HZ0 := Go.Proofs.YtpaakikgfojplaaGreat.hid hz0
            clear hz0 h8
            go_upto_region 12 with fail
            go_wp2
            go_loopw [9, 10] (fun n i wr => ∃ k : Nat, k ≤ Z ∧ n = .int .i64 ((val (r.take k) : Nat) : Int) ∧ i = .int .i64 ((k + 1 : Nat) : Int) ∧ wr = w) (fun _ i _ => Z + 1 - (intOf i).toNat)
            case atStart => exact ⟨0, Nat.zero_le _, rfl, rfl, rfl⟩
            case round =>
              obtain ⟨k, hk, rfl, rfl, rfl⟩ := hrel
              have hvk := HV.out HZ0.out k hk
              by_cases hlt : k < Z
              · have hle : ((k + 1 : Nat) : Int) ≤ (Z : Int) := by omega
                have hxk := HX.out k hlt wr
                have hbk := HBT.out k
                have HGE : Hid (∀ h : i + (k + 1) < (txt t).size, ((txt t)[i + (k + 1)]).toNat = (r.getD k 0).toNat) := fun h => by rw [txt_get, HGR.out, show i + 1 + k = i + (k + 1) by omega]
                have hv1 := HV.out HZ0.out (k + 1) (by omega)
                have hvt := HVT.out k (by omega)
                rw [hvt] at hv1
                have HVT1 := Go.Proofs.YtpaakikgfojplaaGreat.hid hvt
                clear hvt
                generalize val (r.take k) = v at *
                generalize (r.getD k 0).toNat = tb at *
                go_wp2
                go_roundw
                case rel => exact ⟨k + 1, by omega, by rw [HVT1.out]; simp only [HGE.out]; exact congrArg (Value.int .i64) (wrap_two v tb hbk hv1), by go_num, trivial⟩
                case measure => simp [intOf]; omega
              · have hke : k = Z := by omega
                have hle : ¬ ((k + 1 : Nat) : Int) ≤ (Z : Int) := by omega
                have HO4 := Go.Proofs.YtpaakikgfojplaaGreat.hid HO3.out
                rw [if_neg HZ0.out] at HO4
                rw [hke] at hvk hle ⊢
                have hrd := HRD.out
                generalize val (r.take Z) = v at *
                generalize r.drop Z = rr at *
                go_wp2_with fail
                refine (firstByte_is v _).mono ?_
                rintro e w1 ⟨rfl, rfl⟩
                by_cases hkf : kind v = f
                · have hO : O = some (v, rr) := HO4.out.trans (if_neg (by rw [hkf]; simp))
                  rw [hkf]
                  subst hO
                  have HAA : Hid (rdA t.length (some (v, rr)) = (i : Int) + 1 + (Z : Int)) := by
                    show ((t.length - rr.length : Nat) : Int) = _
                    omega
                  have HAN : Hid (rdN (some (v, rr)) = (v : Int)) := rfl
                  have HAE : Hid (rdE (some (v, rr)) = 0) := rfl
                  clear HO3 HO4 HV HVT HRD HX HBT hrd hkf
                  go_wp2
                  go_ret3
                  exact ⟨three_eq HAN.out.symm HAA.out.symm HAE.out.symm, rfl⟩
                · have hO : O = none := HO4.out.trans (if_pos hkf)
                  have hkb : ((kind v : Int) == (f : Int)) = false := by rw [beq_eq_false_iff_ne]; omega
                  have hkc : ((kind v : Int) != (f : Int)) = true := by rw [bne_iff_ne]; omega
                  subst hO
                  clear HO3 HO4 HV HVT HRD HX HBT hrd
                  generalize kind v = kv at *
                  go_wp2
                  go_ret3
                  exact ⟨rfl, rfl⟩
  · have hO : O = none := by rw [← HO.out, List.drop_of_length_le (by omega)]; rfl
    have b0 : ¬ (i : Int) < 0 := by omega
    have b1 : (t.length : Int) ≤ (i : Int) := by omega
    subst hO
    clear HO h1
    go_enter Tryz.func86, Tryz.ntmps86
    go_wp2
    go_ret3
    exact ⟨rfl, rfl⟩

end Go.Proofs.YtpaakikgfojplaaGreat

