import Derived.Test.YtpaakikgfojplabCM6
import Derived.Test.YtpaakikgfojplabCM20
import Derived.Deep.RegionHeld3
import Derived.BigRegion
import Derived.Deep.DeepCutAuto
import Derived.Laws.IdiomStrings
import Derived.Test.YtpaakikgfojplabCM10
/-
  THE WALKS of the program's texts: a number is written.
-/
namespace Go.Proofs.Ytpaakikgfojplab
open Go.RowKit Num Bk Tx
set_option linter.unusedVariables false

/-- A text. -/
def txt (l : List UInt8) : ByteArray := ⟨l.toArray⟩
theorem txt_size (l : List UInt8) : (txt l).size = l.length := by show l.toArray.size = _; simp
theorem txt_list (l : List UInt8) : (txt l).toList = l := ByteArray.toList_mk l
theorem txt_app (a b : List UInt8) : txt a ++ txt b = txt (a ++ b) := by
  unfold txt
  rw [ByteArray.mk_append_mk]
theorem txt_conv (w : World) (b cap : Nat) (v : Int) (h0 : 0 ≤ v) (h1 : v ≤ 255) (hc : w.cell? ⟨b, 0, none⟩ = some (.int .u8 v)) : (convert 116 9 (.slice (some ⟨b, 0, none⟩) 1 cap)).run Try.prog w = .ok (.string (txt [UInt8.ofNat v.toNat])) w := by
  refine run_convert_bytes_back w 116 9 5 ⟨b, 0, none⟩ cap [UInt8.ofNat v.toNat] Try.underlying116 Try.underlying5 Try.underlying9 ?_
  intro j hj
  have : j = 0 := by simpa using hj
  subst this
  have e : ((UInt8.ofNat v.toNat).toNat : Int) = v := by
    rw [UInt8.toNat_ofNat']
    omega
  show w.cell? ⟨b, 0, none⟩ = some (.int .u8 ((UInt8.ofNat v.toNat).toNat : Int))
  rw [e]
  exact hc
theorem dig_cons (n k : Nat) : dig n (k + 1) = UInt8.ofNat (n / 256 ^ k % 256) :: dig n k := by
  induction k generalizing n with
  | zero => simp [dig]
  | succ k ih =>
    rw [dig, ih]
    have e : n / 256 / 256 ^ k = n / 256 ^ (k + 1) := by rw [Nat.div_div_eq_div_mul, Nat.pow_succ, Nat.mul_comm]
    rw [e]
    conv => rhs; rw [dig]
    rfl

set_option maxHeartbeats 400000 in
theorem firstByte_is (n : Nat) (w : World) :
    Calls Try.prog 81 #[.int .i64 (n : Int)] w fun e w' => e = .returned (.int .i64 (kind n : Nat)) ∧ w = w' := by
  have HK := Go.Proofs.Ytpaakikgfojplab.hid (show kind n = _ from rfl)
  have hk : kind n = if n < 24 then n else if n < 256 then 24 else if n < 65536 then 25 else if n < 4294967296 then 26 else 27 := rfl
  generalize kind n = K at *
  clear HK
  by_cases h1 : n < 24
  · rw [if_pos h1] at hk
    subst hk
    have g1 : (K : Int) < 24 := by omega
    clear h1
    go_enter Try.func81, Try.ntmps81
    go_wp2
    go_ret
    exact ⟨rfl, rfl⟩
  · rw [if_neg h1] at hk
    have g1 : ¬ (n : Int) < 24 := by omega
    by_cases h2 : n < 256
    · rw [if_pos h2] at hk
      subst hk
      have g2 : (n : Int) < 256 := by omega
      clear h1 h2
      go_enter Try.func81, Try.ntmps81
      go_wp2
      go_ret
      exact ⟨rfl, rfl⟩
    · rw [if_neg h2] at hk
      have g2 : ¬ (n : Int) < 256 := by omega
      by_cases h3 : n < 65536
      · rw [if_pos h3] at hk
        subst hk
        have g3 : (n : Int) < 65536 := by omega
        clear h1 h2 h3
        go_enter Try.func81, Try.ntmps81
        go_wp2
        go_ret
        exact ⟨rfl, rfl⟩
      · rw [if_neg h3] at hk
        have g3 : ¬ (n : Int) < 65536 := by omega
        by_cases h4 : n < 4294967296
        · rw [if_pos h4] at hk
          subst hk
          have g4 : (n : Int) < 4294967296 := by omega
          clear h1 h2 h3 h4
          go_enter Try.func81, Try.ntmps81
          go_wp2
          go_ret
          exact ⟨rfl, rfl⟩
        · rw [if_neg h4] at hk
          subst hk
          have g4 : ¬ (n : Int) < 4294967296 := by omega
          clear h1 h2 h3 h4
          go_enter Try.func81, Try.ntmps81
          go_wp2
          go_ret
          exact ⟨rfl, rfl⟩

set_option maxHeartbeats 400000 in
theorem behind_is (f : Nat) (w : World) :
    Calls Try.prog 82 #[.int .i64 (f : Int)] w fun e w' => e = .returned (.int .i64 (sz f : Nat)) ∧ w = w' := by
  have hk : sz f = if f = 24 then 1 else if f = 25 then 2 else if f = 26 then 4 else if f = 27 then 8 else 0 := rfl
  generalize sz f = K at *
  by_cases h1 : f = 24
  · rw [if_pos h1] at hk
    subst hk; subst h1
    go_enter Try.func82, Try.ntmps82
    go_wp2
    go_ret
    exact ⟨rfl, rfl⟩
  · rw [if_neg h1] at hk
    by_cases h2 : f = 25
    · rw [if_pos h2] at hk
      subst hk; subst h2
      clear h1
      go_enter Try.func82, Try.ntmps82
      go_wp2
      go_ret
      exact ⟨rfl, rfl⟩
    · rw [if_neg h2] at hk
      by_cases h3 : f = 26
      · rw [if_pos h3] at hk
        subst hk; subst h3
        clear h1 h2
        go_enter Try.func82, Try.ntmps82
        go_wp2
        go_ret
        exact ⟨rfl, rfl⟩
      · rw [if_neg h3] at hk
        by_cases h4 : f = 27
        · rw [if_pos h4] at hk
          subst hk; subst h4
          clear h1 h2 h3
          go_enter Try.func82, Try.ntmps82
          go_wp2
          go_ret
          exact ⟨rfl, rfl⟩
        · rw [if_neg h4] at hk
          subst hk
          have g1 : ((f : Int) == 24) = false := by rw [beq_eq_false_iff_ne]; omega
          have g2 : ((f : Int) == 25) = false := by rw [beq_eq_false_iff_ne]; omega
          have g3 : ((f : Int) == 26) = false := by rw [beq_eq_false_iff_ne]; omega
          have g4 : ((f : Int) == 27) = false := by rw [beq_eq_false_iff_ne]; omega
          clear h1 h2 h3 h4
          go_enter Try.func82, Try.ntmps82
          go_wp2
          go_ret
          exact ⟨rfl, rfl⟩

theorem below_tx {w A : World} {cs : Array Value} {t : TypeId} (hA : w.alloc (.cells cs t) = A) : A.heap.size = w.heap.size + 1 ∧ Below w.heap.size w A ∧ A.heap[w.heap.size]? = some (.cells cs t (0, 0)) := by
  subst hA
  exact ⟨by simp, (Below.refl _ _).alloc (Nat.le_refl _) _, heap_alloc_new w _⟩

theorem below_tx2 {w A : World} {cs ds : Array Value} {t u : TypeId} (hA : (w.alloc (.cells cs t)).alloc (.cells ds u) = A) : A.heap.size = w.heap.size + 2 ∧ Below w.heap.size w A ∧ A.heap[w.heap.size]? = some (.cells cs t (0, 0)) ∧ A.heap[w.heap.size + 1]? = some (.cells ds u (0, 0)) := by
  obtain ⟨h1, h2, h3⟩ := below_tx (w := w) (cs := cs) (t := t) rfl
  obtain ⟨g1, g2, g3⟩ := below_tx (w := w.alloc (.cells cs t)) (cs := ds) (t := u) rfl
  subst hA
  refine ⟨by omega, h2.trans (g2.mono (by omega)), (g2.block _ (by omega)).trans h3, ?_⟩
  rw [h1] at g3
  exact g3

theorem txt_new (w : World) (v : Int) (h0 : 0 ≤ v) (h1 : v ≤ 255) (cap : Nat) : (convert 116 9 (.slice (some ⟨w.heap.size, 0, none⟩) 1 cap)).run Try.prog (w.alloc (.cells #[.int .u8 v] 5)) = .ok (.string (txt [UInt8.ofNat v.toNat])) (w.alloc (.cells #[.int .u8 v] 5)) :=
  txt_conv _ _ cap v h0 h1 (cell_of_cells (j := 0) (heap_alloc_new w _) rfl)

set_option maxHeartbeats 800000 in
set_option maxRecDepth 1000000 in
theorem write_is (n : Nat) (w : World) (hn : n < 9223372036854775808) :
    Calls Try.prog 73 #[.int .i64 (n : Int)] w fun e w' => e = .returned (.string (txt (num n))) ∧ Below w.heap.size w w' := by
  have hkl := kind_le n
  have HN := Go.Proofs.Ytpaakikgfojplab.hid (show num n = UInt8.ofNat (kind n) :: dig n (sz (kind n)) from rfl)
  have hz8 : sz (kind n) ≤ 8 := by unfold sz; repeat' split
                                   all_goals omega
  go_enter Try.func73, Try.ntmps73
  go_wp2_with fail
  refine (firstByte_is n _).mono ?_
  rintro e w1 ⟨rfl, rfl⟩
  go_wp2_with fail
  refine (behind_is (kind n) _).mono ?_
  rintro e w1 ⟨rfl, rfl⟩
  generalize kind n = K at *
  generalize hZ : sz K = Z at *
  clear hZ
  go_wp2
  rw [show (ByteArray.mk #[]) = txt (dig n 0) from rfl]
  go_loopw [0, 4, 5] (fun m t l wr => ∃ k : Nat, k ≤ Z ∧ m = .int .i64 ((n / 256 ^ k : Nat) : Int) ∧ t = .string (txt (dig n k)) ∧ l = .int .i64 ((Z - k : Nat) : Int) ∧ Below w.heap.size w wr) (fun _ _ l _ => (intOf l).toNat)
  case atStart => exact ⟨0, Nat.zero_le _, by simp, rfl, rfl, Below.refl _ _⟩
  case round =>
    obtain ⟨k, hk, rfl, rfl, rfl, hb⟩ := hrel
    have hdl := dig_len n k
    by_cases hlt : k < Z
    · have hlt' : (0 : Int) < ((Z - k : Nat) : Int) := by omega
      have hq : n / 256 ^ k < 9223372036854775808 := Nat.lt_of_le_of_lt (Nat.div_le_self _ _) hn
      have HD := Go.Proofs.Ytpaakikgfojplab.hid (dig_cons n k)
      have HQ := Go.Proofs.Ytpaakikgfojplab.hid (show n / 256 ^ k / 256 = n / 256 ^ (k + 1) by rw [Nat.div_div_eq_div_mul, Nat.pow_succ])
      generalize n / 256 ^ k = q at *
      have hcv := txt_new wr ((q : Int) % 256) (by omega) (by omega) 1
      have hif : ¬ 9223372036854775807 < (txt [UInt8.ofNat ((q : Int) % 256).toNat]).size + (txt (dig n k)).size := by rw [txt_size, txt_size, List.length_singleton]; omega
      have HB := Go.Proofs.Ytpaakikgfojplab.hid (hb.alloc hb.size (.cells #[.int .u8 ((q : Int) % 256)] 5))
      have HE : Hid (txt [UInt8.ofNat (q % 256)] ++ txt (dig n k) = txt (dig n (k + 1))) := by
        unfold Hid
        rw [txt_app, HD.out]
        rfl
      clear HD hb
      go_wp2
      go_roundw
      case rel => exact ⟨k + 1, by omega, by rw [← HQ.out]; first | go_num | (congr 1; omega), congrArg Value.string HE.out, by go_num, HB.out⟩
      case measure => simp [intOf]; omega
    · have hkz : k = Z := by omega
      subst hkz
      have hcv := txt_new wr (K : Int) (by omega) (by omega) 1
      have hif : ¬ 9223372036854775807 < (txt [UInt8.ofNat ((K : Int)).toNat]).size + (txt (dig n k)).size := by rw [txt_size, txt_size, List.length_singleton]; omega
      have HB := Go.Proofs.Ytpaakikgfojplab.hid (hb.alloc hb.size (.cells #[.int .u8 (K : Int)] 5))
      have HE : Hid (txt [UInt8.ofNat K] ++ txt (dig n k) = txt (num n)) := by
        unfold Hid
        rw [txt_app, HN.out]
        rfl
      have hw : ((K : Int) % 256) = (K : Int) := by omega
      clear hb HN
      go_wp2
      go_ret
      exact ⟨congrArg (fun b => Ending.returned (Value.string b)) HE.out, HB.out⟩

end Go.Proofs.Ytpaakikgfojplab

/-
  THE WALKS of the program's texts: Encode.
-/
namespace Go.Proofs.Ytpaakikgfojplab
open Go.RowKit Num Bk Tx
set_option linter.unusedVariables false

/-- What Encode tells. -/
def encT (h : Hdr) : List UInt8 := if low h then [] else enc h
def encE (h : Hdr) : Int := if low h then 1 else 0

theorem flds_length (h : Hdr) : (flds h).length = 7 := rfl
theorem low_take (L : List Int) (k : Nat) (h : k < L.length) (hn : (L.take k).any (fun x => decide (x < 0)) = false) : (L.take (k + 1)).any (fun x => decide (x < 0)) = decide (L.getD k 0 < 0) := by
  rw [List.take_succ_eq_append_getElem h, List.any_append, hn]
  simp [List.getD, h]
theorem low_any (L : List Int) (k : Nat) (h : k < L.length) (hn : L.getD k 0 < 0) : L.any (fun x => decide (x < 0)) = true := by
  rw [List.any_eq_true]
  refine ⟨L.getD k 0, ?_, by simpa using hn⟩
  rw [show L.getD k 0 = L[k] from by simp [List.getD, h]]
  exact List.getElem_mem h
theorem nums_take (L : List Int) (k : Nat) (h : k < L.length) : nums ((L.take (k + 1)).map Int.toNat) = nums ((L.take k).map Int.toNat) ++ num (L.getD k 0).toNat := by
  rw [List.take_succ_eq_append_getElem h, List.map_append]
  show nums (_ ++ [L[k].toNat]) = _
  rw [nums_snoc]
  simp [List.getD, h]

set_option maxHeartbeats 1600000 in
set_option maxRecDepth 1000000 in
theorem tencode_is (h : Hdr) (w : World) (hf : Fits h) :
    Calls Try.prog 54 #[hdrV h] w fun e w' => e = .returned (.tuple #[.string (txt (encT h)), .int .i64 (encE h)]) ∧ Below w.heap.size w w' := by
  have HT := Go.Proofs.Ytpaakikgfojplab.hid (show encT h = if low h then [] else enc h from rfl)
  have HE := Go.Proofs.Ytpaakikgfojplab.hid (show encE h = if low h then 1 else 0 from rfl)
  have HL := Go.Proofs.Ytpaakikgfojplab.hid (show low h = (flds h).any fun x => decide (x < 0) from rfl)
  have HC := Go.Proofs.Ytpaakikgfojplab.hid (show enc h = 135 :: nums ((flds h).map Int.toNat) from rfl)
  have HF := Go.Proofs.Ytpaakikgfojplab.hid (fun k (hk : k < 7) => hf ((flds h).getD k 0) (by have hk' : k < (flds h).length := hk; rw [show (flds h).getD k 0 = (flds h)[k] from by simp [List.getD, hk']]; exact List.getElem_mem _))
  have hfl := flds_length h
  have hcl : ∀ k, k < 7 → (#[.int .i64 h.slot, .int .i64 h.pool, .int .i64 h.proof, .int .i64 h.count, .int .i64 h.frm, .int .i64 h.dst, .int .i64 h.amount] : Array Value)[k]? = some (.int .i64 ((flds h).getD k 0)) := by
    intro k hk
    match k, hk with
    | 0, _ => rfl
    | 1, _ => rfl
    | 2, _ => rfl
    | 3, _ => rfl
    | 4, _ => rfl
    | 5, _ => rfl
    | 6, _ => rfl
  have HCL := Go.Proofs.Ytpaakikgfojplab.hid hcl
  clear hcl hf
  generalize encT h = T at *
  generalize encE h = E at *
  generalize low h = lo at *
  generalize enc h = N at *
  generalize flds h = L at *
  obtain ⟨a0, a1, a2, a3, a4, a5, a6⟩ := h
  unfold hdrV
  simp only at HCL ⊢
  go_enter Try.func54, Try.ntmps54
  go_upto_region 2 with fail
  generalize hA : (w.alloc (.cells #[.int .i64 a0, .int .i64 a1, .int .i64 a2, .int .i64 a3, .int .i64 a4, .int .i64 a5, .int .i64 a6] 42)).alloc (.cells #[.int .i64 a0, .int .i64 a1, .int .i64 a2, .int .i64 a3, .int .i64 a4, .int .i64 a5, .int .i64 a6] 115) = A at *
  obtain ⟨hsA, hbA, _, hA2⟩ := below_tx2 hA
  have hsA' : w.heap.size + 2 ≤ A.heap.size := by omega
  clear hA hsA
  have hcv := txt_new A 135 (by omega) (by omega) 1
  go_upto_region 3 with fail
  generalize hB : A.alloc (.cells #[.int .u8 135] 5) = B at *
  obtain ⟨hsB, hbB, _⟩ := below_tx hB
  clear hB hcv
  have hB2 := (hbB.block (w.heap.size + 1) (by omega)).trans hA2
  have HBB := Go.Proofs.Ytpaakikgfojplab.hid (hbA.trans (hbB.mono (by omega)))
  have hcell : ∀ k, k < 7 → B.cell? ⟨w.heap.size + 1, k, none⟩ = some (.int .i64 (L.getD k 0)) := fun k hk => cell_of_cells (j := k) hB2 (HCL.out k hk)
  have HCE := Go.Proofs.Ytpaakikgfojplab.hid hcell
  have hlt0 : w.heap.size + 1 < B.heap.size := lt_of_block hB2
  clear hbA hA2 hbB hB2 hcell HCL hsA' hsB
  go_wp2
  go_loopw [5, 6] (fun t i wr => ∃ k : Nat, k ≤ 7 ∧ i = .int .i64 k ∧ t = .string (txt (135 :: nums ((L.take k).map Int.toNat))) ∧ Hid ((L.take k).any (fun x => decide (x < 0)) = false) ∧ Below B.heap.size B wr) (fun _ i _ => 7 - (intOf i).toNat)
  case atStart => exact ⟨0, Nat.zero_le _, rfl, rfl, rfl, Below.refl _ _⟩
  case round =>
    obtain ⟨k, hk, rfl, rfl, HN, hb⟩ := hrel
    by_cases hlt : k < 7
    · have hlt' : (k : Int) < 7 := by omega
      have hi0 : (0 : Int) ≤ (k : Int) := by omega
      have cK := (hb.cell (p := ⟨w.heap.size + 1, k, none⟩) hlt0).trans (HCE.out k hlt)
      have hfk := HF.out k hlt
      have HST := Go.Proofs.Ytpaakikgfojplab.hid (low_take L k (by omega) HN.out)
      have HNT := Go.Proofs.Ytpaakikgfojplab.hid (nums_take L k (by omega))
      have HLA := Go.Proofs.Ytpaakikgfojplab.hid (low_any L k (by omega))
      have hnl := nums_le ((L.take k).map Int.toNat)
      have hnl2 : ((L.take k).map Int.toNat).length ≤ 7 := by simp; omega
      generalize nums ((L.take k).map Int.toNat) = NT at *
      generalize L.getD k 0 = x at *
      by_cases hx : x < 0
      · have hlo : lo = true := HL.out.trans (HLA.out hx)
        have hT : T = [] := by rw [HT.out, hlo]; rfl
        have hE : E = 1 := by rw [HE.out, hlo]; rfl
        have HR := Go.Proofs.Ytpaakikgfojplab.hid (HBB.out.trans (hb.mono HBB.out.size))
        subst hT
        subst hE
        clear HT HE HL HC HF HN HST HNT HLA hb HCE
        go_wp2
        go_ret2
        exact ⟨rfl, HR.out⟩
      · obtain ⟨m, rfl⟩ : ∃ m : Nat, x = (m : Int) := ⟨x.toNat, by omega⟩
        rw [Int.toNat_natCast] at HNT
        have hml := num_le m
        have hif : ¬ 9223372036854775807 < (txt (135 :: NT)).size + (txt (num m)).size := by rw [txt_size, txt_size, List.length_cons]; omega
        have HAP := Go.Proofs.Ytpaakikgfojplab.hid (show txt (135 :: NT) ++ txt (num m) = txt (135 :: (NT ++ num m)) by rw [txt_app]; rfl)
        have HN2 : Hid ((L.take (k + 1)).any (fun x => decide (x < 0)) = false) := HST.out.trans (by simp)
        clear HST HLA HN
        go_wp2_with fail
        refine (write_is m _ (by omega)).mono ?_
        rintro e w2 ⟨rfl, hb2⟩
        have HB2 := Go.Proofs.Ytpaakikgfojplab.hid (hb.trans (hb2.mono hb.size))
        clear hb hb2 cK
        generalize txt (num m) = TM at *
        go_wp2
        go_roundw
        case rel => exact ⟨k + 1, by omega, by go_num, by rw [HNT.out]; exact congrArg Value.string HAP.out, HN2, HB2.out⟩
        case measure => simp [intOf]; omega
    · have hk7 : k = 7 := by omega
      subst hk7
      have hlo : lo = false := by have := HN.out; rw [List.take_of_length_le (by omega)] at this; exact HL.out.trans this
      have hT : T = 135 :: nums ((L.take 7).map Int.toNat) := by rw [HT.out, hlo, HC.out, List.take_of_length_le (by omega)]; rfl
      have hE : E = 0 := by rw [HE.out, hlo]; rfl
      have HR := Go.Proofs.Ytpaakikgfojplab.hid (HBB.out.trans (hb.mono HBB.out.size))
      rw [← hT]
      subst hE
      clear HT HE HL HC HF HN hb HCE hT
      go_wp2
      go_ret2
      exact ⟨rfl, HR.out⟩

end Go.Proofs.Ytpaakikgfojplab

