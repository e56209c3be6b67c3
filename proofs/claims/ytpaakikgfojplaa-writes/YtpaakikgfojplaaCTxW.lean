import Derived.Test.YtpaakikgfojplaaCFr
import Derived.Test.YtpaakikgfojplaaCTxH
import Derived.Deep.RegionHeld3
import Derived.BigRegion
import Derived.Deep.DeepCutAuto
import Derived.Laws.IdiomStrings
/-
  THE WALKS of the program's texts: a number is written.
-/
namespace Go.Proofs.Ytpaakikgfojplaa
open Go.RowKit Num Bk Tx
set_option linter.unusedVariables false

/-- A text. -/
def txt (l : List UInt8) : ByteArray := ⟨l.toArray⟩
theorem txt_size (l : List UInt8) : (txt l).size = l.length := by show l.toArray.size = _; simp
theorem txt_list (l : List UInt8) : (txt l).toList = l := ByteArray.toList_mk l
theorem txt_app (a b : List UInt8) : txt a ++ txt b = txt (a ++ b) := by
  unfold txt
  rw [ByteArray.mk_append_mk]
theorem txt_conv (w : World) (b cap : Nat) (v : Int) (h0 : 0 ≤ v) (h1 : v ≤ 255) (hc : w.cell? ⟨b, 0, none⟩ = some (.int .u8 v)) : (convert 65 9 (.slice (some ⟨b, 0, none⟩) 1 cap)).run Try.prog w = .ok (.string (txt [UInt8.ofNat v.toNat])) w := by
  refine run_convert_bytes_back w 65 9 5 ⟨b, 0, none⟩ cap [UInt8.ofNat v.toNat] Try.underlying65 Try.underlying5 Try.underlying9 ?_
  intro j hj
  have : j = 0 := by simpa using hj
  subst this
  have e : ((UInt8.ofNat v.toNat).toNat : Int) = v := by
    rw [UInt8.toNat_ofNat']
    omega
  show w.cell? ⟨b, 0, none⟩ = some (.int .u8 ((UInt8.ofNat v.toNat).toNat : Int))
  rw [e]
  exact hc
theorem dig_cons (n k : Nat) : dig n (k + 1) = UInt8.ofNat (n / 256 ^ k % 256) :: dig n k := by
  induction k generalizing n with
  | zero => simp [dig]
  | succ k ih =>
    rw [dig, ih]
    have e : n / 256 / 256 ^ k = n / 256 ^ (k + 1) := by rw [Nat.div_div_eq_div_mul, Nat.pow_succ, Nat.mul_comm]
    rw [e]
    conv => rhs; rw [dig]
    rfl

set_option maxHeartbeats 400000 in
theorem firstByte_is (n : Nat) (w : World) :
    Calls Try.prog 88 #[.int .i64 (n : Int)] w fun e w' => e = .returned (.int .i64 (kind n : Nat)) ∧ w = w' := by
  have HK := Go.Proofs.Ytpaakikgfojplaa.hid (show kind n = _ from rfl)
  have hk : kind n = if n < 24 then n else if n < 256 then 24 else if n < 65536 then 25 else if n < 4294967296 then 26 else 27 := rfl
  generalize kind n = K at *
  clear HK
  by_cases h1 : n < 24
  · rw [if_pos h1] at hk
    subst hk
    have g1 : (K : Int) < 24 := by omega
    clear h1
    go_enter Try.func88, Try.ntmps88
    go_wp2
    go_ret
    exact ⟨rfl, rfl⟩
  · rw [if_neg h1] at hk
    have g1 : ¬ (n : Int) < 24 := by omega
    by_cases h2 : n < 256
    · rw [if_pos h2] at hk
      subst hk
      have g2 : (n : Int) < 256 := by omega
      clear h1 h2
      go_enter Try.func88, Try.ntmps88
      go_wp2
      go_ret
      exact ⟨rfl, rfl⟩
    · rw [if_neg h2] at hk
      have g2 : ¬ (n : Int) < 256 := by omega
      by_cases h3 : n < 65536
      · rw [if_pos h3] at hk
        subst hk
        have g3 : (n : Int) < 65536 := by omega
        clear h1 h2 h3
        go_enter Try.func88, Try.ntmps88
        go_wp2
        go_ret
        exact ⟨rfl, rfl⟩
      · rw [if_neg h3] at hk
        have g3 : ¬ (n : Int) < 65536 := by omega
        by_cases h4 : n < 4294967296
        · rw [if_pos h4] at hk
          subst hk
          have g4 : (n : Int) < 4294967296 := by omega
          clear h1 h2 h3 h4
          go_enter Try.func88, Try.ntmps88
          go_wp2
          go_ret
          exact ⟨rfl, rfl⟩
        · rw [if_neg h4] at hk
          subst hk
          have g4 : ¬ (n : Int) < 4294967296 := by omega
          clear h1 h2 h3 h4
          go_enter Try.func88, Try.ntmps88
          go_wp2
          go_ret
          exact ⟨rfl, rfl⟩

set_option maxHeartbeats 400000 in
theorem behind_is (f : Nat) (w : World) :
    Calls Try.prog 89 #[.int .i64 (f : Int)] w fun e w' => e = .returned (.int .i64 (sz f : Nat)) ∧ w = w' := by
  have hk : sz f = if f = 24 then 1 else if f = 25 then 2 else if f = 26 then 4 else if f = 27 then 8 else 0 := rfl
  generalize sz f = K at *
  by_cases h1 : f = 24
  · rw [if_pos h1] at hk
    subst hk; subst h1
    go_enter Try.func89, Try.ntmps89
    go_wp2
    go_ret
    exact ⟨rfl, rfl⟩
  · rw [if_neg h1] at hk
    by_cases h2 : f = 25
    · rw [if_pos h2] at hk
      subst hk; subst h2
      clear h1
      go_enter Try.func89, Try.ntmps89
      go_wp2
      go_ret
      exact ⟨rfl, rfl⟩
    · rw [if_neg h2] at hk
      by_cases h3 : f = 26
      · rw [if_pos h3] at hk
        subst hk; subst h3
        clear h1 h2
        go_enter Try.func89, Try.ntmps89
        go_wp2
        go_ret
        exact ⟨rfl, rfl⟩
      · rw [if_neg h3] at hk
        by_cases h4 : f = 27
        · rw [if_pos h4] at hk
          subst hk; subst h4
          clear h1 h2 h3
          go_enter Try.func89, Try.ntmps89
          go_wp2
          go_ret
          exact ⟨rfl, rfl⟩
        · rw [if_neg h4] at hk
          subst hk
          have g1 : ((f : Int) == 24) = false := by rw [beq_eq_false_iff_ne]; omega
          have g2 : ((f : Int) == 25) = false := by rw [beq_eq_false_iff_ne]; omega
          have g3 : ((f : Int) == 26) = false := by rw [beq_eq_false_iff_ne]; omega
          have g4 : ((f : Int) == 27) = false := by rw [beq_eq_false_iff_ne]; omega
          clear h1 h2 h3 h4
          go_enter Try.func89, Try.ntmps89
          go_wp2
          go_ret
          exact ⟨rfl, rfl⟩

theorem below_tx {w A : World} {cs : Array Value} {t : TypeId} (hA : w.alloc (.cells cs t) = A) : A.heap.size = w.heap.size + 1 ∧ Below w.heap.size w A ∧ A.heap[w.heap.size]? = some (.cells cs t (0, 0)) := by
  subst hA
  exact ⟨by simp, (Below.refl _ _).alloc (Nat.le_refl _) _, heap_alloc_new w _⟩

theorem below_tx2 {w A : World} {cs ds : Array Value} {t u : TypeId} (hA : (w.alloc (.cells cs t)).alloc (.cells ds u) = A) : A.heap.size = w.heap.size + 2 ∧ Below w.heap.size w A ∧ A.heap[w.heap.size]? = some (.cells cs t (0, 0)) ∧ A.heap[w.heap.size + 1]? = some (.cells ds u (0, 0)) := by
  obtain ⟨h1, h2, h3⟩ := below_tx (w := w) (cs := cs) (t := t) rfl
  obtain ⟨g1, g2, g3⟩ := below_tx (w := w.alloc (.cells cs t)) (cs := ds) (t := u) rfl
  subst hA
  refine ⟨by omega, h2.trans (g2.mono (by omega)), (g2.block _ (by omega)).trans h3, ?_⟩
  rw [h1] at g3
  exact g3

theorem txt_new (w : World) (v : Int) (h0 : 0 ≤ v) (h1 : v ≤ 255) (cap : Nat) : (convert 65 9 (.slice (some ⟨w.heap.size, 0, none⟩) 1 cap)).run Try.prog (w.alloc (.cells #[.int .u8 v] 5)) = .ok (.string (txt [UInt8.ofNat v.toNat])) (w.alloc (.cells #[.int .u8 v] 5)) :=
  txt_conv _ _ cap v h0 h1 (cell_of_cells (j := 0) (heap_alloc_new w _) rfl)

set_option maxHeartbeats 800000 in
set_option maxRecDepth 1000000 in
theorem write_is (n : Nat) (w : World) (hn : n < 9223372036854775808) :
    Calls Try.prog 68 #[.int .i64 (n : Int)] w fun e w' => e = .returned (.string (txt (num n))) ∧ Below w.heap.size w w' := by
  have hkl := kind_le n
  have HN := Go.Proofs.Ytpaakikgfojplaa.hid (show num n = UInt8.ofNat (kind n) :: dig n (sz (kind n)) from rfl)
  have hz8 : sz (kind n) ≤ 8 := by unfold sz; repeat' split
                                   all_goals omega
  go_enter Try.func68, Try.ntmps68
  go_wp2_with fail
  refine (firstByte_is n _).mono ?_
  rintro e w1 ⟨rfl, rfl⟩
  go_wp2_with fail
  refine (behind_is (kind n) _).mono ?_
  rintro e w1 ⟨rfl, rfl⟩
  generalize kind n = K at *
  generalize hZ : sz K = Z at *
  clear hZ
  go_wp2
  rw [show (ByteArray.mk #[]) = txt (dig n 0) from rfl]
  go_loopw [0, 4, 5] (fun m t l wr => ∃ k : Nat, k ≤ Z ∧ m = .int .i64 ((n / 256 ^ k : Nat) : Int) ∧ t = .string (txt (dig n k)) ∧ l = .int .i64 ((Z - k : Nat) : Int) ∧ Below w.heap.size w wr) (fun _ _ l _ => (intOf l).toNat)
  case atStart => exact ⟨0, Nat.zero_le _, by simp, rfl, rfl, Below.refl _ _⟩
  case round =>
    obtain ⟨k, hk, rfl, rfl, rfl, hb⟩ := hrel
    have hdl := dig_len n k
    by_cases hlt : k < Z
    · have hlt' : (0 : Int) < ((Z - k : Nat) : Int) := by omega
      have hq : n / 256 ^ k < 9223372036854775808 := Nat.lt_of_le_of_lt (Nat.div_le_self _ _) hn
      have HD := Go.Proofs.Ytpaakikgfojplaa.hid (dig_cons n k)
      have HQ := Go.Proofs.Ytpaakikgfojplaa.hid (show n / 256 ^ k / 256 = n / 256 ^ (k + 1) by rw [Nat.div_div_eq_div_mul, Nat.pow_succ])
      generalize n / 256 ^ k = q at *
      have hcv := txt_new wr ((q : Int) % 256) (by omega) (by omega) 1
      have hif : ¬ 9223372036854775807 < (txt [UInt8.ofNat ((q : Int) % 256).toNat]).size + (txt (dig n k)).size := by rw [txt_size, txt_size, List.length_singleton]; omega
      have HB := Go.Proofs.Ytpaakikgfojplaa.hid (hb.alloc hb.size (.cells #[.int .u8 ((q : Int) % 256)] 5))
      have HE : Hid (txt [UInt8.ofNat (q % 256)] ++ txt (dig n k) = txt (dig n (k + 1))) := by
        unfold Hid
        rw [txt_app, HD.out]
        rfl
      clear HD hb
      go_wp2
      go_roundw
      case rel => exact ⟨k + 1, by omega, by rw [← HQ.out]; first | go_num | (congr 1; omega), congrArg Value.string HE.out, by go_num, HB.out⟩
      case measure => simp [intOf]; omega
    · have hkz : k = Z := by omega
      subst hkz
      have hcv := txt_new wr (K : Int) (by omega) (by omega) 1
      have hif : ¬ 9223372036854775807 < (txt [UInt8.ofNat ((K : Int)).toNat]).size + (txt (dig n k)).size := by rw [txt_size, txt_size, List.length_singleton]; omega
      have HB := Go.Proofs.Ytpaakikgfojplaa.hid (hb.alloc hb.size (.cells #[.int .u8 (K : Int)] 5))
      have HE : Hid (txt [UInt8.ofNat K] ++ txt (dig n k) = txt (num n)) := by
        unfold Hid
        rw [txt_app, HN.out]
        rfl
      have hw : ((K : Int) % 256) = (K : Int) := by omega
      clear hb HN
      go_wp2
      go_ret
      exact ⟨congrArg (fun b => Ending.returned (Value.string b)) HE.out, HB.out⟩

end Go.Proofs.Ytpaakikgfojplaa

