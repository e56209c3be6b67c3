import Derived.Test.YtpaakikgfojplaaGreatCM5
import Derived.Test.YtpaakikgfojplaaGreatCM28
import Derived.Deep.RegionHeld3
import Derived.BigRegion
import Derived.Deep.DeepCutAuto
import Derived.Laws.IdiomStrings
/-
  THE WALKS of the program's texts: a number is written.
-/
namespace Go.Proofs.YtpaakikgfojplaaGreat
open Go.RowKit Num Bk Tx
set_option linter.unusedVariables false

/-- A text. -/
def txt (l : List UInt8) : ByteArray := ⟨l.toArray⟩
theorem txt_size (l : List UInt8) : (txt l).size = l.length := by show l.toArray.size = _; simp
theorem txt_list (l : List UInt8) : (txt l).toList = l := ByteArray.toList_mk l
theorem txt_app (a b : List UInt8) : txt a ++ txt b = txt (a ++ b) := by
  unfold txt
  rw [ByteArray.mk_append_mk]
theorem txt_conv (w : World) (b cap : Nat) (v : Int) (h0 : 0 ≤ v) (h1 : v ≤ 255) (hc : w.cell? ⟨b, 0, none⟩ = some (.int .u8 v)) : (convert 134 9 (.slice (some ⟨b, 0, none⟩) 1 cap)).run Tryz.prog w = .ok (.string (txt [UInt8.ofNat v.toNat])) w := by
  refine run_convert_bytes_back w 134 9 5 ⟨b, 0, none⟩ cap [UInt8.ofNat v.toNat] Tryz.underlying134 Tryz.underlying5 Tryz.underlying9 ?_
  intro j hj
  have : j = 0 := by simpa using hj
  subst this
  have e : ((UInt8.ofNat v.toNat).toNat : Int) = v := by
    rw [UInt8.toNat_ofNat']
    omega
  show w.cell? ⟨b, 0, none⟩ = some (.int .u8 ((UInt8.ofNat v.toNat).toNat : Int))
  rw [e]
  exact hc
theorem dig_cons (n k : Nat) : dig n (k + 1) = UInt8.ofNat (n / 256 ^ k % 256) :: dig n k := by
  induction k generalizing n with
  | zero => simp [dig]
  | succ k ih =>
    rw [dig, ih]
    have e : n / 256 / 256 ^ k = n / 256 ^ (k + 1) := by rw [Nat.div_div_eq_div_mul, Nat.pow_succ, Nat.mul_comm]
    rw [e]
    conv => rhs; rw [dig]
    rfl

set_option maxHeartbeats 400000 in
theorem firstByte_is (n : Nat) (w : World) :
    Calls Tryz.prog 97 #[.int .i64 (n : Int)] w fun e w' => e = .returned (.int .i64 (kind n : Nat)) ∧ w = w' := by
  have HK := Go.Proofs.YtpaakikgfojplaaGreat.hid (show kind n = _ from rfl)
  have hk : kind n = if n < 24 then n else if n < 256 then 24 else if n < 65536 then 25 else if n < 4294967296 then 26 else 27 := rfl
  generalize kind n = K at *
  clear HK
  by_cases h1 : n < 24
  · rw [if_pos h1] at hk
    subst hk
    have g1 : (K : Int) < 24 := by omega
    clear h1
    go_enter Tryz.func97, Tryz.ntmps97
    go_wp2
    go_ret
    exact ⟨rfl, rfl⟩
  · rw [if_neg h1] at hk
    have g1 : ¬ (n : Int) < 24 := by omega
    by_cases h2 : n < 256
    · rw [if_pos h2] at hk
      subst hk
      have g2 : (n : Int) < 256 := by omega
      clear h1 h2
      go_enter Tryz.func97, Tryz.ntmps97
      go_wp2
      go_ret
      exact ⟨rfl, rfl⟩
    · rw [if_neg h2] at hk
      have g2 : ¬ (n : Int) < 256 := by omega
      by_cases h3 : n < 65536
      · rw [if_pos h3] at hk
        subst hk
        have g3 : (n : Int) < 65536 := by omega
        clear h1 h2 h3
        go_enter Tryz.func97, Tryz.ntmps97
        go_wp2
        go_ret
        exact ⟨rfl, rfl⟩
      · rw [if_neg h3] at hk
        have g3 : ¬ (n : Int) < 65536 := by omega
        by_cases h4 : n < 4294967296
        · rw [if_pos h4] at hk
          subst hk
          have g4 : (n : Int) < 4294967296 := by omega
          clear h1 h2 h3 h4
          go_enter Tryz.func97, Tryz.ntmps97
          go_wp2
          go_ret
          exact ⟨rfl, rfl⟩
        · rw [if_neg h4] at hk
          subst hk
          have g4 : ¬ (n : Int) < 4294967296 := by omega
          clear h1 h2 h3 h4
          go_enter Tryz.func97, Tryz.ntmps97
          go_wp2
          go_ret
          exact ⟨rfl, rfl⟩

set_option maxHeartbeats 400000 in
theorem behind_is (f : Nat) (w : World) :
    Calls Tryz.prog 96 #[.int .i64 (f : Int)] w fun e w' => e = .returned (.int .i64 (sz f : Nat)) ∧ w = w' := by
  have hk : sz f = if f = 24 then 1 else if f = 25 then 2 else if f = 26 then 4 else if f = 27 then 8 else 0 := rfl
  generalize sz f = K at *
  by_cases h1 : f = 24
  · rw [if_pos h1] at hk
    subst hk; subst h1
    go_enter Tryz.func96, Tryz.ntmps96
    go_wp2
    go_ret
    exact ⟨rfl, rfl⟩
  · rw [if_neg h1] at hk
    by_cases h2 : f = 25
    · rw [if_pos h2] at hk
      subst hk; subst h2
      clear h1
      go_enter Tryz.func96, Tryz.ntmps96
      go_wp2
      go_ret
      exact ⟨rfl, rfl⟩
    · rw [if_neg h2] at hk
      by_cases h3 : f = 26
      · rw [if_pos h3] at hk
        subst hk; subst h3
        clear h1 h2
        go_enter Tryz.func96, Tryz.ntmps96
        go_wp2
        go_ret
        exact ⟨rfl, rfl⟩
      · rw [if_neg h3] at hk
        by_cases h4 : f = 27
        · rw [if_pos h4] at hk
          subst hk; subst h4
          clear h1 h2 h3
          go_enter Tryz.func96, Tryz.ntmps96
          go_wp2
          go_ret
          exact ⟨rfl, rfl⟩
        · rw [if_neg h4] at hk
          subst hk
          have g1 : ((f : Int) == 24) = false := by rw [beq_eq_false_iff_ne]; omega
          have g2 : ((f : Int) == 25) = false := by rw [beq_eq_false_iff_ne]; omega
          have g3 : ((f : Int) == 26) = false := by rw [beq_eq_false_iff_ne]; omega
          have g4 : ((f : Int) == 27) = false := by rw [beq_eq_false_iff_ne]; omega
          clear h1 h2 h3 h4
          go_enter Tryz.func96, Tryz.ntmps96
          go_wp2
          go_ret
          exact ⟨rfl, rfl⟩

theorem below_tx {w A : World} {cs : Array Value} {t : TypeId} (hA : w.alloc (.cells cs t) = A) : A.heap.size = w.heap.size + 1 ∧ Below w.heap.size w A ∧ A.heap[w.heap.size]? = some (.cells cs t (0, 0)) := by
  subst hA
  exact ⟨by simp, (Below.refl _ _).alloc (Nat.le_refl _) _, heap_alloc_new w _⟩

theorem below_tx2 {w A : World} {cs ds : Array Value} {t u : TypeId} (hA : (w.alloc (.cells cs t)).alloc (.cells ds u) = A) : A.heap.size = w.heap.size + 2 ∧ Below w.heap.size w A ∧ A.heap[w.heap.size]? = some (.cells cs t (0, 0)) ∧ A.heap[w.heap.size + 1]? = some (.cells ds u (0, 0)) := by
  obtain ⟨h1, h2, h3⟩ := below_tx (w := w) (cs := cs) (t := t) rfl
  obtain ⟨g1, g2, g3⟩ := below_tx (w := w.alloc (.cells cs t)) (cs := ds) (t := u) rfl
  subst hA
  refine ⟨by omega, h2.trans (g2.mono (by omega)), (g2.block _ (by omega)).trans h3, ?_⟩
  rw [h1] at g3
  exact g3

theorem txt_new (w : World) (v : Int) (h0 : 0 ≤ v) (h1 : v ≤ 255) (cap : Nat) : (convert 134 9 (.slice (some ⟨w.heap.size, 0, none⟩) 1 cap)).run Tryz.prog (w.alloc (.cells #[.int .u8 v] 5)) = .ok (.string (txt [UInt8.ofNat v.toNat])) (w.alloc (.cells #[.int .u8 v] 5)) :=
  txt_conv _ _ cap v h0 h1 (cell_of_cells (j := 0) (heap_alloc_new w _) rfl)

end Go.Proofs.YtpaakikgfojplaaGreat

/-
  THE WALKS of the document's texts: a number is written.
-/
namespace Go.Proofs.YtpaakikgfojplaaGreat
open Go.RowKit Num Bk Tx
set_option linter.unusedVariables false

theorem Tryz.info5 : (Tryz.prog.info? 5).map (fun i => (i.zero, i.size, i.bytes)) = some (some (.int .u8 0), 1, 1) := by kernel_rfl

theorem app_nil (w : World) (b : Nat) : (Builtin.append_ #[134, 134] 134 #[.slice (some ⟨b, 0, none⟩) 1 1, .slice none 0 0]).run Tryz.prog w = .ok (.slice (some ⟨b, 0, none⟩) 1 1) w := by
  obtain ⟨i0, hi0, hz0, hz1, hz2⟩ := info_parts Tryz.info5
  simp [Builtin.append_, run_underlying Tryz.underlying134, sizeOf, typeInfo, hi0, Builtin.lenOf, Builtin.firstCells, storeCells, Sem.run_bind, Sem.run_pure]

def bcells (l : List UInt8) : List Value := l.map fun b => .int .u8 (b.toNat : Int)
theorem bcells_at (l : List UInt8) (i : Nat) (h : i < l.length) : (bcells l)[i]? = some (.int .u8 ((l.getD i 0).toNat : Int)) := by
  simp [bcells, List.getD, h]
theorem bcells_length (l : List UInt8) : (bcells l).length = l.length := by simp [bcells]
theorem one_u8 (l : List UInt8) : ∀ u ∈ bcells l, u.oneCell' = true := by
  intro u hu
  simp only [bcells, List.mem_map] at hu
  obtain ⟨b, _, rfl⟩ := hu
  rfl

theorem row_u8 {w : World} {b base : Nat} {v : UInt8} (hb : base ≤ b) (h : w.heap[b]? = some (.cells #[.int .u8 (v.toNat : Int)] 5 (0, 0))) : w.ownsRow base 5 1 (.slice (some ⟨b, 0, none⟩) 1 1) 1 (bcells [v]) :=
  ⟨rfl, Or.inr ⟨b, 1, #[.int .u8 (v.toNat : Int)], rfl, hb, h, Nat.le_refl _, by unfold maxLen; omega, rfl, rfl⟩⟩

theorem drop_getD' (t : List UInt8) (i : Nat) : (t.drop i).getD 0 0 = t.getD i 0 := by simp [List.getD]
theorem own_cap {w : World} {base g n cap : Nat} {e : TypeId} {size : Nat} {xs : List Value} (h : w.ownsRow base e size (.slice (some ⟨g, 0, none⟩) n cap) n xs) : n ≤ cap := by
  rcases h.2 with ⟨h0, _⟩ | ⟨g', cap', cur, hv, _, _, hc, _⟩
  · cases h0
  · simp only [Value.slice.injEq] at hv
    omega
theorem dig_drop (n k j : Nat) : (dig n (k + j)).drop k = dig n j := by
  induction k with
  | zero => simp
  | succ k ih => rw [show k + 1 + j = (k + j) + 1 by omega, dig_cons, List.drop_succ_cons, ih]
theorem dig_get (n k : Nat) (h : k < 8) : (dig n 8).getD (8 - (k + 1)) 0 = UInt8.ofNat (n / 256 ^ k % 256) := by
  have h1 := dig_drop n (8 - (k + 1)) (k + 1)
  rw [show 8 - (k + 1) + (k + 1) = 8 by omega] at h1
  have h2 := drop_getD' (dig n 8) (8 - (k + 1))
  rw [h1, dig_cons] at h2
  exact h2.symm
theorem conv_u8 (w : World) (g o cap : Nat) (l : List UInt8) (h : ∀ j, j < l.length → w.cell? ⟨g, o + j, none⟩ = some (.int .u8 ((l.getD j 0).toNat : Int))) : (convert 134 9 (.slice (some ⟨g, o, none⟩) l.length cap)).run Tryz.prog w = .ok (.string (txt l)) w := by
  refine run_convert_bytes_back w 134 9 5 ⟨g, o, none⟩ cap l Tryz.underlying134 Tryz.underlying5 Tryz.underlying9 ?_
  intro j hj
  have e := h j hj
  rw [show l.getD j 0 = l[j] from by simp [List.getD, hj]] at e
  have hadd : (⟨g, o, none⟩ : Addr).add j = ⟨g, o + j, none⟩ := by unfold Addr.add; split <;> simp_all
  rw [hadd]
  exact e
theorem conv_dig (w : World) (g cap base n k j : Nat) (hkj : k + j = 8) (cap2 : Nat) (hout : w.ownsRow base 5 1 (.slice (some ⟨g, 0, none⟩) 8 cap) 8 (bcells (dig n 8))) : (convert 134 9 (.slice (some ⟨g, k, none⟩) j cap2)).run Tryz.prog w = .ok (.string (txt (dig n j))) w := by
  have h := conv_u8 w g k cap2 (dig n j) (fun i hi => by
    rw [dig_len] at hi
    have e := hout.cellAt (k + i) (by omega)
    rw [e, bcells_at _ _ (by rw [dig_len]; omega)]
    have e2 := dig_drop n k j
    rw [hkj] at e2
    rw [← e2]
    simp [List.getD])
  rw [dig_len] at h
  exact h

/-- How many bytes a number wants. -/
def Wants (n s : Nat) : Prop := 1 ≤ s ∧ s ≤ 8 ∧ n < 256 ^ s ∧ (s = 1 ∨ 256 ^ (s - 1) ≤ n)
theorem num_of {n s : Nat} (h : Wants n s) : num n = if s = 1 ∧ n < 24 then dig n 1 else if s = 1 then 24 :: dig n 1 else if s = 2 then 25 :: dig n 2 else if s ≤ 4 then 26 :: dig n 4 else 27 :: dig n 8 := by
  obtain ⟨h1, h2, h3, h4⟩ := h
  unfold num
  by_cases e1 : s = 1
  · subst e1
    have h5 : n < 256 := by simpa using h3
    by_cases e2 : n < 24
    · rw [if_pos ⟨rfl, e2⟩]
      have hk : kind n = n := by unfold kind; rw [if_pos e2]
      rw [hk]
      have hz : sz n = 0 := by
        unfold sz
        rw [if_neg (by omega), if_neg (by omega), if_neg (by omega), if_neg (by omega)]
      rw [hz]
      simp [dig]
      rw [Nat.mod_eq_of_lt h5]
    · rw [if_neg (by omega), if_pos rfl]
      have hk : kind n = 24 := by unfold kind; rw [if_neg e2, if_pos h5]
      rw [hk]
      rfl
  · rw [if_neg (by omega), if_neg e1]
    have h5 : 256 ^ (s - 1) ≤ n := h4.resolve_left e1
    have h6 : 256 ^ 1 ≤ 256 ^ (s - 1) := Nat.pow_le_pow_right (by decide) (by omega)
    have h7 : 256 ≤ n := by simpa using Nat.le_trans h6 h5
    by_cases e2 : s = 2
    · subst e2
      have h8 : n < 65536 := by simpa using h3
      rw [if_pos rfl]
      have hk : kind n = 25 := by unfold kind; rw [if_neg (by omega), if_neg (by omega), if_pos h8]
      rw [hk]
      rfl
    · rw [if_neg e2]
      have h9 : 256 ^ 2 ≤ 256 ^ (s - 1) := Nat.pow_le_pow_right (by decide) (by omega)
      have h10 : 65536 ≤ n := by simpa using Nat.le_trans h9 h5
      by_cases e3 : s ≤ 4
      · rw [if_pos e3]
        have h11 : 256 ^ s ≤ 256 ^ 4 := Nat.pow_le_pow_right (by decide) e3
        have h12 : n < 4294967296 := by simpa using Nat.lt_of_lt_of_le h3 h11
        have hk : kind n = 26 := by unfold kind; rw [if_neg (by omega), if_neg (by omega), if_neg (by omega), if_pos h12]
        rw [hk]
        rfl
      · rw [if_neg e3]
        have h11 : 256 ^ 4 ≤ 256 ^ (s - 1) := Nat.pow_le_pow_right (by decide) (by omega)
        have h12 : 4294967296 ≤ n := by simpa using Nat.le_trans h11 h5
        have hk : kind n = 27 := by unfold kind; rw [if_neg (by omega), if_neg (by omega), if_neg (by omega), if_neg (by omega)]
        rw [hk]
        rfl
theorem wants_down {n s : Nat} (h1 : 2 ≤ s) (h2 : s ≤ 8) (h : n < 256 ^ s) (hb : (UInt8.ofNat (n / 256 ^ (s - 1) % 256)).toNat = 0) : n < 256 ^ (s - 1) := by
  have e : n / 256 ^ (s - 1) < 256 := by
    apply Nat.div_lt_of_lt_mul
    rw [← Nat.pow_succ, show (s - 1).succ = s by omega]
    exact h
  have e2 : n / 256 ^ (s - 1) = 0 := by
    rw [UInt8.toNat_ofNat'] at hb
    generalize n / 256 ^ (s - 1) = d at *
    omega
  rcases (Nat.div_eq_zero_iff).1 e2 with h3 | h3
  · exact absurd h3 (Nat.ne_of_gt (Nat.pow_pos (by decide)))
  · exact h3
theorem wants_stop {n s : Nat} (hb : (UInt8.ofNat (n / 256 ^ (s - 1) % 256)).toNat ≠ 0) : 256 ^ (s - 1) ≤ n := by
  refine Classical.byContradiction (fun h => hb ?_)
  rw [Nat.div_eq_of_lt (by omega)]
  rfl

set_option maxHeartbeats 3200000 in
set_option maxRecDepth 1000000 in
theorem number_is (n : Nat) (w : World) (hn : n < 9223372036854775808) :
    Calls Tryz.prog 99 #[.int .i64 (n : Int)] w fun e w' => e = .returned (.string (txt (num n))) ∧ Below w.heap.size w w' := by
  obtain ⟨i0, hi0, hz0, hz1, hz2⟩ := info_parts Tryz.info5
  go_enter Tryz.func99, Tryz.ntmps99
  go_wp2
  go_loopw [0, 3, 4] (fun m v i wr => ∃ k : Nat, k ≤ 8 ∧ m = .int .i64 ((n / 256 ^ k : Nat) : Int) ∧ i = .int .i64 k ∧ (k = 0 → v = .slice none 0 0) ∧ wr.ownsRow w.heap.size 5 1 v k (bcells (dig n k)) ∧ Below w.heap.size w wr) (fun _ _ i _ => 8 - (intOf i).toNat)
  case atStart => exact ⟨0, Nat.zero_le _, by simp, rfl, fun _ => rfl, World.ownsRow_nil _ _ _ _, Below.refl _ _⟩
  case round =>
    obtain ⟨k, hk, rfl, rfl, hv0, hown, hb⟩ := hrel
    by_cases hlt : k < 8
    · have hlt' : (k : Int) < 8 := by omega
      have hq : n / 256 ^ k < 9223372036854775808 := Nat.lt_of_le_of_lt (Nat.div_le_self _ _) hn
      have HD := Go.Proofs.YtpaakikgfojplaaGreat.hid (dig_cons n k)
      have HQ := Go.Proofs.YtpaakikgfojplaaGreat.hid (show n / 256 ^ k / 256 = n / 256 ^ (k + 1) by rw [Nat.div_div_eq_div_mul, Nat.pow_succ])
      have hdl := dig_len n k
      generalize n / 256 ^ k = q at *
      have hqb : ((q : Int) % 256) = ((UInt8.ofNat (q % 256)).toNat : Int) := by rw [UInt8.toNat_ofNat']; omega
      have HQB := Go.Proofs.YtpaakikgfojplaaGreat.hid hqb
      clear hqb
      rcases Nat.eq_zero_or_pos k with hk0 | hk0
      · subst hk0
        have hv := hv0 rfl
        subst hv
        have hap := fun W => app_nil W wr.heap.size
        have HR : Hid ((wr.alloc (.cells #[.int .u8 ((q : Int) % 256)] 5)).ownsRow w.heap.size 5 1 (.slice (some ⟨wr.heap.size, 0, none⟩) 1 1) 1 (bcells (dig n 1))) := by
          have e : dig n 1 = [UInt8.ofNat (q % 256)] := HD.out
          rw [e, HQB.out]
          exact row_u8 hb.size (heap_alloc_new wr _)
        have HB := Go.Proofs.YtpaakikgfojplaaGreat.hid (hb.alloc hb.size (.cells #[.int .u8 ((q : Int) % 256)] 5))
        clear hown hb HD hv0
        go_wp2
        go_roundw
        case rel => exact ⟨1, by omega, by rw [← HQ.out]; go_num, by go_num, fun h => by omega, HR.out, HB.out⟩
        case measure => simp [intOf]
      · obtain ⟨g, cap, rfl, hbg, hlg⟩ := hown.form hk0
        have hA : (wr.alloc (.cells #[.int .u8 ((q : Int) % 256)] 5)).ownsRow w.heap.size 5 1 (.slice (some ⟨wr.heap.size, 0, none⟩) 1 1) 1 (bcells [UInt8.ofNat (q % 256)]) := by
          rw [HQB.out]
          exact row_u8 hb.size (heap_alloc_new wr _)
        have hnews : ∀ j u, (bcells (dig n k))[j]? = some u → (wr.alloc (.cells #[.int .u8 ((q : Int) % 256)] 5)).cell? ((⟨g, 0, none⟩ : Addr).add j) = some u := by
          intro j u hu
          have hj : j < k := by have := (List.getElem?_eq_some_iff.1 hu).1; rw [bcells_length, hdl] at this; exact this
          have hadd : (⟨g, 0, none⟩ : Addr).add j = ⟨g, j, none⟩ := by unfold Addr.add; split <;> simp_all
          rw [hadd, World.cell?_alloc_past _ _ _ hlg, hown.cellAt j (by omega)]
          exact hu
        have HA := Go.Proofs.YtpaakikgfojplaaGreat.hid hA
        have HNW := Go.Proofs.YtpaakikgfojplaaGreat.hid hnews
        have HBW := Go.Proofs.YtpaakikgfojplaaGreat.hid (hb.alloc hb.size (.cells #[.int .u8 ((q : Int) % 256)] 5))
        have hbs := hb.size
        clear hA hnews hown hb hv0
        go_wp2_with (at_builtin; refine wpList_append_lies _ rfl (.tmp 13) (.tmp 14) 134 rfl w.heap.size 5 i0 (.int .u8 0) 1 1 Tryz.underlying134 hi0 hz0 hz1 hz2 rfl (by omega) _ 1 (bcells [UInt8.ofNat (q % 256)]) rfl HA.out ⟨g, 0, none⟩ k cap (bcells (dig n k)) rfl (by rw [bcells_length, hdl]; omega) HNW.out (one_u8 _) (by omega) (by unfold maxLen; omega) (by omega) (by simp; omega) (wr.heap.size + 1) (by simp) ?_)
        intro gq capq wq hownq hgrowq hatq hltq
        have HB := Go.Proofs.YtpaakikgfojplaaGreat.hid (HBW.out.grown hgrowq (by simp; omega) (fun k e => by simp [Value.ownBlock] at e; omega))
        have HO : Hid (wq.ownsRow w.heap.size 5 1 (.slice (some ⟨gq, 0, none⟩) (k + 1) capq) (k + 1) (bcells (dig n (k + 1)))) := by
          have e : bcells (dig n (k + 1)) = bcells [UInt8.ofNat (q % 256)] ++ bcells (dig n k) := by rw [HD.out]; simp [bcells]
          rw [e, show k + 1 = 1 + k by omega]
          exact hownq
        rw [show 1 + k = k + 1 by omega]
        clear hownq hgrowq hatq hltq HA HNW HBW HD
        go_wp2
        go_roundw
        case rel => exact ⟨k + 1, by omega, by rw [← HQ.out]; go_num, by go_num, fun h => by omega, HO.out, HB.out⟩
        case measure => simp [intOf]; omega
    · have hk8 : k = 8 := by omega
      subst hk8
      obtain ⟨g, cap, rfl, hbg, hlg⟩ := hown.form (by omega)
      clear hv0
      have hcap := own_cap hown
      have hc7 : ¬ cap = 7 := by omega
      have hc6 : ¬ cap = 6 := by omega
      have hc4 : ¬ cap = 4 := by omega
      clear hcap
      have HWB := Go.Proofs.YtpaakikgfojplaaGreat.hid hb
      have HOW := Go.Proofs.YtpaakikgfojplaaGreat.hid hown
      have hbs := hb.size
      clear hb
      go_wp2
      go_loopw [5] (fun z wz => ∃ s : Nat, 1 ≤ s ∧ s ≤ 8 ∧ z = .int .i64 s ∧ Hid (n < 256 ^ s) ∧ wz = wr) (fun z _ => (intOf z).toNat)
      case atStart => exact ⟨8, by omega, by omega, rfl, by show n < 18446744073709551616; omega, rfl⟩
      case round =>
        obtain ⟨s, hs1, hs8, rfl, HS, rfl⟩ := hrel
        by_cases h1 : s = 1
        · subst h1
          have HWT := Go.Proofs.YtpaakikgfojplaaGreat.hid (num_of (show Wants n 1 from ⟨by omega, by omega, HS.out, Or.inl rfl⟩))
          have hn8 : n < 256 := by have := HS.out; simpa using this
          have c7 := (hown.cellAt 7 (by omega)).trans (bcells_at (dig n 8) 7 (by rw [dig_len]; omega))
          have hg7 := dig_get n 0 (by omega)
          rw [show 8 - (0 + 1) = 7 by rfl] at hg7
          rw [hg7, Nat.pow_zero, Nat.div_one, Nat.mod_eq_of_lt hn8, UInt8.toNat_ofNat', Nat.mod_eq_of_lt (show n < 2 ^ 8 by omega)] at c7
          have hcv := conv_dig wr g cap w.heap.size n 7 1 (by omega) (cap - 7) hown
          by_cases h24 : n < 24
          · have h24' : (n : Int) < 24 := by omega
            have hN : num n = dig n 1 := HWT.out.trans (if_pos ⟨rfl, h24⟩)
            have HN := Go.Proofs.YtpaakikgfojplaaGreat.hid hN
            clear hN HWT hown hg7
            go_wp2
            go_ret
            exact ⟨congrArg (fun b => Ending.returned (Value.string (txt b))) HN.out.symm, HWB.out⟩
          · have h24' : ¬ (n : Int) < 24 := by omega
            have HN : Hid (txt [24] ++ txt (dig n 1) = txt (num n)) := by
              unfold Hid
              rw [txt_app, HWT.out, if_neg (by omega), if_pos rfl]
              rfl
            have hcn := txt_new wr 24 (by omega) (by omega) 1
            have hcnd : (convert 134 9 (.slice (some ⟨wr.heap.size, 0, none⟩) 1 1)).run Tryz.prog (wr.alloc (.cells #[.int .u8 24] 5)).drew = .ok (.string (txt [24])) (wr.alloc (.cells #[.int .u8 24] 5)).drew := txt_conv _ _ 1 24 (by omega) (by omega) (cell_of_cells (w := (wr.alloc (.cells #[.int .u8 24] 5)).drew) (j := 0) (heap_alloc_new wr _) rfl)
            have hcvd := conv_dig (wr.alloc (.cells #[.int .u8 24] 5)).drew g cap w.heap.size n 7 1 (by omega) (cap - 7) (hown.alloc _)
            have hcv0 := conv_dig wr.drew g cap w.heap.size n 7 1 (by omega) (cap - 7) hown
            have hcv2 := conv_dig (wr.alloc (.cells #[.int .u8 24] 5)) g cap w.heap.size n 7 1 (by omega) (cap - 7) (hown.alloc _)
            have hif : ¬ 9223372036854775807 < (txt [24]).size + (txt (dig n 1)).size := by rw [txt_size, txt_size, dig_len]; simp
            have HB := Go.Proofs.YtpaakikgfojplaaGreat.hid (HWB.out.alloc hbs (.cells #[.int .u8 24] 5))
            clear HWT hown hg7
            go_wp2
            go_region
            all_goals
              go_wp2
              go_ret
              exact ⟨congrArg (fun b => Ending.returned (Value.string b)) HN.out, by first | exact HB.out | exact HB.out.drew⟩
        · have h1' : (1 : Int) < (s : Int) := by omega
          have h1b : ((s : Int) == 1) = false := by rw [beq_eq_false_iff_ne]; omega
          have cS := (hown.cellAt (8 - s) (by omega)).trans (bcells_at (dig n 8) (8 - s) (by rw [dig_len]; omega))
          have hgS := dig_get n (s - 1) (by omega)
          rw [show 8 - (s - 1 + 1) = 8 - s by omega] at hgS
          rw [hgS] at cS
          have i1 : (0 : Int) ≤ 8 - (s : Int) := by omega
          have i2 : (8 : Int) - (s : Int) < 8 := by omega
          have HWD := Go.Proofs.YtpaakikgfojplaaGreat.hid (wants_down (n := n) (s := s) (by omega) hs8 HS.out)
          have HWS := Go.Proofs.YtpaakikgfojplaaGreat.hid (wants_stop (n := n) (s := s))
          generalize (UInt8.ofNat (n / 256 ^ (s - 1) % 256)).toNat = bb at *
          by_cases hb0 : bb = 0
          · have HS2 : Hid (n < 256 ^ (s - 1)) := HWD.out hb0
            subst hb0
            clear HWD HWS hgS
            go_wp2
            go_roundw
            case rel => exact ⟨s - 1, by omega, by omega, by go_num, HS2, trivial⟩
            case measure => simp [intOf]; omega
          · have hbb : ((bb : Int) == 0) = false := by rw [beq_eq_false_iff_ne]; omega
            have HWT := Go.Proofs.YtpaakikgfojplaaGreat.hid (num_of (show Wants n s from ⟨by omega, hs8, HS.out, Or.inr (HWS.out hb0)⟩))
            clear HWD HWS hgS hb0
            by_cases e2 : s = 2
            · subst e2
              have HN : Hid (txt [25] ++ txt (dig n 2) = txt (num n)) := by
                unfold Hid
                rw [txt_app, HWT.out, if_neg (by omega), if_neg (by omega), if_pos rfl]
                rfl
              have hcn := txt_new wr 25 (by omega) (by omega) 1
              have hcnd : (convert 134 9 (.slice (some ⟨wr.heap.size, 0, none⟩) 1 1)).run Tryz.prog (wr.alloc (.cells #[.int .u8 25] 5)).drew = .ok (.string (txt [25])) (wr.alloc (.cells #[.int .u8 25] 5)).drew := txt_conv _ _ 1 25 (by omega) (by omega) (cell_of_cells (w := (wr.alloc (.cells #[.int .u8 25] 5)).drew) (j := 0) (heap_alloc_new wr _) rfl)
              have hcvd := conv_dig (wr.alloc (.cells #[.int .u8 25] 5)).drew g cap w.heap.size n 6 2 (by omega) (cap - 6) (hown.alloc _)
              have hcv0 := conv_dig wr.drew g cap w.heap.size n 6 2 (by omega) (cap - 6) hown
              have hcv2 := conv_dig (wr.alloc (.cells #[.int .u8 25] 5)) g cap w.heap.size n 6 2 (by omega) (cap - 6) (hown.alloc _)
              have hif : ¬ 9223372036854775807 < (txt [25]).size + (txt (dig n 2)).size := by rw [txt_size, txt_size, dig_len]; simp
              have HB := Go.Proofs.YtpaakikgfojplaaGreat.hid (HWB.out.alloc hbs (.cells #[.int .u8 25] 5))
              clear HWT hown
              go_wp2
              go_region
              all_goals
                go_wp2
                go_ret
                exact ⟨congrArg (fun b => Ending.returned (Value.string b)) HN.out, by first | exact HB.out | exact HB.out.drew⟩
            · have e2b : ((s : Int) == 2) = false := by rw [beq_eq_false_iff_ne]; omega
              by_cases e4 : s ≤ 4
              · have e4' : (s : Int) ≤ 4 := by omega
                have HN : Hid (txt [26] ++ txt (dig n 4) = txt (num n)) := by
                  unfold Hid
                  rw [txt_app, HWT.out, if_neg (by omega), if_neg (by omega), if_neg e2, if_pos e4]
                  rfl
                have hcn := txt_new wr 26 (by omega) (by omega) 1
                have hcnd : (convert 134 9 (.slice (some ⟨wr.heap.size, 0, none⟩) 1 1)).run Tryz.prog (wr.alloc (.cells #[.int .u8 26] 5)).drew = .ok (.string (txt [26])) (wr.alloc (.cells #[.int .u8 26] 5)).drew := txt_conv _ _ 1 26 (by omega) (by omega) (cell_of_cells (w := (wr.alloc (.cells #[.int .u8 26] 5)).drew) (j := 0) (heap_alloc_new wr _) rfl)
                have hcvd := conv_dig (wr.alloc (.cells #[.int .u8 26] 5)).drew g cap w.heap.size n 4 4 (by omega) (cap - 4) (hown.alloc _)
                have hcv0 := conv_dig wr.drew g cap w.heap.size n 4 4 (by omega) (cap - 4) hown
                have hcv2 := conv_dig (wr.alloc (.cells #[.int .u8 26] 5)) g cap w.heap.size n 4 4 (by omega) (cap - 4) (hown.alloc _)
                have hif : ¬ 9223372036854775807 < (txt [26]).size + (txt (dig n 4)).size := by rw [txt_size, txt_size, dig_len]; simp
                have HB := Go.Proofs.YtpaakikgfojplaaGreat.hid (HWB.out.alloc hbs (.cells #[.int .u8 26] 5))
                clear HWT hown
                go_wp2
                go_region
                all_goals
                  go_wp2
                  go_ret
                  exact ⟨congrArg (fun b => Ending.returned (Value.string b)) HN.out, by first | exact HB.out | exact HB.out.drew⟩
              · have e4' : ¬ (s : Int) ≤ 4 := by omega
                have HN : Hid (txt [27] ++ txt (dig n 8) = txt (num n)) := by
                  unfold Hid
                  rw [txt_app, HWT.out, if_neg (by omega), if_neg (by omega), if_neg e2, if_neg e4]
                  rfl
                have hcn := txt_new wr 27 (by omega) (by omega) 1
                have hcv2 := conv_dig (wr.alloc (.cells #[.int .u8 27] 5)) g cap w.heap.size n 0 8 (by omega) cap (hown.alloc _)
                have hif : ¬ 9223372036854775807 < (txt [27]).size + (txt (dig n 8)).size := by rw [txt_size, txt_size, dig_len]; simp
                have HB := Go.Proofs.YtpaakikgfojplaaGreat.hid (HWB.out.alloc hbs (.cells #[.int .u8 27] 5))
                clear HWT hown
                go_wp2
                go_ret
                exact ⟨congrArg (fun b => Ending.returned (Value.string b)) HN.out, HB.out⟩

end Go.Proofs.YtpaakikgfojplaaGreat

