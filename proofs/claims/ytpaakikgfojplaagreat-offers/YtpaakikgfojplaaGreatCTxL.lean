import Derived.Test.YtpaakikgfojplaaGreatCM43
/-
  THE WALKS of the document's texts: a number is read with little care.
-/
namespace Go.Proofs.YtpaakikgfojplaaGreat
open Go.RowKit Num Bk Tx
set_option linter.unusedVariables false

/-- What is read, where a number stands. -/
def Reads1 (t : List UInt8) (i : Nat) (n : Int) (j : Nat) : Prop := ∀ m r, m < 9223372036854775808 → t.drop i = num m ++ r → n = (m : Int) ∧ j = i + (num m).length
def B64 (n : Int) : Prop := -9223372036854775808 ≤ n ∧ n ≤ 9223372036854775807

theorem num_head {t : List UInt8} {i m : Nat} {r : List UInt8} (h : i < t.length) (e : t.drop i = num m ++ r) : (t.getD i 0).toNat = kind m ∧ t.drop (i + 1) = dig m (sz (kind m)) ++ r := by
  rw [drop_cons t i h] at e
  unfold num at e
  rw [List.cons_append] at e
  simp only [List.cons.injEq] at e
  exact ⟨by rw [e.1, kind_byte], e.2⟩
theorem num_len (m : Nat) : (num m).length = 1 + sz (kind m) := by simp [num, dig_len]; omega
theorem val_part {m : Nat} (hm : m < 9223372036854775808) (k : Nat) (hk : k ≤ sz (kind m)) : val ((dig m (sz (kind m))).take k) < 9223372036854775808 ∧ (k = sz (kind m) → sz (kind m) ≠ 0 → val ((dig m (sz (kind m))).take k) = m) := by
  have hl : ((dig m (sz (kind m))).take k).length = k := by rw [List.length_take, dig_len]; omega
  constructor
  · by_cases hz : sz (kind m) = 0
    · have : k = 0 := by omega
      subst this
      simp [val]
    · have hle : ∀ (l : List UInt8) (k : Nat), val (l.take k) ≤ val l := by
        intro l k
        have e : l = l.take k ++ l.drop k := (List.take_append_drop k l).symm
        generalize l.take k = a at *
        generalize l.drop k = b at *
        subst e
        clear k
        refine snoc_ind (P := fun b => val a ≤ val (a ++ b)) b (by simp) ?_
        intro b c ih
        rw [← List.append_assoc, val_snoc]
        omega
      have h1 := hle (dig m (sz (kind m))) k
      rw [val_dig, Nat.mod_eq_of_lt (kind_fit hm hz)] at h1
      omega
  · intro h hz
    subst h
    rw [List.take_of_length_le (by rw [dig_len]; omega), val_dig, Nat.mod_eq_of_lt (kind_fit hm hz)]

set_option maxHeartbeats 3200000 in
set_option maxRecDepth 1000000 in
theorem loose_is (t : List UInt8) (i : Nat) (w : World) (ht : t.length ≤ maxLen) (hi : i ≤ 64) :
    Calls Tryz.prog 87 #[.string (txt t), .int .i64 (i : Int)] w fun e w' => ∃ (n : Int) (j : Nat), e = .returned (.tuple #[.int .i64 n, .int .i64 (j : Int)]) ∧ w = w' ∧ B64 n ∧ j ≤ i + 9 ∧ Reads1 t i n j := by
  have HML := Go.Proofs.YtpaakikgfojplaaGreat.hid (show maxLen = 9223372036854775807 from rfl)
  have hl : t.length ≤ 9223372036854775807 := by rw [← HML.out]; exact ht
  clear ht HML
  have hsz := txt_size t
  by_cases h1 : i < t.length
  · have b1 : ¬ (t.length : Int) ≤ (i : Int) := by omega
    have hi0 : i < (txt t).size := by rw [hsz]; exact h1
    have hg : (txt t)[i] = t.getD i 0 := txt_get t i hi0
    have HH := Go.Proofs.YtpaakikgfojplaaGreat.hid (fun m r (e : t.drop i = num m ++ r) => num_head h1 e)
    have HTG := Go.Proofs.YtpaakikgfojplaaGreat.hid (fun j (h : j < (txt t).size) => txt_get t j h)
    have hbl := (t.getD i 0).toNat_lt
    generalize hb : t.getD i 0 = b at *
    clear hb
    by_cases c24 : b.toNat = 24
    · have HZ : Hid (∀ m r, m < 9223372036854775808 → t.drop i = num m ++ r → sz (kind m) = 1 ∧ t.drop (i + 1) = dig m 1 ++ r) := by
        intro m r hm e
        obtain ⟨e1, e2⟩ := HH.out m r e
        have e3 : sz (kind m) = 1 := by rw [← e1, c24]; rfl
        rw [e3] at e2
        exact ⟨e3, e2⟩
      clear HH hbl
      go_enter Tryz.func87, Tryz.ntmps87
      go_wp2
      go_loopw [7, 8] (fun n x wr => ∃ (k : Nat) (v : Int), k ≤ 1 ∧ n = .int .i64 v ∧ x = .int .i64 ((i + 1 + k : Nat) : Int) ∧ B64 v ∧ Hid (∀ m r, m < 9223372036854775808 → t.drop i = num m ++ r → v = ((val ((dig m 1).take k) : Nat) : Int)) ∧ wr = w) (fun _ x _ => 1 + i + 1 - (intOf x).toNat)
      case atStart => exact ⟨0, 0, by omega, rfl, rfl, ⟨by omega, by omega⟩, fun m r _ _ => by simp [val], rfl⟩
      case round =>
        obtain ⟨k, v, hk, rfl, rfl, hv, HV, rfl⟩ := hrel
        by_cases hz : k < 1
        · have z1 : ((i + 1 + k : Nat) : Int) ≤ (i : Int) + 1 := by omega
          by_cases hlt : i + 1 + k < t.length
          · have z2 : ((i + 1 + k : Nat) : Int) < (t.length : Int) := by omega
            have hx0 : i + 1 + k < (txt t).size := by rw [hsz]; exact hlt
            have HGX : Hid (∀ h : i + 1 + k < (txt t).size, (txt t)[i + 1 + k] = t.getD (i + 1 + k) 0) := fun h => HTG.out _ h
            have hcb := (t.getD (i + 1 + k) 0).toNat_lt
            have HST : Hid (∀ m r, m < 9223372036854775808 → t.drop i = num m ++ r → val ((dig m 1).take (k + 1)) = val ((dig m 1).take k) * 256 + (t.getD (i + 1 + k) 0).toNat ∧ val ((dig m 1).take (k + 1)) < 9223372036854775808) := by
              intro m r hm e
              obtain ⟨e1, e2⟩ := HZ.out m r hm e
              have h2 := val_part hm (k + 1) (by omega)
              rw [e1] at h2
              refine ⟨?_, h2.1⟩
              rw [val_take _ _ (by rw [dig_len]; omega)]
              have h3 := drop_getD t (i + 1) k
              rw [e2] at h3
              rw [← h3]
              simp [List.getD, List.getElem?_append, dig_len, hz]
            obtain ⟨hv1, hv2⟩ := hv
            clear c24
            generalize t.getD (i + 1 + k) 0 = cb at *
            generalize hcc : cb.toNat = cn at *
            go_wp2
            go_roundw
            case rel => 
              refine ⟨k + 1, _, by omega, rfl, by go_num, ?_, ?_, trivial⟩
              · unfold B64 wrap64
                omega
              · intro m r hm e
                obtain ⟨e1, e2⟩ := HST.out m r hm e
                have e3 := HV.out m r hm e
                simp only [HGX.out, hcc]
                rw [e1]
                rw [e1] at e2
                generalize val ((dig m 1).take k) = vv at *
                unfold wrap64
                omega
            case measure => simp [intOf]; omega
          · have z2 : ¬ ((i + 1 + k : Nat) : Int) < (t.length : Int) := by omega
            have HR : Hid (Reads1 t i v (i + 1 + 1)) := by
              intro m r hm e
              obtain ⟨e1, e2⟩ := HZ.out m r hm e
              have h3 := congrArg List.length e2
              rw [List.length_drop, List.length_append, dig_len] at h3
              omega
            have HBV := Go.Proofs.YtpaakikgfojplaaGreat.hid hv
            clear hv HV HZ
            go_wp2
            go_ret2
            exact ⟨v, i + 1 + 1, rfl, rfl, HBV.out, by omega, HR.out⟩
        · have hkz : k = 1 := by omega
          subst hkz
          have z1 : ¬ ((i + 1 + 1 : Nat) : Int) ≤ (i : Int) + 1 := by omega
          have HR : Hid (Reads1 t i v (i + 1 + 1)) := by
            intro m r hm e
            obtain ⟨e1, e2⟩ := HZ.out m r hm e
            have h2 := val_part hm 1 (by omega)
            rw [e1] at h2
            refine ⟨?_, by rw [num_len, e1, Nat.add_assoc]⟩
            rw [HV.out m r hm e, h2.2 rfl (by omega)]
          have HBV := Go.Proofs.YtpaakikgfojplaaGreat.hid hv
          clear hv HV HZ
          go_wp2
          go_ret2
          exact ⟨v, i + 1 + 1, rfl, rfl, HBV.out, by omega, HR.out⟩
    · skip
      by_cases c25 : b.toNat = 25
      · have HZ : Hid (∀ m r, m < 9223372036854775808 → t.drop i = num m ++ r → sz (kind m) = 2 ∧ t.drop (i + 1) = dig m 2 ++ r) := by
          intro m r hm e
          obtain ⟨e1, e2⟩ := HH.out m r e
          have e3 : sz (kind m) = 2 := by rw [← e1, c25]; rfl
          rw [e3] at e2
          exact ⟨e3, e2⟩
        clear HH hbl
        go_enter Tryz.func87, Tryz.ntmps87
        go_wp2
        go_loopw [7, 8] (fun n x wr => ∃ (k : Nat) (v : Int), k ≤ 2 ∧ n = .int .i64 v ∧ x = .int .i64 ((i + 1 + k : Nat) : Int) ∧ B64 v ∧ Hid (∀ m r, m < 9223372036854775808 → t.drop i = num m ++ r → v = ((val ((dig m 2).take k) : Nat) : Int)) ∧ wr = w) (fun _ x _ => 2 + i + 1 - (intOf x).toNat)
        case atStart => exact ⟨0, 0, by omega, rfl, rfl, ⟨by omega, by omega⟩, fun m r _ _ => by simp [val], rfl⟩
        case round =>
          obtain ⟨k, v, hk, rfl, rfl, hv, HV, rfl⟩ := hrel
          by_cases hz : k < 2
          · have z1 : ((i + 1 + k : Nat) : Int) ≤ (i : Int) + 2 := by omega
            by_cases hlt : i + 1 + k < t.length
            · have z2 : ((i + 1 + k : Nat) : Int) < (t.length : Int) := by omega
              have hx0 : i + 1 + k < (txt t).size := by rw [hsz]; exact hlt
              have HGX : Hid (∀ h : i + 1 + k < (txt t).size, (txt t)[i + 1 + k] = t.getD (i + 1 + k) 0) := fun h => HTG.out _ h
              have hcb := (t.getD (i + 1 + k) 0).toNat_lt
              have HST : Hid (∀ m r, m < 9223372036854775808 → t.drop i = num m ++ r → val ((dig m 2).take (k + 1)) = val ((dig m 2).take k) * 256 + (t.getD (i + 1 + k) 0).toNat ∧ val ((dig m 2).take (k + 1)) < 9223372036854775808) := by
                intro m r hm e
                obtain ⟨e1, e2⟩ := HZ.out m r hm e
                have h2 := val_part hm (k + 1) (by omega)
                rw [e1] at h2
                refine ⟨?_, h2.1⟩
                rw [val_take _ _ (by rw [dig_len]; omega)]
                have h3 := drop_getD t (i + 1) k
                rw [e2] at h3
                rw [← h3]
                simp [List.getD, List.getElem?_append, dig_len, hz]
              obtain ⟨hv1, hv2⟩ := hv
              clear c25
              generalize t.getD (i + 1 + k) 0 = cb at *
              generalize hcc : cb.toNat = cn at *
              go_wp2
              go_roundw
              case rel => 
                refine ⟨k + 1, _, by omega, rfl, by go_num, ?_, ?_, trivial⟩
                · unfold B64 wrap64
                  omega
                · intro m r hm e
                  obtain ⟨e1, e2⟩ := HST.out m r hm e
                  have e3 := HV.out m r hm e
                  simp only [HGX.out, hcc]
                  rw [e1]
                  rw [e1] at e2
                  generalize val ((dig m 2).take k) = vv at *
                  unfold wrap64
                  omega
              case measure => simp [intOf]; omega
            · have z2 : ¬ ((i + 1 + k : Nat) : Int) < (t.length : Int) := by omega
              have HR : Hid (Reads1 t i v (i + 1 + 2)) := by
                intro m r hm e
                obtain ⟨e1, e2⟩ := HZ.out m r hm e
                have h3 := congrArg List.length e2
                rw [List.length_drop, List.length_append, dig_len] at h3
                omega
              have HBV := Go.Proofs.YtpaakikgfojplaaGreat.hid hv
              clear hv HV HZ
              go_wp2
              go_ret2
              exact ⟨v, i + 1 + 2, rfl, rfl, HBV.out, by omega, HR.out⟩
          · have hkz : k = 2 := by omega
            subst hkz
            have z1 : ¬ ((i + 1 + 2 : Nat) : Int) ≤ (i : Int) + 2 := by omega
            have HR : Hid (Reads1 t i v (i + 1 + 2)) := by
              intro m r hm e
              obtain ⟨e1, e2⟩ := HZ.out m r hm e
              have h2 := val_part hm 2 (by omega)
              rw [e1] at h2
              refine ⟨?_, by rw [num_len, e1, Nat.add_assoc]⟩
              rw [HV.out m r hm e, h2.2 rfl (by omega)]
            have HBV := Go.Proofs.YtpaakikgfojplaaGreat.hid hv
            clear hv HV HZ
            go_wp2
            go_ret2
            exact ⟨v, i + 1 + 2, rfl, rfl, HBV.out, by omega, HR.out⟩
      · skip
        by_cases c26 : b.toNat = 26
        · have HZ : Hid (∀ m r, m < 9223372036854775808 → t.drop i = num m ++ r → sz (kind m) = 4 ∧ t.drop (i + 1) = dig m 4 ++ r) := by
            intro m r hm e
            obtain ⟨e1, e2⟩ := HH.out m r e
            have e3 : sz (kind m) = 4 := by rw [← e1, c26]; rfl
            rw [e3] at e2
            exact ⟨e3, e2⟩
          clear HH hbl
          go_enter Tryz.func87, Tryz.ntmps87
          go_wp2
          go_loopw [7, 8] (fun n x wr => ∃ (k : Nat) (v : Int), k ≤ 4 ∧ n = .int .i64 v ∧ x = .int .i64 ((i + 1 + k : Nat) : Int) ∧ B64 v ∧ Hid (∀ m r, m < 9223372036854775808 → t.drop i = num m ++ r → v = ((val ((dig m 4).take k) : Nat) : Int)) ∧ wr = w) (fun _ x _ => 4 + i + 1 - (intOf x).toNat)
          case atStart => exact ⟨0, 0, by omega, rfl, rfl, ⟨by omega, by omega⟩, fun m r _ _ => by simp [val], rfl⟩
          case round =>
            obtain ⟨k, v, hk, rfl, rfl, hv, HV, rfl⟩ := hrel
            by_cases hz : k < 4
            · have z1 : ((i + 1 + k : Nat) : Int) ≤ (i : Int) + 4 := by omega
              by_cases hlt : i + 1 + k < t.length
              · have z2 : ((i + 1 + k : Nat) : Int) < (t.length : Int) := by omega
                have hx0 : i + 1 + k < (txt t).size := by rw [hsz]; exact hlt
                have HGX : Hid (∀ h : i + 1 + k < (txt t).size, (txt t)[i + 1 + k] = t.getD (i + 1 + k) 0) := fun h => HTG.out _ h
                have hcb := (t.getD (i + 1 + k) 0).toNat_lt
                have HST : Hid (∀ m r, m < 9223372036854775808 → t.drop i = num m ++ r → val ((dig m 4).take (k + 1)) = val ((dig m 4).take k) * 256 + (t.getD (i + 1 + k) 0).toNat ∧ val ((dig m 4).take (k + 1)) < 9223372036854775808) := by
                  intro m r hm e
                  obtain ⟨e1, e2⟩ := HZ.out m r hm e
                  have h2 := val_part hm (k + 1) (by omega)
                  rw [e1] at h2
                  refine ⟨?_, h2.1⟩
                  rw [val_take _ _ (by rw [dig_len]; omega)]
                  have h3 := drop_getD t (i + 1) k
                  rw [e2] at h3
                  rw [← h3]
                  simp [List.getD, List.getElem?_append, dig_len, hz]
                obtain ⟨hv1, hv2⟩ := hv
                clear c26
                generalize t.getD (i + 1 + k) 0 = cb at *
                generalize hcc : cb.toNat = cn at *
                go_wp2
                go_roundw
                case rel => 
                  refine ⟨k + 1, _, by omega, rfl, by go_num, ?_, ?_, trivial⟩
                  · unfold B64 wrap64
                    omega
                  · intro m r hm e
                    obtain ⟨e1, e2⟩ := HST.out m r hm e
                    have e3 := HV.out m r hm e
                    simp only [HGX.out, hcc]
                    rw [e1]
                    rw [e1] at e2
                    generalize val ((dig m 4).take k) = vv at *
                    unfold wrap64
                    omega
                case measure => simp [intOf]; omega
              · have z2 : ¬ ((i + 1 + k : Nat) : Int) < (t.length : Int) := by omega
                have HR : Hid (Reads1 t i v (i + 1 + 4)) := by
                  intro m r hm e
                  obtain ⟨e1, e2⟩ := HZ.out m r hm e
                  have h3 := congrArg List.length e2
                  rw [List.length_drop, List.length_append, dig_len] at h3
                  omega
                have HBV := Go.Proofs.YtpaakikgfojplaaGreat.hid hv
                clear hv HV HZ
                go_wp2
                go_ret2
                exact ⟨v, i + 1 + 4, rfl, rfl, HBV.out, by omega, HR.out⟩
            · have hkz : k = 4 := by omega
              subst hkz
              have z1 : ¬ ((i + 1 + 4 : Nat) : Int) ≤ (i : Int) + 4 := by omega
              have HR : Hid (Reads1 t i v (i + 1 + 4)) := by
                intro m r hm e
                obtain ⟨e1, e2⟩ := HZ.out m r hm e
                have h2 := val_part hm 4 (by omega)
                rw [e1] at h2
                refine ⟨?_, by rw [num_len, e1, Nat.add_assoc]⟩
                rw [HV.out m r hm e, h2.2 rfl (by omega)]
              have HBV := Go.Proofs.YtpaakikgfojplaaGreat.hid hv
              clear hv HV HZ
              go_wp2
              go_ret2
              exact ⟨v, i + 1 + 4, rfl, rfl, HBV.out, by omega, HR.out⟩
        · skip
          by_cases c27 : b.toNat = 27
          · have HZ : Hid (∀ m r, m < 9223372036854775808 → t.drop i = num m ++ r → sz (kind m) = 8 ∧ t.drop (i + 1) = dig m 8 ++ r) := by
              intro m r hm e
              obtain ⟨e1, e2⟩ := HH.out m r e
              have e3 : sz (kind m) = 8 := by rw [← e1, c27]; rfl
              rw [e3] at e2
              exact ⟨e3, e2⟩
            clear HH hbl
            go_enter Tryz.func87, Tryz.ntmps87
            go_wp2
            go_loopw [7, 8] (fun n x wr => ∃ (k : Nat) (v : Int), k ≤ 8 ∧ n = .int .i64 v ∧ x = .int .i64 ((i + 1 + k : Nat) : Int) ∧ B64 v ∧ Hid (∀ m r, m < 9223372036854775808 → t.drop i = num m ++ r → v = ((val ((dig m 8).take k) : Nat) : Int)) ∧ wr = w) (fun _ x _ => 8 + i + 1 - (intOf x).toNat)
            case atStart => exact ⟨0, 0, by omega, rfl, rfl, ⟨by omega, by omega⟩, fun m r _ _ => by simp [val], rfl⟩
            case round =>
              obtain ⟨k, v, hk, rfl, rfl, hv, HV, rfl⟩ := hrel
              by_cases hz : k < 8
              · have z1 : ((i + 1 + k : Nat) : Int) ≤ (i : Int) + 8 := by omega
                by_cases hlt : i + 1 + k < t.length
                · have z2 : ((i + 1 + k : Nat) : Int) < (t.length : Int) := by omega
                  have hx0 : i + 1 + k < (txt t).size := by rw [hsz]; exact hlt
                  have HGX : Hid (∀ h : i + 1 + k < (txt t).size, (txt t)[i + 1 + k] = t.getD (i + 1 + k) 0) := fun h => HTG.out _ h
                  have hcb := (t.getD (i + 1 + k) 0).toNat_lt
                  have HST : Hid (∀ m r, m < 9223372036854775808 → t.drop i = num m ++ r → val ((dig m 8).take (k + 1)) = val ((dig m 8).take k) * 256 + (t.getD (i + 1 + k) 0).toNat ∧ val ((dig m 8).take (k + 1)) < 9223372036854775808) := by
                    intro m r hm e
                    obtain ⟨e1, e2⟩ := HZ.out m r hm e
                    have h2 := val_part hm (k + 1) (by omega)
                    rw [e1] at h2
                    refine ⟨?_, h2.1⟩
                    rw [val_take _ _ (by rw [dig_len]; omega)]
                    have h3 := drop_getD t (i + 1) k
                    rw [e2] at h3
                    rw [← h3]
                    simp [List.getD, List.getElem?_append, dig_len, hz]
                  obtain ⟨hv1, hv2⟩ := hv
                  clear c27
                  generalize t.getD (i + 1 + k) 0 = cb at *
                  generalize hcc : cb.toNat = cn at *
                  go_wp2
                  go_roundw
                  case rel => 
                    refine ⟨k + 1, _, by omega, rfl, by go_num, ?_, ?_, trivial⟩
                    · unfold B64 wrap64
                      omega
                    · intro m r hm e
                      obtain ⟨e1, e2⟩ := HST.out m r hm e
                      have e3 := HV.out m r hm e
                      simp only [HGX.out, hcc]
                      rw [e1]
                      rw [e1] at e2
                      generalize val ((dig m 8).take k) = vv at *
                      unfold wrap64
                      omega
                  case measure => simp [intOf]; omega
                · have z2 : ¬ ((i + 1 + k : Nat) : Int) < (t.length : Int) := by omega
                  have HR : Hid (Reads1 t i v (i + 1 + 8)) := by
                    intro m r hm e
                    obtain ⟨e1, e2⟩ := HZ.out m r hm e
                    have h3 := congrArg List.length e2
                    rw [List.length_drop, List.length_append, dig_len] at h3
                    omega
                  have HBV := Go.Proofs.YtpaakikgfojplaaGreat.hid hv
                  clear hv HV HZ
                  go_wp2
                  go_ret2
                  exact ⟨v, i + 1 + 8, rfl, rfl, HBV.out, by omega, HR.out⟩
              · have hkz : k = 8 := by omega
                subst hkz
                have z1 : ¬ ((i + 1 + 8 : Nat) : Int) ≤ (i : Int) + 8 := by omega
                have HR : Hid (Reads1 t i v (i + 1 + 8)) := by
                  intro m r hm e
                  obtain ⟨e1, e2⟩ := HZ.out m r hm e
                  have h2 := val_part hm 8 (by omega)
                  rw [e1] at h2
                  refine ⟨?_, by rw [num_len, e1, Nat.add_assoc]⟩
                  rw [HV.out m r hm e, h2.2 rfl (by omega)]
                have HBV := Go.Proofs.YtpaakikgfojplaaGreat.hid hv
                clear hv HV HZ
                go_wp2
                go_ret2
                exact ⟨v, i + 1 + 8, rfl, rfl, HBV.out, by omega, HR.out⟩
          · skip
            have g1 : ((b.toNat : Int) == 24) = false := by rw [beq_eq_false_iff_ne]; omega
            have g2 : ((b.toNat : Int) == 25) = false := by rw [beq_eq_false_iff_ne]; omega
            have g3 : ((b.toNat : Int) == 26) = false := by rw [beq_eq_false_iff_ne]; omega
            have g4 : ((b.toNat : Int) == 27) = false := by rw [beq_eq_false_iff_ne]; omega
            have HR : Hid (Reads1 t i (b.toNat : Int) (i + 1)) := by
              intro m r hm e
              obtain ⟨e1, e2⟩ := HH.out m r e
              have hs0 : sz (kind m) = 0 := by rw [← e1]; unfold sz; rw [if_neg c24, if_neg c25, if_neg c26, if_neg c27]
              exact ⟨by rw [e1, kind_small hs0], by rw [num_len, hs0]⟩
            clear HH HTG c24 c25 c26 c27
            go_enter Tryz.func87, Tryz.ntmps87
            go_wp2
            go_ret2
            exact ⟨(b.toNat : Int), i + 1, rfl, rfl, ⟨by omega, by omega⟩, by omega, HR.out⟩
  · have b1 : (t.length : Int) ≤ (i : Int) := by omega
    have HR : Hid (Reads1 t i 0 (t.length + 1)) := by
      intro m r _ e
      rw [List.drop_of_length_le (by omega)] at e
      unfold num at e
      simp at e
    clear h1
    go_enter Tryz.func87, Tryz.ntmps87
    go_wp2
    go_ret2
    exact ⟨0, t.length + 1, rfl, rfl, ⟨by omega, by omega⟩, by omega, HR.out⟩

end Go.Proofs.YtpaakikgfojplaaGreat

