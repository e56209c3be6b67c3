import Derived.Test.YtpaakikgfojplaaGreatProg
import Derived.Test.YtpaakikgfojplaaGreatCNum
import Derived.WalkKit
import Derived.WalkSpells
import Derived.Deep.AppendLies
import Derived.BigQuiet
import Derived.Deep.QuietTactic
/-
  THE WALKS of the program's own numbers: multiply, multiplyPower (package draw), by contracts.
-/
namespace Go.Proofs.YtpaakikgfojplaaGreat
open Go.RowKit Num

theorem Tryz.info3 : (Tryz.prog.info? 3).map (fun i => (i.zero, i.size, i.bytes)) = some (some (.int .i64 0), 1, 8) := by kernel_rfl

theorem hid {p : Prop} (h : p) : Hid p := h

/-- Digits as cells. -/
def dcells (ds : List Nat) : List Value := ds.map fun d : Nat => Value.int .i64 (d : Int)

theorem dcells_append (xs ys : List Nat) : dcells (xs ++ ys) = dcells xs ++ dcells ys := by simp [dcells]
theorem dcells_length (xs : List Nat) : (dcells xs).length = xs.length := by simp [dcells]
theorem dcells_set (xs : List Nat) (k x : Nat) : (dcells xs).set k (.int .i64 (x : Int)) = dcells (xs.set k x) := by simp [dcells, List.map_set]
theorem dcells_at (xs : List Nat) (k : Nat) (h : k < xs.length) : (dcells xs)[k]? = some (.int .i64 ((xs.getD k 0 : Nat) : Int)) := by
  simp [dcells, List.getD, h]

/-- A number of the program's at block p: its digits, in a row of its own. -/
structure NumAt (base : Nat) (w : World) (p g cap : Nat) (ds : List Nat) : Prop where
  lo : base ≤ p
  blk : w.heap[p]? = some (.cells #[.slice (some ⟨g, 0, none⟩) ds.length cap] 144 (0, 0))
  own : w.ownsRow base 3 1 (.slice (some ⟨g, 0, none⟩) ds.length cap) ds.length (dcells ds)

theorem own_block {w : World} {base g n cap : Nat} {xs : List Value} (h : w.ownsRow base 3 1 (.slice (some ⟨g, 0, none⟩) n cap) n xs) : ∃ cur, w.heap[g]? = some (.cells cur 3 (0, 0)) ∧ base ≤ g := by
  rcases h.2 with ⟨h', _⟩ | ⟨g', cap', cur, h', hb, hg, _⟩
  · simp at h'
  · simp only [Value.slice.injEq, Option.some.injEq, Addr.mk.injEq, and_true, true_and] at h'
    obtain ⟨rfl, rfl⟩ := h'
    exact ⟨cur, hg, hb⟩

theorem apart_of {w : World} {base g n cap p : Nat} {v : Value} {xs : List Value} (h : w.ownsRow base 3 1 (.slice (some ⟨g, 0, none⟩) n cap) n xs) (hp : w.heap[p]? = some (.cells #[v] 144 (0, 0))) : p ≠ g := by
  rintro rfl
  obtain ⟨cur, hg, _⟩ := own_block h
  rw [hg] at hp
  simp at hp

/-- What one round leaves. -/
theorem mul_round {base p g n cap k x : Nat} {w wr : World} {v : Value} {ds outs : List Nat} (hp : wr.heap[p]? = some (.cells #[v] 144 (0, 0)))
    (hown : wr.ownsRow base 3 1 (.slice (some ⟨g, 0, none⟩) n cap) n (dcells (outs ++ ds.drop k))) (hb : Below base w wr) (hl : outs.length = k) (hk : k < ds.length) :
    (wr.setCell ⟨g, k, none⟩ (.int .i64 (x : Int))).heap[p]? = some (.cells #[v] 144 (0, 0)) ∧
    (wr.setCell ⟨g, k, none⟩ (.int .i64 (x : Int))).ownsRow base 3 1 (.slice (some ⟨g, 0, none⟩) n cap) n (dcells ((outs ++ [x]) ++ ds.drop (k + 1))) ∧
    Below base w (wr.setCell ⟨g, k, none⟩ (.int .i64 (x : Int))) := by
  have hne := apart_of hown hp
  obtain ⟨_, _, hbg⟩ := own_block hown
  refine ⟨by rw [Below.heap_setCell _ _ _ _ hne]; exact hp, ?_, hb.setCell hbg _⟩
  have := (hown.stored k (.int .i64 (x : Int))).1
  rwa [dcells_set, set_at outs ds k x hl hk] at this

theorem cell_in {base g n cap k : Nat} {wr : World} {ds outs : List Nat} (hown : wr.ownsRow base 3 1 (.slice (some ⟨g, 0, none⟩) n cap) n (dcells (outs ++ ds.drop k))) (hl : outs.length = k) (hk : k < ds.length) (hn : n = ds.length) :
    wr.cell? ⟨g, k, none⟩ = some (.int .i64 ((ds.getD k 0 : Nat) : Int)) := by
  rw [hown.cellAt k (by omega), dcells_at _ _ (by simp; omega)]
  have e : (outs ++ ds.drop k).getD k 0 = ds.getD k 0 := by
    simp only [List.getD, List.getElem?_append_right (show outs.length ≤ k by omega), hl, Nat.sub_self, List.getElem?_drop, Nat.add_zero]
  rw [e]

theorem dig_lt {B : Nat} {ds : List Nat} (h : ∀ d ∈ ds, d < B) {k : Nat} (hk : k < ds.length) : ds.getD k 0 < B := by
  have := h ds[k] (List.getElem_mem hk)
  simpa [List.getD, hk] using this

set_option maxHeartbeats 1600000 in
set_option maxRecDepth 1000000 in
theorem multiply_any (base p g cap f : Nat) (ds : List Nat) (w : World) (h : NumAt base w p g cap ds) (hg : DGood 1125899906842624 ds) (hf1 : 1 ≤ f) (hf : f ≤ 1024) (hlen : ds.length ≤ 1000) :
    Calls Tryz.prog 108 #[.pointer (some ⟨p, 0, none⟩), .int .i64 (f : Int)] w fun e w' => e = .returned (.tuple #[]) ∧
      ∃ g' cap' ds', NumAt base w' p g' cap' ds' ∧ DGood 1125899906842624 ds' ∧ dval 1125899906842624 ds' = f * dval 1125899906842624 ds ∧ ds'.length ≤ ds.length + 1 ∧ Below base w w' := by
  obtain ⟨i0, hi, hz0, hz1, hz2⟩ := info_parts Tryz.info3
  obtain ⟨hlo, hblk, hown⟩ := h
  have hcp := cell_of_one hblk
  go_enter Tryz.func108, Tryz.ntmps108
  go_wp2
  go_loopw [4, 5] (fun c i wr => ∃ (k c0 : Nat) (outs : List Nat), k ≤ ds.length ∧ i = .int .i64 k ∧ c = .int .i64 c0 ∧ DPart 1125899906842624 f ds k outs c0 ∧
      wr.heap[p]? = some (.cells #[.slice (some ⟨g, 0, none⟩) ds.length cap] 144 (0, 0)) ∧
      wr.ownsRow base 3 1 (.slice (some ⟨g, 0, none⟩) ds.length cap) ds.length (dcells (outs ++ ds.drop k)) ∧ Below base w wr)
    (fun _ i _ => ds.length - (intOf i).toNat)
  case atStart => exact ⟨0, 0, [], Nat.zero_le _, rfl, rfl, DPart.start _ _ _, hblk, by simpa using hown, Below.refl _ _⟩
  case round =>
    clear hcp
    obtain ⟨k, c0, outs, hk, rfl, rfl, hpart, hblk', hown', hbel⟩ := hrel
    have hcp := cell_of_one hblk'
    have hc0 := hpart.carry
    have hol := hpart.len
    by_cases hlt : k < ds.length
    · have hci := cell_in hown' hpart.len hlt rfl
      have hfi := hown'.frozenAt k
      have hd := dig_lt hg.small hlt
      have R := fun x => mul_round (x := x) hblk' hown' hbel hpart.len hlt
      have P := hpart.step hf hg.small hlt
      generalize ds.getD k 0 = d at hci hd P
      have hm : (d : Int) * (f : Int) ≤ 1125899906842623 * 1024 := by
        have : d * f ≤ 1125899906842623 * 1024 := Nat.mul_le_mul (by omega) hf
        rw [← Int.natCast_mul]; omega
      have hm0 : 0 ≤ (d : Int) * (f : Int) := by rw [← Int.natCast_mul]; omega
      clear hblk' hown' hbel hpart hown hblk hg
      have HR := hid R
      have HP := hid P
      clear R P
      go_wp2
      go_roundw
      case rel =>
        have e1 : ((d : Int) * (f : Int) + (c0 : Int)) % 1125899906842624 = (((d * f + c0) % 1125899906842624 : Nat) : Int) := by omega
        have e2 : ((d : Int) * (f : Int) + (c0 : Int)) / 1125899906842624 = (((d * f + c0) / 1125899906842624 : Nat) : Int) := by omega
        rw [e1, e2]
        exact ⟨k + 1, _, _, by omega, by go_num, rfl, HP.out, (HR.out _).1, (HR.out _).2.1, (HR.out _).2.2⟩
      case measure => simp [intOf]; omega
    · have hkn : k = ds.length := by omega
      subst hkn
      by_cases hz : c0 = 0
      · subst hz
        go_wp2
        go_end0
        have D := hpart.done hf1 hg
        refine ⟨rfl, g, cap, outs, ⟨hlo, ?_, ?_⟩, D.1, D.2, by omega, hbel⟩
        · rw [hol]; exact hblk'
        · rw [hol]; simpa using hown'
      · have hpos : 0 < c0 := by omega
        have M := hpart.more (by omega) hpos
        have hown2 : wr.ownsRow base 3 1 (.slice (some ⟨g, 0, none⟩) ds.length cap) ds.length (dcells outs) := by simpa using hown'
        have hsz := hbel.size
        have hpl := lt_of_block hblk'
        have hne := apart_of hown' hblk'
        obtain ⟨_, hgb, hbg⟩ := own_block hown'
        have hgl := lt_of_block hgb
        clear hown' hown hblk hg hlt hk
        go_wp2_with (at_builtin; refine wpList_append_lies _ rfl (.tmp 43) (.tmp 45) 22 rfl base 3 i0 (.int .i64 0) 1 8 Tryz.underlying22 hi hz0 hz1 hz2 rfl (by omega) _ ds.length (dcells outs) rfl (hown2.alloc _) ⟨wr.heap.size, 0, none⟩ 1 1 [.int .i64 (c0 : Int)] rfl rfl ?c1 ?c2 (by omega) ?c3 (by omega) ?c4 (wr.heap.size + 1) (by simp) ?_)
        case c1 => exact cell_one_new _ _ _
        case c2 => intro u hu; simp at hu; subst hu; rfl
        case c3 => unfold maxLen; omega
        case c4 => simp; omega
        intro g2 cap2 w1 hown3 hgrow hat hlt2
        have hb1 : w1.heap[p]? = some (.cells #[.slice (some ⟨g, 0, none⟩) ds.length cap] 144 (0, 0)) := by
          rw [hgrow.block p (by simp; omega) (by simpa [Value.ownBlock] using hne), Below.heap_alloc _ _ _ hpl]; exact hblk'
        have hc1 := cell_of_one hb1
        have hf1' := free_of_one hb1
        have hbel1 : Below base w w1 := (hbel.alloc (by omega) _).grown hgrow (by simp; omega) (by simp [Value.ownBlock]; exact hbg)
        have hne2 := apart_of hown3 hb1
        have ho : (w1.setCell ⟨p, 0, none⟩ (.slice (some ⟨g2, 0, none⟩) (ds.length + 1) cap2)).ownsRow base 3 1 (.slice (some ⟨g2, 0, none⟩) (ds.length + 1) cap2) (ds.length + 1) (dcells outs ++ [.int .i64 (c0 : Int)]) :=
          ownsRow_setCell_other hown3 (by simpa [Value.ownBlock] using Ne.symm hne2) _
        have hs1 := one_setCell (u := .slice (some ⟨g2, 0, none⟩) (ds.length + 1) cap2) hb1
        have HO := hid ho
        have HS := hid hs1
        have HB := hid (hbel1.setCell (p := ⟨p, 0, none⟩) (by exact hlo) (.slice (some ⟨g2, 0, none⟩) (ds.length + 1) cap2))
        have HM := hid M
        clear ho hs1 hown3 hgrow hat hbel1 M hb1 hblk' hgb hown2 hpart hbel
        go_wp2
        go_end0
        refine ⟨rfl, g2, cap2, outs ++ [c0], ⟨hlo, ?_, ?_⟩, HM.out.1, HM.out.2, by simp; omega, HB.out⟩
        · rw [List.length_append, hol]; exact HS.out
        · rw [List.length_append, hol, dcells_append]; exact HO.out
end Go.Proofs.YtpaakikgfojplaaGreat

/-
  THE WALKS of package draw: multiplyPower, one, isLess, isBelowEdge, Leads; beacon.Leads.
-/
namespace Go.Proofs.YtpaakikgfojplaaGreat
open Go.RowKit Num

set_option maxHeartbeats 800000 in
set_option maxRecDepth 1000000 in
theorem power_any (base p g cap f n : Nat) (ds : List Nat) (w : World) (h : NumAt base w p g cap ds) (hg : DGood 1125899906842624 ds) (hf1 : 1 ≤ f) (hf : f ≤ 1024) (hlen : ds.length + n ≤ 1000) :
    Calls Tryz.prog 104 #[.pointer (some ⟨p, 0, none⟩), .int .i64 (f : Int), .int .i64 (n : Int)] w fun e w' => e = .returned (.tuple #[]) ∧
      ∃ g' cap' ds', NumAt base w' p g' cap' ds' ∧ DGood 1125899906842624 ds' ∧ dval 1125899906842624 ds' = f ^ n * dval 1125899906842624 ds ∧ ds'.length ≤ ds.length + n ∧ Below base w w' := by
  go_enter Tryz.func104, Tryz.ntmps104
  go_wp2
  go_loopw [6] (fun i wr => ∃ (k g' cap' : Nat) (ds' : List Nat), k ≤ n ∧ i = .int .i64 k ∧ NumAt base wr p g' cap' ds' ∧ DGood 1125899906842624 ds' ∧ dval 1125899906842624 ds' = f ^ k * dval 1125899906842624 ds ∧ ds'.length ≤ ds.length + k ∧ Below base w wr)
    (fun i _ => n - (intOf i).toNat)
  case atStart => exact ⟨0, g, cap, ds, Nat.zero_le _, rfl, h, hg, by simp, by omega, Below.refl _ _⟩
  case round =>
    clear h hg
    obtain ⟨k, g', cap', ds', hk, rfl, hN, hG, hV, hL, hB⟩ := hrel
    have HV := hid hV
    clear hV
    by_cases hlt : k < n
    · go_wp2_with (go_at_call 108; refine (multiply_any base p g' cap' f ds' _ hN hG hf1 hf (by omega)).mono ?_; rintro e w1 ⟨rfl, g2, cap2, ds2, hN2, hG2, hV2, hL2, hB2⟩; have HV2 := hid hV2; clear hV2)
      go_roundw
      case rel =>
        exact ⟨k + 1, g2, cap2, ds2, by omega, by go_num, hN2, hG2, by rw [HV2.out, HV.out, Nat.pow_succ, Nat.mul_comm (f ^ k) f, Nat.mul_assoc], by omega, hB.trans hB2⟩
      case measure => simp [intOf]; omega
    · go_wp2
      go_end0
      have hkn : k = n := by omega
      subst hkn
      exact ⟨rfl, g', cap', ds', hN, hG, HV.out, hL, hB⟩

set_option maxHeartbeats 400000 in
theorem one_any (w : World) :
    Calls Tryz.prog 103 #[] w fun e w' => e = .returned (.pointer (some ⟨w.heap.size + 1, 0, none⟩)) ∧
      NumAt w.heap.size w' (w.heap.size + 1) w.heap.size 1 [1] ∧ Below w.heap.size w w' := by
  go_enter Tryz.func103, Tryz.ntmps103
  go_wp2
  go_ret
  refine ⟨rfl, ⟨by omega, ?_, ?_⟩, ((Below.refl _ _).alloc (Nat.le_refl _) _).alloc (by simp) _⟩
  · have := heap_alloc_new (w.alloc (.cells #[.int .i64 1] 3)) (.cells #[.slice (some ⟨w.heap.size, 0, none⟩) 1 1] 144)
    simpa using this
  · have h := World.ownsRow_lit (base := w.heap.size) (e := 3) (size := 1) w #[.int .i64 1] 1 (Nat.le_refl _) (by unfold maxLen; omega) rfl
    exact h.alloc _

theorem drawB {B : Nat} {a w : World} (h : Below B a w) (n : Nat) : Below B a (w.drewN n) := ⟨h.os, h.tape, h.output, h.size, h.block⟩

/-- Two numbers, one below the other. -/
theorem less_by {B : Nat} {xs ys : List Nat} (hB : 1 ≤ B) (hx : DGood B xs) (hy : DGood B ys) (h : xs.length ≠ ys.length) : decide (xs.length < ys.length) = decide (dval B xs < dval B ys) := by
  rcases Nat.lt_or_ge xs.length ys.length with h' | h'
  · rw [decide_eq_true h', decide_eq_true (lt_of_len hB hx hy h')]
  · have := lt_of_len hB hy hx (by omega)
    rw [decide_eq_false (by omega), decide_eq_false (by omega)]

theorem less_at {B : Nat} {xs ys : List Nat} (hx : DGood B xs) (hy : DGood B ys) (i : Nat) (hi : i < xs.length) (hj : i < ys.length) (hd : xs.drop (i + 1) = ys.drop (i + 1)) (h : xs.getD i 0 ≠ ys.getD i 0) :
    decide (((xs.getD i 0 : Nat) : Int) < ((ys.getD i 0 : Nat) : Int)) = decide (dval B xs < dval B ys) := by
  rcases Nat.lt_or_ge (xs.getD i 0) (ys.getD i 0) with h' | h'
  · rw [decide_eq_true (by omega), decide_eq_true (lt_of_digit hx i hi hj hd h')]
  · have := lt_of_digit hy i hj hi hd.symm (by omega)
    rw [decide_eq_false (by omega), decide_eq_false (by omega)]

set_option maxHeartbeats 1600000 in
set_option maxRecDepth 1000000 in
theorem less_any (base base' p g cap q r cap' : Nat) (xs ys : List Nat) (w : World) (hx : NumAt base w p g cap xs) (hy : NumAt base' w q r cap' ys) (gx : DGood 1125899906842624 xs) (gy : DGood 1125899906842624 ys)
    (hlx : xs.length ≤ 2000) :
    Calls Tryz.prog 105 #[.pointer (some ⟨p, 0, none⟩), .pointer (some ⟨q, 0, none⟩)] w fun e w' => e = .returned (.bool (decide (dval 1125899906842624 xs < dval 1125899906842624 ys))) ∧ Below w.heap.size w w' := by
  have cx := cell_of_one hx.blk
  have cy := cell_of_one hy.blk
  have ox := hx.own
  have oy := hy.own
  clear hx hy
  by_cases hne : xs.length = ys.length
  · have hb : (((xs.length : Nat) : Int) != ((ys.length : Nat) : Int)) = false := by simp [hne]
    go_enter Tryz.func105, Tryz.ntmps105
    go_wp2
    go_quiet (fail)
    go_wp2
    go_loopw [5] (fun i wr => ∃ (k nq : Nat), k ≤ xs.length ∧ i = .int .i64 ((k : Int) - 1) ∧ xs.drop k = ys.drop k ∧ wr = w.drewN nq)
      (fun i _ => (intOf i + 1).toNat)
    case atStart => exact ⟨xs.length, _, Nat.le_refl _, by go_num, by rw [List.drop_of_length_le (by omega), List.drop_of_length_le (by omega)], rfl⟩
    case round =>
      obtain ⟨k, nq, hk, rfl, hd, rfl⟩ := hrel
      rcases Nat.eq_zero_or_pos k with h0 | h0
      · subst h0
        have he : xs = ys := eq_of_drop hd
        have HE := hid he
        clear he hd
        go_wp2
        go_ret
        exact ⟨by rw [HE.out]; simp, by repeat (first | exact Below.refl _ _ | refine drawB ?_ _)⟩
      · obtain ⟨i, rfl⟩ : ∃ i, k = i + 1 := ⟨k - 1, by omega⟩
        rw [show (((i + 1 : Nat) : Int) - 1) = (i : Int) from by omega]
        have c1 := (ox.cellAt i (by omega)).trans (dcells_at xs i (by omega))
        have c2 := (oy.cellAt i (by omega)).trans (dcells_at ys i (by omega))
        have i1 : (0 : Int) ≤ (i : Int) := by omega
        have i2 : (i : Int) < ((xs.length : Nat) : Int) := by omega
        have i3 : (i : Int) < ((ys.length : Nat) : Int) := by omega
        by_cases hq : xs.getD i 0 = ys.getD i 0
        · have HD := hid (drop_step i (by omega) (by omega) hd hq)
          rw [← hq] at c2
          generalize xs.getD i 0 = d at *
          clear hd hq
          go_wp2
          go_quiet (fail)
          go_wp2
          go_roundw
          case rel => exact ⟨i, _, by omega, by go_num, HD.out, rfl⟩
          case measure => simp [intOf]
        · have hbb : (((xs.getD i 0 : Nat) : Int) != ((ys.getD i 0 : Nat) : Int)) = true := by rw [bne_iff_ne]; omega
          have HL := hid (less_at gx gy i (by omega) (by omega) hd hq)
          generalize xs.getD i 0 = d at *
          generalize ys.getD i 0 = d' at *
          clear hd hq
          go_wp2
          go_quiet (fail)
          go_wp2
          go_quiet (fail)
          go_wp2
          go_ret
          exact ⟨by rw [← HL.out]; simp, by repeat (first | exact Below.refl _ _ | refine drawB ?_ _)⟩
  · have hb : (((xs.length : Nat) : Int) != ((ys.length : Nat) : Int)) = true := by rw [bne_iff_ne]; omega
    have hres := less_by (by omega) gx gy hne
    have HR := hid hres
    clear hres ox oy gx gy
    go_enter Tryz.func105, Tryz.ntmps105
    go_wp2
    go_quiet (fail)
    go_wp2
    go_quiet (fail)
    go_wp2
    go_ret
    exact ⟨by rw [← HR.out]; simp, by repeat (first | exact Below.refl _ _ | refine drawB ?_ _)⟩

theorem own_keep {w w' : World} {base B n : Nat} {v : Value} {xs : List Value} (h : w.ownsRow base 3 1 v n xs) (hb : Below B w w') (hB : w.heap.size ≤ B) : w'.ownsRow base 3 1 v n xs := by
  refine ⟨h.1, ?_⟩
  rcases h.2 with hn | ⟨g, cap, cur, hv, hb', hg, r⟩
  · exact Or.inl hn
  · refine Or.inr ⟨g, cap, cur, hv, hb', ?_, r⟩
    rw [hb.block g (by have := lt_of_block hg; omega)]; exact hg

theorem NumAt.keep {w w' : World} {base B p g cap : Nat} {ds : List Nat} (h : NumAt base w p g cap ds) (hb : Below B w w') (hB : w.heap.size ≤ B) : NumAt base w' p g cap ds :=
  ⟨h.lo, by rw [hb.block p (by have := lt_of_block h.blk; omega)]; exact h.blk, own_keep h.own hb hB⟩

theorem edge_eq (p s t a b x y : Nat) (hx : x = 1024 ^ t * ((b - a) ^ s * dval 1125899906842624 [1])) (hy : y = (1024 - p) ^ t * (b ^ s * dval 1125899906842624 [1])) : decide (x < y) = leads p s t a b := by
  have e : dval 1125899906842624 [1] = 1 := rfl
  subst hx; subst hy
  unfold leads
  rw [e, Nat.mul_one, Nat.mul_one, Nat.mul_comm (1024 ^ t), Nat.mul_comm ((1024 - p) ^ t)]

set_option maxHeartbeats 1600000 in
set_option maxRecDepth 1000000 in
theorem edge_any (p s t a b : Nat) (w : World) (hp : p ≤ 1023) (ht : t ≤ 240) (hs : s ≤ t) (hb : b ≤ 20) (ha : 1 ≤ a) (hab : a < b) :
    Calls Tryz.prog 93 #[.int .i64 (p : Int), .int .i64 (s : Int), .int .i64 (t : Int), .int .i64 (a : Int), .int .i64 (b : Int)] w fun e w' => e = .returned (.bool (leads p s t a b)) ∧ Below w.heap.size w w' := by
  have g1 : DGood 1125899906842624 [1] := dgood_one _ (by omega)
  go_enter Tryz.func93, Tryz.ntmps93
  go_wp2_with fail
  refine (one_any _).mono ?_
  rintro e w1 ⟨rfl, hN1, hB1⟩
  go_wp2_with fail
  rw [show (b : Int) - (a : Int) = ((b - a : Nat) : Int) from by omega]
  refine (power_any _ _ _ _ (b - a) s [1] _ hN1 g1 (by omega) (by omega) (by simp; omega)).mono ?_
  rintro e w2 ⟨rfl, g2, cap2, ds2, hN2, hG2, hV2, hL2, hB2⟩
  have HV2 := hid hV2
  clear hV2 hN1
  simp only [List.length_singleton] at hL2
  go_wp2_with fail
  rw [show (1024 : Int) = ((1024 : Nat) : Int) from rfl]
  refine (power_any _ _ _ _ 1024 t ds2 _ hN2 hG2 (by omega) (by omega) (by omega)).mono ?_
  rintro e w3 ⟨rfl, g3, cap3, ds3, hN3, hG3, hV3, hL3, hB3⟩
  have HV3 := hid hV3
  clear hV3 hN2
  go_wp2_with fail
  refine (one_any _).mono ?_
  rintro e w4 ⟨rfl, hN4, hB4⟩
  go_wp2_with fail
  refine (power_any _ _ _ _ b s [1] _ hN4 g1 (by omega) (by omega) (by simp; omega)).mono ?_
  rintro e w5 ⟨rfl, g5, cap5, ds5, hN5, hG5, hV5, hL5, hB5⟩
  have HV5 := hid hV5
  clear hV5 hN4
  simp only [List.length_singleton] at hL5
  go_wp2_with fail
  rw [show (1024 : Int) - (p : Int) = ((1024 - p : Nat) : Int) from by omega]
  refine (power_any _ _ _ _ (1024 - p) t ds5 _ hN5 hG5 (by omega) (by omega) (by omega)).mono ?_
  rintro e w6 ⟨rfl, g6, cap6, ds6, hN6, hG6, hV6, hL6, hB6⟩
  have HV6 := hid hV6
  clear hV6 hN5
  have hN36 := hN3.keep (hB4.trans (hB5.trans hB6)) (Nat.le_refl _)
  have hB36 := (hB4.trans (hB5.trans hB6))
  have hB03 := (hB1.trans (hB2.trans hB3))
  go_wp2_with fail
  refine (less_any _ _ _ _ _ _ _ _ ds3 ds6 _ hN36 hN6 hG3 hG6 (by omega)).mono ?_
  rintro e w7 ⟨rfl, hB7⟩
  rw [edge_eq p s t a b _ _ (by rw [HV3.out, HV2.out]) (by rw [HV6.out, HV5.out])]
  have h03 := hB03.size
  have h36 := hB36.size
  have hfin : Below w.heap.size w w7 := hB03.trans ((hB36.mono h03).trans (hB7.mono (by omega)))
  clear hB36 hB03 hN36 hN3 hN6 hB1 hB2 hB3 hB4 hB5 hB6 hB7
  go_wp2
  go_ret
  exact ⟨rfl, hfin⟩
end Go.Proofs.YtpaakikgfojplaaGreat

