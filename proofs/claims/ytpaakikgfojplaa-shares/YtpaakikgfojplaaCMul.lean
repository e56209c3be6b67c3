import Derived.Test.YtpaakikgfojplaaProg
import Derived.Test.YtpaakikgfojplaaCNum
import Derived.WalkKit
import Derived.WalkSpells
import Derived.Deep.AppendLies
import Derived.BigQuiet
import Derived.Deep.QuietTactic
/-
  THE WALKS of the program's own numbers: multiply, multiplyPower (package draw), by contracts.
-/
namespace Go.Proofs.Ytpaakikgfojplaa
open Go.RowKit Num

theorem Try.info3 : (Try.prog.info? 3).map (fun i => (i.zero, i.size, i.bytes)) = some (some (.int .i64 0), 1, 8) := by kernel_rfl

theorem hid {p : Prop} (h : p) : Hid p := h

/-- Digits as cells. -/
def dcells (ds : List Nat) : List Value := ds.map fun d : Nat => Value.int .i64 (d : Int)

theorem dcells_append (xs ys : List Nat) : dcells (xs ++ ys) = dcells xs ++ dcells ys := by simp [dcells]
theorem dcells_length (xs : List Nat) : (dcells xs).length = xs.length := by simp [dcells]
theorem dcells_set (xs : List Nat) (k x : Nat) : (dcells xs).set k (.int .i64 (x : Int)) = dcells (xs.set k x) := by simp [dcells, List.map_set]
theorem dcells_at (xs : List Nat) (k : Nat) (h : k < xs.length) : (dcells xs)[k]? = some (.int .i64 ((xs.getD k 0 : Nat) : Int)) := by
  simp [dcells, List.getD, h]

/-- A number of the program's at block p: its digits, in a row of its own. -/
structure NumAt (base : Nat) (w : World) (p g cap : Nat) (ds : List Nat) : Prop where
  lo : base ≤ p
  blk : w.heap[p]? = some (.cells #[.slice (some ⟨g, 0, none⟩) ds.length cap] 130 (0, 0))
  own : w.ownsRow base 3 1 (.slice (some ⟨g, 0, none⟩) ds.length cap) ds.length (dcells ds)

theorem own_block {w : World} {base g n cap : Nat} {xs : List Value} (h : w.ownsRow base 3 1 (.slice (some ⟨g, 0, none⟩) n cap) n xs) : ∃ cur, w.heap[g]? = some (.cells cur 3 (0, 0)) ∧ base ≤ g := by
  rcases h.2 with ⟨h', _⟩ | ⟨g', cap', cur, h', hb, hg, _⟩
  · simp at h'
  · simp only [Value.slice.injEq, Option.some.injEq, Addr.mk.injEq, and_true, true_and] at h'
    obtain ⟨rfl, rfl⟩ := h'
    exact ⟨cur, hg, hb⟩

theorem apart_of {w : World} {base g n cap p : Nat} {v : Value} {xs : List Value} (h : w.ownsRow base 3 1 (.slice (some ⟨g, 0, none⟩) n cap) n xs) (hp : w.heap[p]? = some (.cells #[v] 130 (0, 0))) : p ≠ g := by
  rintro rfl
  obtain ⟨cur, hg, _⟩ := own_block h
  rw [hg] at hp
  simp at hp

/-- What one round leaves. -/
theorem mul_round {base p g n cap k x : Nat} {w wr : World} {v : Value} {ds outs : List Nat} (hp : wr.heap[p]? = some (.cells #[v] 130 (0, 0)))
    (hown : wr.ownsRow base 3 1 (.slice (some ⟨g, 0, none⟩) n cap) n (dcells (outs ++ ds.drop k))) (hb : Below base w wr) (hl : outs.length = k) (hk : k < ds.length) :
    (wr.setCell ⟨g, k, none⟩ (.int .i64 (x : Int))).heap[p]? = some (.cells #[v] 130 (0, 0)) ∧
    (wr.setCell ⟨g, k, none⟩ (.int .i64 (x : Int))).ownsRow base 3 1 (.slice (some ⟨g, 0, none⟩) n cap) n (dcells ((outs ++ [x]) ++ ds.drop (k + 1))) ∧
    Below base w (wr.setCell ⟨g, k, none⟩ (.int .i64 (x : Int))) := by
  have hne := apart_of hown hp
  obtain ⟨_, _, hbg⟩ := own_block hown
  refine ⟨by rw [Below.heap_setCell _ _ _ _ hne]; exact hp, ?_, hb.setCell hbg _⟩
  have := (hown.stored k (.int .i64 (x : Int))).1
  rwa [dcells_set, set_at outs ds k x hl hk] at this

theorem cell_in {base g n cap k : Nat} {wr : World} {ds outs : List Nat} (hown : wr.ownsRow base 3 1 (.slice (some ⟨g, 0, none⟩) n cap) n (dcells (outs ++ ds.drop k))) (hl : outs.length = k) (hk : k < ds.length) (hn : n = ds.length) :
    wr.cell? ⟨g, k, none⟩ = some (.int .i64 ((ds.getD k 0 : Nat) : Int)) := by
  rw [hown.cellAt k (by omega), dcells_at _ _ (by simp; omega)]
  have e : (outs ++ ds.drop k).getD k 0 = ds.getD k 0 := by
    simp only [List.getD, List.getElem?_append_right (show outs.length ≤ k by omega), hl, Nat.sub_self, List.getElem?_drop, Nat.add_zero]
  rw [e]

theorem dig_lt {B : Nat} {ds : List Nat} (h : ∀ d ∈ ds, d < B) {k : Nat} (hk : k < ds.length) : ds.getD k 0 < B := by
  have := h ds[k] (List.getElem_mem hk)
  simpa [List.getD, hk] using this

set_option maxHeartbeats 1600000 in
set_option maxRecDepth 1000000 in
theorem multiply_any (base p g cap f : Nat) (ds : List Nat) (w : World) (h : NumAt base w p g cap ds) (hg : DGood 1125899906842624 ds) (hf1 : 1 ≤ f) (hf : f ≤ 1024) (hlen : ds.length ≤ 1000) :
    Calls Try.prog 95 #[.pointer (some ⟨p, 0, none⟩), .int .i64 (f : Int)] w fun e w' => e = .returned (.tuple #[]) ∧
      ∃ g' cap' ds', NumAt base w' p g' cap' ds' ∧ DGood 1125899906842624 ds' ∧ dval 1125899906842624 ds' = f * dval 1125899906842624 ds ∧ ds'.length ≤ ds.length + 1 ∧ Below base w w' := by
  obtain ⟨i0, hi, hz0, hz1, hz2⟩ := info_parts Try.info3
  obtain ⟨hlo, hblk, hown⟩ := h
  have hcp := cell_of_one hblk
  go_enter Try.func95, Try.ntmps95
  go_wp2
  go_loopw [4, 5] (fun c i wr => ∃ (k c0 : Nat) (outs : List Nat), k ≤ ds.length ∧ i = .int .i64 k ∧ c = .int .i64 c0 ∧ DPart 1125899906842624 f ds k outs c0 ∧
      wr.heap[p]? = some (.cells #[.slice (some ⟨g, 0, none⟩) ds.length cap] 130 (0, 0)) ∧
      wr.ownsRow base 3 1 (.slice (some ⟨g, 0, none⟩) ds.length cap) ds.length (dcells (outs ++ ds.drop k)) ∧ Below base w wr)
    (fun _ i _ => ds.length - (intOf i).toNat)
  case atStart => exact ⟨0, 0, [], Nat.zero_le _, rfl, rfl, DPart.start _ _ _, hblk, by simpa using hown, Below.refl _ _⟩
  case round =>
    clear hcp
    obtain ⟨k, c0, outs, hk, rfl, rfl, hpart, hblk', hown', hbel⟩ := hrel
    have hcp := cell_of_one hblk'
    have hc0 := hpart.carry
    have hol := hpart.len
    by_cases hlt : k < ds.length
    · have hci := cell_in hown' hpart.len hlt rfl
      have hfi := hown'.frozenAt k
      have hd := dig_lt hg.small hlt
      have R := fun x => mul_round (x := x) hblk' hown' hbel hpart.len hlt
      have P := hpart.step hf hg.small hlt
      generalize ds.getD k 0 = d at hci hd P
      have hm : (d : Int) * (f : Int) ≤ 1125899906842623 * 1024 := by
        have : d * f ≤ 1125899906842623 * 1024 := Nat.mul_le_mul (by omega) hf
        rw [← Int.natCast_mul]; omega
      have hm0 : 0 ≤ (d : Int) * (f : Int) := by rw [← Int.natCast_mul]; omega
      clear hblk' hown' hbel hpart hown hblk hg
      have HR := hid R
      have HP := hid P
      clear R P
      go_wp2
      go_roundw
      case rel =>
        have e1 : ((d : Int) * (f : Int) + (c0 : Int)) % 1125899906842624 = (((d * f + c0) % 1125899906842624 : Nat) : Int) := by omega
        have e2 : ((d : Int) * (f : Int) + (c0 : Int)) / 1125899906842624 = (((d * f + c0) / 1125899906842624 : Nat) : Int) := by omega
        rw [e1, e2]
        exact ⟨k + 1, _, _, by omega, by go_num, rfl, HP.out, (HR.out _).1, (HR.out _).2.1, (HR.out _).2.2⟩
      case measure => simp [intOf]; omega
    · have hkn : k = ds.length := by omega
      subst hkn
      by_cases hz : c0 = 0
      · subst hz
        go_wp2
        go_end0
        have D := hpart.done hf1 hg
        refine ⟨rfl, g, cap, outs, ⟨hlo, ?_, ?_⟩, D.1, D.2, by omega, hbel⟩
        · rw [hol]; exact hblk'
        · rw [hol]; simpa using hown'
      · have hpos : 0 < c0 := by omega
        have M := hpart.more (by omega) hpos
        have hown2 : wr.ownsRow base 3 1 (.slice (some ⟨g, 0, none⟩) ds.length cap) ds.length (dcells outs) := by simpa using hown'
        have hsz := hbel.size
        have hpl := lt_of_block hblk'
        have hne := apart_of hown' hblk'
        obtain ⟨_, hgb, hbg⟩ := own_block hown'
        have hgl := lt_of_block hgb
        clear hown' hown hblk hg hlt hk
        go_wp2_with (at_builtin; refine wpList_append_lies _ rfl (.tmp 43) (.tmp 45) 40 rfl base 3 i0 (.int .i64 0) 1 8 Try.underlying40 hi hz0 hz1 hz2 rfl (by omega) _ ds.length (dcells outs) rfl (hown2.alloc _) ⟨wr.heap.size, 0, none⟩ 1 1 [.int .i64 (c0 : Int)] rfl rfl ?c1 ?c2 (by omega) ?c3 (by omega) ?c4 (wr.heap.size + 1) (by simp) ?_)
        case c1 => exact cell_one_new _ _ _
        case c2 => intro u hu; simp at hu; subst hu; rfl
        case c3 => unfold maxLen; omega
        case c4 => simp; omega
        intro g2 cap2 w1 hown3 hgrow hat hlt2
        have hb1 : w1.heap[p]? = some (.cells #[.slice (some ⟨g, 0, none⟩) ds.length cap] 130 (0, 0)) := by
          rw [hgrow.block p (by simp; omega) (by simpa [Value.ownBlock] using hne), Below.heap_alloc _ _ _ hpl]; exact hblk'
        have hc1 := cell_of_one hb1
        have hf1' := free_of_one hb1
        have hbel1 : Below base w w1 := (hbel.alloc (by omega) _).grown hgrow (by simp; omega) (by simp [Value.ownBlock]; exact hbg)
        have hne2 := apart_of hown3 hb1
        have ho : (w1.setCell ⟨p, 0, none⟩ (.slice (some ⟨g2, 0, none⟩) (ds.length + 1) cap2)).ownsRow base 3 1 (.slice (some ⟨g2, 0, none⟩) (ds.length + 1) cap2) (ds.length + 1) (dcells outs ++ [.int .i64 (c0 : Int)]) :=
          ownsRow_setCell_other hown3 (by simpa [Value.ownBlock] using Ne.symm hne2) _
        have hs1 := one_setCell (u := .slice (some ⟨g2, 0, none⟩) (ds.length + 1) cap2) hb1
        have HO := hid ho
        have HS := hid hs1
        have HB := hid (hbel1.setCell (p := ⟨p, 0, none⟩) (by exact hlo) (.slice (some ⟨g2, 0, none⟩) (ds.length + 1) cap2))
        have HM := hid M
        clear ho hs1 hown3 hgrow hat hbel1 M hb1 hblk' hgb hown2 hpart hbel
        go_wp2
        go_end0
        refine ⟨rfl, g2, cap2, outs ++ [c0], ⟨hlo, ?_, ?_⟩, HM.out.1, HM.out.2, by simp; omega, HB.out⟩
        · rw [List.length_append, hol]; exact HS.out
        · rw [List.length_append, hol, dcells_append]; exact HO.out
end Go.Proofs.Ytpaakikgfojplaa

