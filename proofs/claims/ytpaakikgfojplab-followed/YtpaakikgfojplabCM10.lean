import Derived.Test.YtpaakikgfojplabCM7
import Derived.Laws.CopyOwn
import Derived.Test.YtpaakikgfojplabCM6
import Derived.BigRegion
import Derived.Deep.DeepCutAuto
import Derived.Test.YtpaakikgfojplabCBookWith
/-
  THE WALKS of beaconref: what goes with a header: counts, running, last, stakes.
-/
namespace Go.Proofs.Ytpaakikgfojplab
open Go.RowKit Num Bk
set_option linter.unusedVariables false

theorem fold_tail {α : Type} (f : α → Nat → α) (a : α) (L : List Nat) (k : Nat) (h1 : 1 ≤ k) (h : k < L.length) : (L.tail.take (k + 1 - 1)).foldl f a = f ((L.tail.take (k - 1)).foldl f a) (L.getD k 0) := by
  obtain ⟨j, rfl⟩ : ∃ j, k = j + 1 := ⟨k - 1, by omega⟩
  cases L with
  | nil => simp at h
  | cons y L =>
    have h' : j < L.length := by simpa using h
    show (L.take (j + 1)).foldl f a = f ((L.take j).foldl f a) ((y :: L).getD (j + 1) 0)
    rw [take_succ_getD L j h', List.foldl_append]
    rfl

theorem fold_tail_end {α : Type} (f : α → Nat → α) (a : α) (L : List Nat) (k : Nat) (h : k = L.length) : (L.tail.take (k - 1)).foldl f a = L.tail.foldl f a := by
  rw [List.take_of_length_le (by simp; omega)]

end Go.Proofs.Ytpaakikgfojplab

/-
  THE WALKS of beaconref: copied; stakes.
-/
namespace Go.Proofs.Ytpaakikgfojplab
open Go.RowKit Num Bk
set_option linter.unusedVariables false

theorem icells_one (l : List Int) : ∀ u ∈ icells l, u.oneCell' = true := by
  intro u hu
  obtain ⟨_, _, rfl⟩ := List.mem_map.1 hu
  rfl

theorem Try.size3 : (Try.prog.info? 3).map (·.size) = some 1 := by kernel_rfl

/-- A row that is known whole, owned whole. -/
theorem own_whole {w : World} {base g : Nat} {e : TypeId} {xs : List Value} {arr : Array Value} (h : w.heap[g]? = some (.cells arr e (0, 0))) (hb : base ≤ g) (ha : arr.toList = xs) (hm : xs.length ≤ maxLen) :
    w.ownsRow base e 1 (.slice (some ⟨g, 0, none⟩) xs.length xs.length) xs.length xs := by
  refine ⟨by omega, Or.inr ⟨g, xs.length, arr, rfl, hb, h, Nat.le_refl _, hm, ?_, ?_⟩⟩
  · rw [← ha]; simp
  · rw [ha]; simp

end Go.Proofs.Ytpaakikgfojplab

/-
  THE WALKS of beaconref: Stake, Count, Draw, Turn.
-/
namespace Go.Proofs.Ytpaakikgfojplab
open Go.RowKit Num Bk
set_option linter.unusedVariables false

theorem missing_vals (s : St) (id : Int) : missing s id = 0 ∨ missing s id = 2 ∨ missing s id = 3 := by
  unfold missing; split
  · exact Or.inl rfl
  · split
    · exact Or.inr (Or.inl rfl)
    · exact Or.inr (Or.inr rfl)

/-- What Stake and Count answer. -/
def askErr (s : St) (id pool : Int) : Int := if missing s id ≠ 0 then missing s id else if poolOk s pool = false then 5 else 0
def stakeV (s : St) (id pool : Int) : Int := if askErr s id pool = 0 then (stakesAt s.par s.all id.toNat).getD pool.toNat 0 else 0
def countV (s : St) (id pool : Int) : Int := if askErr s id pool = 0 then countAt s.all pool id.toNat else 0

def turnV (s : St) (id slot pool : Int) : Value :=
  if turnErr s id slot pool = 0 then .agg #[.int .i64 (nonceAt s id.toNat slot), .int .i64 (proofAt s id.toNat slot pool), .int .i64 (stakeAt s id.toNat slot pool), .bool (leadsAt s id.toNat slot pool)]
  else .agg #[.int .i64 0, .int .i64 0, .int .i64 0, .bool false]

theorem sum_take (l : List Int) (k : Nat) (h : k < l.length) : (l.take (k + 1)).sum = (l.take k).sum + l.getD k 0 := by
  rw [List.take_succ_eq_append_getElem h, List.sum_append]
  simp [List.getD, h]

theorem sum_take_le (l : List Int) (h : ∀ x ∈ l, 0 ≤ x) (k : Nat) : 0 ≤ (l.take k).sum ∧ (l.take k).sum ≤ l.sum := by
  have e : l.sum = (l.take k).sum + (l.drop k).sum := by rw [← List.sum_append, List.take_append_drop]
  have h1 := le_sum (l.take k) (fun x hx => h x (List.mem_of_mem_take hx)) (l.take k).length
  have h2 := le_sum (l.drop k) (fun x hx => h x (List.mem_of_mem_drop hx)) (l.drop k).length
  simp [List.getD] at h1 h2
  omega

end Go.Proofs.Ytpaakikgfojplab

/-
  THE WALKS of beaconref: Turn (whole), there, refused.
-/
namespace Go.Proofs.Ytpaakikgfojplab
open Go.RowKit Num Bk
set_option linter.unusedVariables false

theorem below_zero {w A : World} {cs : Array Value} {t : TypeId} (hA : w.alloc (.cells cs t) = A) : A.heap.size = w.heap.size + 1 ∧ Below w.heap.size w A ∧ A.heap[w.heap.size]? = some (.cells cs t (0, 0)) := by
  subst hA
  exact ⟨by simp, (Below.refl _ _).alloc (Nat.le_refl _) _, heap_alloc_new w _⟩

theorem turn_ok {s : St} (hv : Inv s) {id slot pool : Int} (he : turnErr s id slot pool = 0) : ∃ k pN : Nat, id = (k : Int) ∧ pool = (pN : Int) ∧ k ∈ s.keep ∧ missing s id = 0 ∧ slotOk s k slot = true ∧ pN < s.par.stakes.length := by
  unfold turnErr at he
  by_cases hm : missing s id = 0
  · rw [if_neg (by simpa using hm)] at he
    obtain ⟨k, hk, rfl⟩ := missing_zero hm
    rw [Int.toNat_natCast] at he
    cases hs : slotOk s k slot
    · rw [if_pos hs] at he; omega
    · rw [if_neg (by simp [hs])] at he
      cases hp : poolOk s pool
      · rw [if_pos hp] at he; omega
      · simp [poolOk] at hp
        obtain ⟨pN, rfl⟩ := Int.eq_ofNat_of_zero_le hp.1
        exact ⟨k, pN, rfl, rfl, hk, hm, hs, by omega⟩
  · rw [if_pos (by simpa using hm)] at he; omega

end Go.Proofs.Ytpaakikgfojplab

/-
  Two headers compared, as one operation.
-/
namespace Go.Proofs.Ytpaakikgfojplab
open Go.RowKit Num Bk

theorem run_eql_hdr (w : World) (b0 b1 b2 b3 b4 b5 b6 a0 a1 a2 a3 a4 a5 a6 : Int) :
    (binOp .eql 42 (.agg #[.int .i64 b0, .int .i64 b1, .int .i64 b2, .int .i64 b3, .int .i64 b4, .int .i64 b5, .int .i64 b6]) (.agg #[.int .i64 a0, .int .i64 a1, .int .i64 a2, .int .i64 a3, .int .i64 a4, .int .i64 a5, .int .i64 a6])).run Try.prog w =
      .ok (.bool (eqH ⟨b0, b1, b2, b3, b4, b5, b6⟩ ⟨a0, a1, a2, a3, a4, a5, a6⟩)) w := by
  go_simp
  unfold eqH
  (repeat' split) <;> simp_all
end Go.Proofs.Ytpaakikgfojplab

/-
  THE WALKS of beaconref: there.
-/
namespace Go.Proofs.Ytpaakikgfojplab
open Go.RowKit Num Bk
set_option linter.unusedVariables false
attribute [local go_sem ↓] run_eql_hdr

def hdrV (h : Hdr) : Value := .agg #[.int .i64 h.slot, .int .i64 h.pool, .int .i64 h.proof, .int .i64 h.count, .int .i64 h.frm, .int .i64 h.dst, .int .i64 h.amount]

/-- Is k the header with this parent that is the same in all? -/
def isIt (s : St) (parent : Int) (h : Hdr) (k : Nat) : Bool := decide (0 < k) && ((pa s.all k : Int) == parent) && eqH (hd s.all k) h

theorem there_eq (s : St) (parent : Int) (h : Hdr) : there s parent h = (s.keep.find? (isIt s parent h)).getD 0 := rfl

theorem find_take (P : Nat → Bool) (l : List Nat) (k : Nat) (h : k < l.length) : (l.take (k + 1)).find? P = (((l.take k).find? P).or (if P (l.getD k 0) then some (l.getD k 0) else none)) := by
  rw [take_succ_getD l k h, List.find?_append]
  simp only [List.find?_cons, List.find?_nil]
  cases P (l.getD k 0) <;> rfl

theorem find_some_take (P : Nat → Bool) (l : List Nat) (k v : Nat) (h : (l.take k).find? P = some v) : l.find? P = some v := by
  have e : l = l.take k ++ l.drop k := (List.take_append_drop k l).symm
  rw [e, List.find?_append, h]; rfl

end Go.Proofs.Ytpaakikgfojplab

/-
  THE WALKS of beaconref: refused.
-/
namespace Go.Proofs.Ytpaakikgfojplab
open Go.RowKit Num Bk
set_option linter.unusedVariables false

end Go.Proofs.Ytpaakikgfojplab

/-
  THE WALKS of beaconref: Offer.
-/
namespace Go.Proofs.Ytpaakikgfojplab
open Go.RowKit Num Bk
set_option linter.unusedVariables false
attribute [local go_sem ↓] Go.wp_at_zero Go.wp_at_succ

end Go.Proofs.Ytpaakikgfojplab

/-
  THE WALKS of the statements' book: running, there, wanted, came.
-/
namespace Go.Proofs.Ytpaakikgfojplab
open Go.RowKit Num Bk
set_option linter.unusedVariables false

end Go.Proofs.Ytpaakikgfojplab

/-
  THE WALKS of the statements' book: there, wanted, came.
-/
namespace Go.Proofs.Ytpaakikgfojplab
open Go.RowKit Num Bk
set_option linter.unusedVariables false
attribute [local go_sem ↓] run_eql_hdr Go.wp_at_zero Go.wp_at_succ

set_option maxHeartbeats 3200000 in
set_option maxRecDepth 1000000 in
theorem bthere_any (b xc gs cs ga ca : Nat) (s : St) (parent : Int) (h : Hdr) (w : World) (hr : BookAt w b xc gs cs ga ca s) (hv : Inv s) :
    Calls Try.prog 31 #[.pointer (some ⟨b, 0, none⟩), .int .i64 parent, hdrV h] w fun e w' => e = .returned (.int .i64 ((there s parent h : Nat) : Int)) ∧ Below w.heap.size w w' := by
  have hi := hv.wk
  have hkl := hi.kl
  have hsm := hi.small
  obtain ⟨a0, a1, a2, a3, a4, a5, a6⟩ := h
  have HT := Go.Proofs.Ytpaakikgfojplab.hid (there_eq s parent ⟨a0, a1, a2, a3, a4, a5, a6⟩)
  have HP := Go.Proofs.Ytpaakikgfojplab.hid (fun k => show isIt s parent ⟨a0, a1, a2, a3, a4, a5, a6⟩ k = (decide (0 < k) && ((pa s.all k : Int) == parent) && eqH (hd s.all k) ⟨a0, a1, a2, a3, a4, a5, a6⟩) from rfl)
  generalize isIt s parent ⟨a0, a1, a2, a3, a4, a5, a6⟩ = P at *
  unfold hdrV
  go_enter Try.func31, Try.ntmps31
  go_wp2_with fail
  generalize hA : w.alloc (.cells #[.int .i64 a0, .int .i64 a1, .int .i64 a2, .int .i64 a3, .int .i64 a4, .int .i64 a5, .int .i64 a6] 42) = A at *
  obtain ⟨hsA, hbA, hAR⟩ := below_zero hA
  clear hA
  have hrA := hr.keep hbA
  clear hr
  refine (bkept_any b xc gs cs ga ca s _ hrA hv).mono ?_
  rintro e w1 ⟨g, cap, rfl, ho, hb1⟩
  have hr1 := hrA.keep hb1
  have hs1 := hb1.size
  have hA1 : w1.heap[w.heap.size]? = some (.cells #[.int .i64 a0, .int .i64 a1, .int .i64 a2, .int .i64 a3, .int .i64 a4, .int .i64 a5, .int .i64 a6] 42 (0, 0)) := by
    rw [hb1.block _ (by omega)]; exact hAR
  have hgl := own_lt ho
  have hbw := hbA.trans (hb1.mono (by omega))
  clear hrA hb1 hAR hbA
  go_wp2
  go_loopw [8] (fun i wr => ∃ k : Nat, k ≤ s.keep.length ∧ i = .int .i64 k ∧ Hid ((s.keep.take k).find? P = none) ∧ Below w1.heap.size w1 wr)
    (fun i _ => s.keep.length - (intOf i).toNat)
  case atStart => exact ⟨0, Nat.zero_le _, rfl, by unfold Hid; simp, Below.refl _ _⟩
  case round =>
    obtain ⟨k, hk, rfl, HN, hbel⟩ := hrel
    have hrr := hr1.keep hbel
    have hsz := hbel.size
    by_cases hlt : k < s.keep.length
    · have c8 := cell_of_cells (j := 8) hrr.blk rfl
      have ck2 := ((row_keep ho hbel (Nat.le_refl _)).cellAt k (by omega)).trans (dcells_at s.keep k hlt)
      have hft := find_take P s.keep k hlt
      have hdm : s.keep.getD k 0 ∈ s.keep := by
        rw [show s.keep.getD k 0 = s.keep[k] from by simp [List.getD, hlt]]
        exact List.getElem_mem hlt
      have hdl := hi.klt _ hdm
      have hPd := HP.out (s.keep.getD k 0)
      rw [HN.out] at hft
      have hc := hrr.hdr_at hdl
      have hpar := hrr.par_at hdl
      have hlts := hrr.lts
      have hA2 : wr.heap[w.heap.size]? = some (.cells #[.int .i64 a0, .int .i64 a1, .int .i64 a2, .int .i64 a3, .int .i64 a4, .int .i64 a5, .int .i64 a6] 42 (0, 0)) := by
        rw [hbel.block _ (by omega)]; exact hA1
      have p0 := cell_of_cells (j := 0) hA2 rfl
      have p1 := cell_of_cells (j := 1) hA2 rfl
      have p2 := cell_of_cells (j := 2) hA2 rfl
      have p3 := cell_of_cells (j := 3) hA2 rfl
      have p4 := cell_of_cells (j := 4) hA2 rfl
      have p5 := cell_of_cells (j := 5) hA2 rfl
      have p6 := cell_of_cells (j := 6) hA2 rfl
      have HFT := Go.Proofs.Ytpaakikgfojplab.hid hft
      clear hft HN hdm
      generalize s.keep.getD k 0 = d at *
      have h0 := hc.c0
      have h1 := hc.c1
      have h2 := hc.c2
      have h3 := hc.c3
      have h4 := hc.c4
      have h5 := hc.c5
      have h6 := hc.c6
      generalize hd s.all d = H at *
      generalize pa s.all d = pd at *
      obtain ⟨b0, b1, b2, b3, b4, b5, b6⟩ := H
      simp only at *
      have i1 : (0 : Int) ≤ (k : Int) := by omega
      have i2 : (k : Int) < ((s.keep.length : Nat) : Int) := by omega
      have i3 : (0 : Int) ≤ (d : Int) := by omega
      have i4 : (d : Int) < ((s.all.length : Nat) : Int) := by omega
      have hwl : w.heap.size < wr.heap.size := by omega
      have hgl2 : g < wr.heap.size := by omega
      have hl1 := hlts.1
      have hl2 := hlts.2.2
      clear hc hrr hA2 hlts
      go_wp2
      go_region_held3 (fun w' => w'.cell? ⟨b, 8, none⟩ = some (.slice (some ⟨ga, 0, none⟩) s.all.length ca) ∧ w'.cell? ⟨g, k, none⟩ = some (.int .i64 (d : Int)) ∧ w'.cell? ⟨ga, d * 8, none⟩ = some (.int .i64 b0) ∧ w'.cell? ⟨ga, d * 8 + 1, none⟩ = some (.int .i64 b1) ∧ w'.cell? ⟨ga, d * 8 + 2, none⟩ = some (.int .i64 b2) ∧ w'.cell? ⟨ga, d * 8 + 3, none⟩ = some (.int .i64 b3) ∧ w'.cell? ⟨ga, d * 8 + 4, none⟩ = some (.int .i64 b4) ∧ w'.cell? ⟨ga, d * 8 + 5, none⟩ = some (.int .i64 b5) ∧ w'.cell? ⟨ga, d * 8 + 6, none⟩ = some (.int .i64 b6) ∧ w'.cell? ⟨ga, d * 8 + 7, none⟩ = some (.int .i64 (pd : Int))) (go_keep) (fail)
      have HPD := Go.Proofs.Ytpaakikgfojplab.hid hPd
      clear hPd
      by_cases z1 : 0 < d
      · by_cases z2 : (pd : Int) = parent
        · have z2' : ((pd : Int) == parent) = true := by simp [z2]
          have hPe : P d = eqH ⟨b0, b1, b2, b3, b4, b5, b6⟩ ⟨a0, a1, a2, a3, a4, a5, a6⟩ := by rw [HPD.out, z2']; simp [z1]
          generalize hee : eqH ⟨b0, b1, b2, b3, b4, b5, b6⟩ ⟨a0, a1, a2, a3, a4, a5, a6⟩ = ee at *
          cases ee
          · have HPF := Go.Proofs.Ytpaakikgfojplab.hid hPe
            clear hPe
            go_wp2
            go_roundw
            case rel =>
              refine ⟨k + 1, by omega, by go_num, ?_, (hbel.alloc (by omega) _).drew⟩
              show _ = _
              rw [HFT.out, HPF.out]; rfl
            case measure => simp [intOf]; omega
          · have hft := HFT.out
            rw [hPe] at hft
            have hT : there s parent ⟨a0, a1, a2, a3, a4, a5, a6⟩ = d := by
              rw [HT.out, find_some_take P s.keep (k + 1) d hft]; rfl
            have HTD := Go.Proofs.Ytpaakikgfojplab.hid hT
            have HB := Go.Proofs.Ytpaakikgfojplab.hid (hbw.trans ((hbel.alloc (by omega) (.cells #[.int .i64 b0, .int .i64 b1, .int .i64 b2, .int .i64 b3, .int .i64 b4, .int .i64 b5, .int .i64 b6, .int .i64 (pd : Int)] 58)).drew.mono (by omega)))
            clear hT hft hPe z2
            go_wp2
            go_ret
            exact ⟨by rw [HTD.out]; rfl, HB.out⟩
        · have z2' : ((pd : Int) == parent) = false := by simp [z2]
          have hP : P d = false := by rw [HPD.out, z2']; simp
          have HPF := Go.Proofs.Ytpaakikgfojplab.hid hP
          clear hP
          go_wp2
          go_roundw
          case rel =>
            refine ⟨k + 1, by omega, by go_num, ?_, (hbel.alloc (by omega) _).drew⟩
            show _ = _
            rw [HFT.out, HPF.out]; rfl
          case measure => simp [intOf]; omega
      · have hP : P d = false := by rw [HPD.out]; simp [z1]
        have HPF := Go.Proofs.Ytpaakikgfojplab.hid hP
        clear hP
        go_wp2
        go_roundw
        case rel =>
          refine ⟨k + 1, by omega, by go_num, ?_, (hbel.alloc (by omega) _).drew⟩
          show _ = _
          rw [HFT.out, HPF.out]; rfl
        case measure => simp [intOf]; omega
    · have hkk : k = s.keep.length := by omega
      have hT : there s parent ⟨a0, a1, a2, a3, a4, a5, a6⟩ = 0 := by
        have h1 := HN.out
        rw [hkk, List.take_length] at h1
        rw [HT.out, h1]; rfl
      have HTZ := Go.Proofs.Ytpaakikgfojplab.hid hT
      have HB := Go.Proofs.Ytpaakikgfojplab.hid (hbw.trans (hbel.mono (by omega)))
      clear hT hkk HN hrr hbel
      go_wp2
      go_ret
      exact ⟨by rw [HTZ.out]; rfl, HB.out⟩

/-- What Offer must answer to a header that was made: its number, its error. -/
def wantErr (s : St) (parent : Int) (h : Hdr) : Int := if 0 < there s parent h then 10 else if s.par.room ≤ s.keep.length then 11 else 0
def wantId (s : St) (parent : Int) (h : Hdr) : Int := if wantErr s parent h = 0 then s.all.length else 0

set_option maxHeartbeats 1600000 in
set_option maxRecDepth 1000000 in
theorem wanted_any (b xc gs cs ga ca : Nat) (s : St) (parent : Int) (h : Hdr) (w : World) (hr : BookAt w b xc gs cs ga ca s) (hv : Inv s) :
    Calls Try.prog 30 #[.pointer (some ⟨b, 0, none⟩), .int .i64 parent, hdrV h] w fun e w' => e = .returned (.tuple #[.int .i64 (wantId s parent h), .int .i64 (wantErr s parent h)]) ∧ Below w.heap.size w w' := by
  have hi := hv.wk
  have hkl := hi.kl
  have hsm := hi.small
  have hr2' := hv.par.r2
  obtain ⟨a0, a1, a2, a3, a4, a5, a6⟩ := h
  have hwe : wantErr s parent ⟨a0, a1, a2, a3, a4, a5, a6⟩ = if 0 < there s parent ⟨a0, a1, a2, a3, a4, a5, a6⟩ then 10 else if s.par.room ≤ s.keep.length then 11 else 0 := rfl
  unfold hdrV
  go_enter Try.func30, Try.ntmps30
  go_wp2_with fail
  generalize hA : w.alloc (.cells #[.int .i64 a0, .int .i64 a1, .int .i64 a2, .int .i64 a3, .int .i64 a4, .int .i64 a5, .int .i64 a6] 42) = A at *
  obtain ⟨hsA, hbA, hAR⟩ := below_zero hA
  clear hA
  have hrA := hr.keep hbA
  clear hr
  refine (bkept_any b xc gs cs ga ca s _ hrA hv).mono ?_
  rintro e w1 ⟨g, cap, rfl, ho, hb1⟩
  have hr1 := hrA.keep hb1
  have hs1 := hb1.size
  have hA1 : w1.heap[w.heap.size]? = some (.cells #[.int .i64 a0, .int .i64 a1, .int .i64 a2, .int .i64 a3, .int .i64 a4, .int .i64 a5, .int .i64 a6] 42 (0, 0)) := by
    rw [hb1.block _ (by omega)]; exact hAR
  have hbw := hbA.trans (hb1.mono (by omega))
  have p0 := cell_of_cells (j := 0) hA1 rfl
  have p1 := cell_of_cells (j := 1) hA1 rfl
  have p2 := cell_of_cells (j := 2) hA1 rfl
  have p3 := cell_of_cells (j := 3) hA1 rfl
  have p4 := cell_of_cells (j := 4) hA1 rfl
  have p5 := cell_of_cells (j := 5) hA1 rfl
  have p6 := cell_of_cells (j := 6) hA1 rfl
  clear hrA hb1 hAR hbA ho
  go_wp2_with fail
  refine (bthere_any b xc gs cs ga ca s parent ⟨a0, a1, a2, a3, a4, a5, a6⟩ _ hr1 hv).mono ?_
  rintro e w2 ⟨rfl, hb2⟩
  have hr2 := hr1.keep hb2
  have HB := Go.Proofs.Ytpaakikgfojplab.hid (hbw.trans (hb2.mono (by have := hbw.size; exact this)))
  have c3 := cell_of_cells (j := 3) hr2.blk rfl
  have c8 := cell_of_cells (j := 8) hr2.blk rfl
  clear p0 p1 p2 p3 p4 p5 p6 hA1 hr1 hr2 hb2 hbw
  generalize there s parent ⟨a0, a1, a2, a3, a4, a5, a6⟩ = th at *
  by_cases y1 : 0 < th
  · rw [if_pos y1] at hwe
    have HWE := Go.Proofs.Ytpaakikgfojplab.hid hwe
    have HWI := Go.Proofs.Ytpaakikgfojplab.hid (show wantId s parent ⟨a0, a1, a2, a3, a4, a5, a6⟩ = 0 by unfold wantId; rw [hwe]; rfl)
    clear hwe
    go_wp2
    go_ret2
    exact ⟨by rw [HWE.out, HWI.out]; rfl, HB.out⟩
  · rw [if_neg y1] at hwe
    by_cases y2 : s.par.room ≤ s.keep.length
    · rw [if_pos y2] at hwe
      have HWE := Go.Proofs.Ytpaakikgfojplab.hid hwe
      have HWI := Go.Proofs.Ytpaakikgfojplab.hid (show wantId s parent ⟨a0, a1, a2, a3, a4, a5, a6⟩ = 0 by unfold wantId; rw [hwe]; rfl)
      clear hwe
      go_wp2
      go_ret2
      exact ⟨by rw [HWE.out, HWI.out]; rfl, HB.out⟩
    · rw [if_neg y2] at hwe
      have HWE := Go.Proofs.Ytpaakikgfojplab.hid hwe
      have HWI := Go.Proofs.Ytpaakikgfojplab.hid (show wantId s parent ⟨a0, a1, a2, a3, a4, a5, a6⟩ = s.all.length by unfold wantId; rw [hwe]; rfl)
      clear hwe
      go_wp2
      go_ret2
      exact ⟨by rw [HWE.out, HWI.out]; rfl, HB.out⟩

end Go.Proofs.Ytpaakikgfojplab

