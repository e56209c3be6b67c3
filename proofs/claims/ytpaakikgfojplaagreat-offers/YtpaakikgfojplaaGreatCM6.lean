import Derived.Test.YtpaakikgfojplaaGreatCM5
import Derived.Deep.RegionHeld3
import Derived.Deep.DrawnRows
/-
  THE WALKS of beaconref: Line, in, height.
-/
namespace Go.Proofs.YtpaakikgfojplaaGreat
open Go.RowKit Num Bk
set_option linter.unusedVariables false

set_option maxHeartbeats 1600000 in
set_option maxRecDepth 1000000 in
theorem line_any (x gs cs ga ca gk ck : Nat) (s : St) (id : Nat) (w : World) (hr : RefAt w x gs cs ga ca gk ck s) (hi : Wk s) (hid' : id < s.all.length) :
    Calls Tryz.prog 50 #[.pointer (some ⟨x, 0, none⟩), .int .i64 (id : Int)] w fun e w' => ∃ g cap, e = .returned (.slice (some ⟨g, 0, none⟩) (line s.all id).length cap) ∧
      w'.ownsRow w.heap.size 3 1 (.slice (some ⟨g, 0, none⟩) (line s.all id).length cap) (line s.all id).length (dcells (line s.all id)) ∧ Below w.heap.size w w' := by
  obtain ⟨i0, hi0, hz0, hz1, hz2⟩ := info_parts Tryz.info3
  have hsm := hi.small
  have ht := hi.tree
  have hlen := line_length ht id
  have hhl := hi.hs id hid'
  go_enter Tryz.func50, Tryz.ntmps50
  go_wp2
  go_loopw [1, 5] (fun c b wr => ∃ (k : Nat) (bs : List Nat), c = .int .i64 k ∧ k < s.all.length ∧ line s.all id = line s.all k ++ bs.reverse ∧ wr.ownsRow w.heap.size 3 1 b bs.length (dcells bs) ∧ Below w.heap.size w wr)
    (fun c _ _ => (intOf c).toNat)
  case atStart => exact ⟨id, [], rfl, hid', by simp, World.ownsRow_nil _ _ _ _, Below.refl _ _⟩
  case round =>
    obtain ⟨k, bs, rfl, hk, hl, hown, hbel⟩ := hrel
    have hsz := hbel.size
    have hr' := hr.keep hbel
    have hbl : bs.length ≤ 20002 := by
      have := congrArg List.length hl
      rw [List.length_append, List.length_reverse] at this
      omega
    have HL := Go.Proofs.YtpaakikgfojplaaGreat.hid hl
    have HR := Go.Proofs.YtpaakikgfojplaaGreat.hid hr
    have HT := Go.Proofs.YtpaakikgfojplaaGreat.hid ht
    clear hl hr ht hi
    rcases Nat.eq_zero_or_pos k with h0 | h0
    · subst h0
      clear hr'
      obtain ⟨ao, cb, rfl, hao⟩ := own_any hown
      generalize wr = W1 at *
      go_wp2
      go_loopw [6, 7] (fun o i wq => ∃ (k : Nat) (os : List Nat), i = .int .i64 ((k : Int) - 1) ∧ k ≤ bs.length ∧ os.length = 1 + (bs.length - k) ∧ Hid (os = [0] ++ (bs.drop k).reverse) ∧ wq.ownsRow W1.heap.size 3 1 o os.length (dcells os) ∧ Below W1.heap.size W1 wq)
        (fun _ i _ => (intOf i + 1).toNat)
      case atStart =>
        refine ⟨bs.length, [0], by go_num, Nat.le_refl _, by simp, by unfold Hid; simp, ?_, (Below.refl _ _).alloc (Nat.le_refl _) _⟩
        exact World.ownsRow_lit (base := W1.heap.size) (e := 3) (size := 1) W1 #[.int .i64 0] 1 (Nat.le_refl _) (by unfold maxLen; omega) rfl
      case round =>
        obtain ⟨j, os, rfl, hj, hos, HS, hout, hbq⟩ := hrel
        have hsq := hbq.size
        rcases Nat.eq_zero_or_pos j with h1 | h1
        · subst h1
          have e : os = line s.all id := by rw [HS.out, HL.out, line_zero]; simp
          obtain ⟨go, co, rfl, _, _⟩ := hout.form (by omega)
          have HE := Go.Proofs.YtpaakikgfojplaaGreat.hid e
          have HO := Go.Proofs.YtpaakikgfojplaaGreat.hid hout
          have HB := Go.Proofs.YtpaakikgfojplaaGreat.hid (hbel.trans (hbq.mono hsz))
          clear hout hbq hbel hown e
          go_wp2
          go_ret
          refine ⟨go, co, by rw [← HE.out]; rfl, ?_, HB.out⟩
          rw [← HE.out]
          exact row_weak HO.out hsz
        · obtain ⟨i, rfl⟩ : ∃ i, j = i + 1 := ⟨j - 1, by omega⟩
          rw [show (((i + 1 : Nat) : Int) - 1) = (i : Int) from by omega]
          obtain ⟨gb, rfl⟩ := hao (by omega)
          have c1 := ((row_keep hown hbq (Nat.le_refl _)).cellAt i (by omega)).trans (dcells_at bs i (by omega))
          have hdr : os ++ [bs.getD i 0] = [0] ++ (bs.drop i).reverse := by
            rw [HS.out, List.drop_eq_getElem_cons (show i < bs.length by omega), List.reverse_cons]
            simp [List.getD, show i < bs.length by omega]
          have HD := Go.Proofs.YtpaakikgfojplaaGreat.hid hdr
          clear hdr HS
          generalize bs.getD i 0 = d at *
          go_wp2_with (at_builtin; refine wpList_append_lies _ rfl (.tmp 30) (.tmp 35) 22 rfl W1.heap.size 3 i0 (.int .i64 0) 1 8 Tryz.underlying22 hi0 hz0 hz1 hz2 rfl (by omega) _ os.length (dcells os) rfl (hout.alloc _) ⟨wr.heap.size, 0, none⟩ 1 1 [.int .i64 (d : Int)] rfl rfl (cell_one_new _ _ _) (one_int _) (by omega) (by unfold maxLen; omega) (by omega) (by simp; omega) (wr.heap.size + 1) (by simp) ?_)
          intro g2 cap2 w1 hown2 hgrow hat hlt2
          have hrow := fun k (e : Value.ownBlock u6 = some k) => (hout.lt k e).1
          have HB := Go.Proofs.YtpaakikgfojplaaGreat.hid ((hbq.alloc (by omega) _).grown hgrow (by simp; omega) hrow)
          have HO := Go.Proofs.YtpaakikgfojplaaGreat.hid hown2
          clear hown2 hgrow hat hbq hout hrow
          go_wp2
          go_roundw
          case rel =>
            repeat apply Exists.intro
            refine ⟨?_, rfl⟩
            refine ⟨i, os ++ [d], by go_num, by omega, by simp; omega, HD, ?_, HB.out⟩
            rw [List.length_append, dcells_append, hos]
            exact HO.out
          case measure => simp [intOf]
    · clear hr'
      go_wp2_with (at_builtin; refine wpList_append_lies _ rfl (.tmp 10) (.tmp 12) 22 rfl w.heap.size 3 i0 (.int .i64 0) 1 8 Tryz.underlying22 hi0 hz0 hz1 hz2 rfl (by omega) _ bs.length (dcells bs) rfl (hown.alloc _) ⟨wr.heap.size, 0, none⟩ 1 1 [.int .i64 (k : Int)] rfl rfl (cell_one_new _ _ _) (one_int _) (by omega) (by unfold maxLen; omega) (by omega) (by simp; omega) (wr.heap.size + 1) (by simp) ?_)
      intro g2 cap2 w1 hown2 hgrow hat hlt2
      have hrow := fun k (e : Value.ownBlock u5 = some k) => (hown.lt k e).1
      have hb1 := (hbel.alloc (by omega) _).grown hgrow (by simp; omega) hrow
      have c1 := cell_of_cells (j := 7) (HR.out.keep hb1).blk rfl
      have c2 := (HR.out.keep hb1).par_at hk
      have HB := Go.Proofs.YtpaakikgfojplaaGreat.hid hb1
      have HO := Go.Proofs.YtpaakikgfojplaaGreat.hid hown2
      clear hb1 hown2 hgrow hat hbel hown hrow
      go_wp2
      go_roundw
      case rel =>
        have hp := HT.out k h0
        refine ⟨pa s.all k, bs ++ [k], rfl, by omega, ?_, ?_, HB.out⟩
        · rw [HL.out, line_step HT.out h0]; simp
        · rw [List.length_append, dcells_append]; exact HO.out
      case measure =>
        have hp := HT.out k h0
        simp [intOf]; omega

theorem has_take (l : List Nat) (k : Nat) (h : k < l.length) (i : Int) : has (l.take (k + 1)) i = (has (l.take k) i || ((l.getD k 0 : Nat) : Int) == i) := by
  rw [take_succ_getD l k h]
  simp [has]

set_option maxHeartbeats 800000 in
theorem in_any (base g cap : Nat) (ds : List Nat) (id : Int) (w : World) (hown : w.ownsRow base 3 1 (.slice (some ⟨g, 0, none⟩) ds.length cap) ds.length (dcells ds)) (hlen : ds.length ≤ 1000000) :
    Calls Tryz.prog 49 #[.slice (some ⟨g, 0, none⟩) ds.length cap, .int .i64 id] w fun e w' => e = .returned (.bool (has ds id)) ∧ w = w' := by
  go_enter Tryz.func49, Tryz.ntmps49
  go_wp2
  go_loop [5] (fun i => ∃ k : Nat, k ≤ ds.length ∧ i = .int .i64 k ∧ Hid (has (ds.take k) id = false)) (fun i => ds.length - (intOf i).toNat)
  case atStart => exact ⟨0, Nat.zero_le _, rfl, by unfold Hid; simp [has]⟩
  case round =>
    obtain ⟨k, hk, rfl, HN⟩ := hrel
    by_cases hlt : k < ds.length
    · have c1 := (hown.cellAt k (by omega)).trans (dcells_at ds k hlt)
      have hs := has_take ds k hlt id
      generalize ds.getD k 0 = d at *
      by_cases he : (d : Int) = id
      · have hb : ((d : Int) == id) = true := by simp [he]
        have hh : has ds id = true := by
          rw [has_iff]
          have : has (ds.take (k + 1)) id = true := by rw [hs, hb]; simp
          rw [has_iff] at this
          obtain ⟨x, hx, hx'⟩ := this
          exact ⟨x, List.mem_of_mem_take hx, hx'⟩
        have HH := Go.Proofs.YtpaakikgfojplaaGreat.hid hh
        clear hs hh he
        go_wp2
        go_ret
        exact ⟨by rw [HH.out]; rfl, rfl⟩
      · have hb : ((d : Int) == id) = false := by simp [he]
        have HS := Go.Proofs.YtpaakikgfojplaaGreat.hid (show has (ds.take (k + 1)) id = false by rw [hs, HN.out, hb]; rfl)
        clear hs he
        go_wp2
        go_round
        case rel => exact ⟨k + 1, by omega, by go_num, HS⟩
        case measure => simp [intOf]; omega
    · have hh : has ds id = false := by
        have := HN.out
        rw [List.take_of_length_le (by omega)] at this
        exact this
      have HH := Go.Proofs.YtpaakikgfojplaaGreat.hid hh
      clear hh HN
      go_wp2
      go_ret
      exact ⟨by rw [HH.out]; rfl, rfl⟩

set_option maxHeartbeats 400000 in
theorem height_any (x gs cs ga ca gk ck : Nat) (s : St) (id : Nat) (w : World) (hr : RefAt w x gs cs ga ca gk ck s) (hi : Wk s) (hid' : id < s.all.length) :
    Calls Tryz.prog 65 #[.pointer (some ⟨x, 0, none⟩), .int .i64 (id : Int)] w fun e w' => e = .returned (.int .i64 ((height s.all id : Nat) : Int)) ∧ Below w.heap.size w w' := by
  have hl := line_length hi.tree id
  have hh := hi.hs id hid'
  go_enter Tryz.func65, Tryz.ntmps65
  go_wp2_with fail
  refine (line_any x gs cs ga ca gk ck s id _ hr hi hid').mono ?_
  rintro e w1 ⟨g, cap, rfl, _, hb⟩
  rw [hl]
  clear hl
  go_wp2
  go_ret
  exact ⟨by go_num, hb⟩

theorem RefAt.keep_at {w : World} {x gs cs ga ca gk ck : Nat} {s : St} (h : RefAt w x gs cs ga ca gk ck s) {i : Nat} (hi : i < s.keep.length) : w.cell? ⟨gk, i, none⟩ = some (.int .i64 ((s.keep.getD i 0 : Nat) : Int)) := by
  rw [h.kep.cellAt _ (by omega), dcells_at _ _ hi]

theorem tip_step (all : List Itm) (l : List Nat) (k : Nat) (h : k < l.length) (b : Nat) :
    (l.take (k + 1)).foldl (fun best k => if better all k best then k else best) b = if better all (l.getD k 0) ((l.take k).foldl (fun best k => if better all k best then k else best) b) then l.getD k 0 else (l.take k).foldl (fun best k => if better all k best then k else best) b := by
  rw [take_succ_getD l k h, List.foldl_append]; rfl

set_option maxHeartbeats 3200000 in
set_option maxRecDepth 1000000 in
theorem tip_any (x gs cs ga ca gk ck : Nat) (s : St) (w : World) (hr : RefAt w x gs cs ga ca gk ck s) (hi : Wk s) :
    Calls Tryz.prog 31 #[.pointer (some ⟨x, 0, none⟩)] w fun e w' => e = .returned (.int .i64 ((tip s : Nat) : Int)) ∧ Below w.heap.size w w' := by
  have hkl := hi.kl
  have hk0 := hi.kne
  have hr0 := hr
  obtain ⟨b0, hb0⟩ : ∃ b0, b0 = s.keep.headD 0 := ⟨_, rfl⟩
  have e0 : s.keep.getD 0 0 = b0 := by rw [hb0]; cases s.keep <;> rfl
  have hbk : b0 ∈ s.keep := by
    rw [hb0]
    cases e : s.keep with
    | nil => rw [e] at hk0; simp at hk0
    | cons a l => simp
  have HB0 := Go.Proofs.YtpaakikgfojplaaGreat.hid hb0
  clear hb0
  have c0 := hr.keep_at hk0
  rw [e0] at c0
  clear e0
  have c1 := cell_of_cells (j := 8) hr.blk rfl
  clear hr
  go_enter Tryz.func31, Tryz.ntmps31
  go_wp2
  clear c0 c1
  go_loopw [3, 4] (fun b i wr => ∃ (k best : Nat), k ≤ s.keep.length ∧ i = .int .i64 k ∧ b = .int .i64 best ∧ best ∈ s.keep ∧ Hid (best = (s.keep.take k).foldl (fun best k => if better s.all k best then k else best) b0) ∧ Below w.heap.size w wr)
    (fun _ i _ => s.keep.length - (intOf i).toNat)
  case atStart =>
    exact ⟨0, b0, Nat.zero_le _, rfl, rfl, hbk, by unfold Hid; simp, Below.refl _ _⟩
  case round =>
    obtain ⟨k, best, hk, rfl, rfl, hbm, HB, hbel⟩ := hrel
    have hrr := hr0.keep hbel
    have c1 := cell_of_cells (j := 8) hrr.blk rfl
    by_cases hlt : k < s.keep.length
    · have c2 := hrr.keep_at hlt
      have hst := tip_step s.all s.keep k hlt b0
      have hdk : s.keep.getD k 0 ∈ s.keep := by
        rw [show s.keep.getD k 0 = s.keep[k] from by simp [List.getD, hlt]]
        exact List.getElem_mem hlt
      rw [← HB.out] at hst
      have HST := Go.Proofs.YtpaakikgfojplaaGreat.hid hst
      have HC := Go.Proofs.YtpaakikgfojplaaGreat.hid (fun (w2 : World) (h2 : RefAt w2 x gs cs ga ca gk ck s) => h2.keep_at hlt)
      have HDK := Go.Proofs.YtpaakikgfojplaaGreat.hid hdk
      clear hst HB
      generalize s.keep.getD k 0 = d at *
      have hd := hi.klt d hdk
      have hb := hi.klt best hbm
      have hsz := hbel.size
      clear hdk
      go_wp2_with fail
      refine (height_any x gs cs ga ca gk ck s d _ hrr hi hd).mono ?_
      rintro e w1 ⟨rfl, hb1⟩
      have hr1 := hrr.keep hb1
      clear c1 c2 hrr
      go_wp2_with fail
      refine (height_any x gs cs ga ca gk ck s best _ hr1 hi hb).mono ?_
      rintro e w2 ⟨rfl, hb2⟩
      have hr2 := hr1.keep hb2
      have HBB := Go.Proofs.YtpaakikgfojplaaGreat.hid (hbel.trans ((hb1.mono hsz).trans (hb2.mono (by have := hb1.size; omega))))
      have c1 := cell_of_cells (j := 8) hr2.blk rfl
      have c2 : w2.cell? ⟨gk, k, none⟩ = some (.int .i64 ((d : Nat) : Int)) := HC.out _ hr2
      have hh1 := hi.hs d hd
      have hh2 := hi.hs best hb
      clear hb1 hb2 hr1 hr2 hbel
      have hbt : better s.all d best = decide (height s.all best < height s.all d ∨ (height s.all d = height s.all best ∧ d < best)) := by
        simp [better]
      generalize hA : height s.all d = A at *
      generalize hB : height s.all best = B at *
      clear hA hB
      by_cases q1 : B < A
      · have hx : better s.all d best = true := by rw [hbt]; simp [q1]
        rw [hx] at HST
        clear hbt hx
        go_wp2
        go_roundw
        case rel => exact ⟨k + 1, d, by omega, by go_num, rfl, HDK.out, by have := HST.out; unfold Hid; rw [this]; rfl, HBB.out⟩
        case measure => simp [intOf]; omega
      · by_cases q2 : A = B
        · have q2' : ((A : Int) == (B : Int)) = true := by simp [q2]
          by_cases q3 : d < best
          · have hx : better s.all d best = true := by rw [hbt]; simp [q2, q3]
            rw [hx] at HST
            clear hbt hx q2
            go_wp2
            go_roundw
            case rel => exact ⟨k + 1, d, by omega, by go_num, rfl, HDK.out, by have := HST.out; unfold Hid; rw [this]; rfl, HBB.out⟩
            case measure => simp [intOf]; omega
          · have hx : better s.all d best = false := by rw [hbt]; simp; omega
            rw [hx] at HST
            clear hbt hx q2
            go_wp2
            go_roundw
            case rel => exact ⟨k + 1, best, by omega, by go_num, rfl, hbm, by have := HST.out; unfold Hid; rw [this]; rfl, HBB.out⟩
            case measure => simp [intOf]; omega
        · have q2' : ((A : Int) == (B : Int)) = false := by rw [beq_eq_false_iff_ne]; omega
          have hx : better s.all d best = false := by rw [hbt]; simp; omega
          rw [hx] at HST
          clear hbt hx q2
          go_wp2
          go_roundw
          case rel => exact ⟨k + 1, best, by omega, by go_num, rfl, hbm, by have := HST.out; unfold Hid; rw [this]; rfl, HBB.out⟩
          case measure => simp [intOf]; omega
    · have hkk : k = s.keep.length := by omega
      have hT : best = tip s := by
        rw [HB.out, hkk, List.take_length, HB0.out]; rfl
      have HT := Go.Proofs.YtpaakikgfojplaaGreat.hid hT
      clear hT hkk HB hrr
      go_wp2
      go_ret
      exact ⟨by rw [← HT.out]; rfl, hbel⟩
end Go.Proofs.YtpaakikgfojplaaGreat

/-
  THE WALKS of beaconref: Path, Final, missing, pool, slots; what goes with a header.
-/
namespace Go.Proofs.YtpaakikgfojplaaGreat
open Go.RowKit Num Bk
set_option linter.unusedVariables false

set_option maxHeartbeats 400000 in
theorem path_any (x gs cs ga ca gk ck : Nat) (s : St) (w : World) (hr : RefAt w x gs cs ga ca gk ck s) (hi : Wk s) :
    Calls Tryz.prog 39 #[.pointer (some ⟨x, 0, none⟩)] w fun e w' => ∃ g cap, e = .returned (.slice (some ⟨g, 0, none⟩) (line s.all (tip s)).length cap) ∧
      w'.ownsRow w.heap.size 3 1 (.slice (some ⟨g, 0, none⟩) (line s.all (tip s)).length cap) (line s.all (tip s)).length (dcells (line s.all (tip s))) ∧ Below w.heap.size w w' := by
  have ht := hi.klt _ hi.tip
  go_enter Tryz.func39, Tryz.ntmps39
  go_wp2_with fail
  refine (tip_any x gs cs ga ca gk ck s _ hr hi).mono ?_
  rintro e w1 ⟨rfl, hb⟩
  have hsz := hb.size
  go_wp2_with fail
  refine (line_any x gs cs ga ca gk ck s (tip s) _ (hr.keep hb) hi ht).mono ?_
  rintro e w2 ⟨g, cap, rfl, ho, hb2⟩
  have HO := Go.Proofs.YtpaakikgfojplaaGreat.hid ho
  have HB := Go.Proofs.YtpaakikgfojplaaGreat.hid (hb.trans (hb2.mono hsz))
  clear ho hb hb2
  go_wp2
  go_ret
  exact ⟨g, cap, rfl, row_weak HO.out hsz, HB.out⟩

set_option maxHeartbeats 800000 in
theorem final_any (x gs cs ga ca gk ck : Nat) (s : St) (w : World) (hr : RefAt w x gs cs ga ca gk ck s) (hi : Wk s) :
    Calls Tryz.prog 33 #[.pointer (some ⟨x, 0, none⟩)] w fun e w' => e = .returned (.int .i64 ((fin s : Nat) : Int)) ∧ Below w.heap.size w w' := by
  have ht := hi.klt _ hi.tip
  have hh := hi.hs _ ht
  have hl := line_length hi.tree (tip s)
  have d1 := hi.d1
  have d2 := hi.d2
  go_enter Tryz.func33, Tryz.ntmps33
  go_wp2_with fail
  refine (path_any x gs cs ga ca gk ck s _ hr hi).mono ?_
  rintro e w1 ⟨g, cap, rfl, ho, hb⟩
  have hr1 := hr.keep hb
  have c0 := cell_of_cells (j := 0) hr1.blk rfl
  by_cases hd : (height s.all (tip s) : Int) < s.par.depth
  · have hf : fin s = 0 := by unfold fin finOf; rw [if_pos hd]
    have HF := Go.Proofs.YtpaakikgfojplaaGreat.hid hf
    have hd' : ((((line s.all (tip s)).length : Nat) : Int)) ≤ s.par.depth := by rw [hl]; omega
    clear hf hr1 ho hl hr
    generalize (line s.all (tip s)).length = n at *
    go_wp2
    go_ret
    exact ⟨by rw [HF.out]; rfl, hb⟩
  · obtain ⟨dn, hdn⟩ : ∃ n : Nat, s.par.depth = (n : Int) := ⟨s.par.depth.toNat, by omega⟩
    have hdt : s.par.depth.toNat = dn := by omega
    have hf : fin s = (line s.all (tip s)).getD (height s.all (tip s) - dn) 0 := by unfold fin finOf; rw [if_neg hd, hdt]
    have c1 := (ho.cellAt (height s.all (tip s) - dn) (by omega)).trans (dcells_at _ _ (by omega))
    rw [← hf] at c1
    rw [hdn] at c0
    have e1 : height s.all (tip s) - dn + dn = height s.all (tip s) := by omega
    generalize height s.all (tip s) - dn = m at *
    have hlen : (line s.all (tip s)).length = m + dn + 1 := by omega
    rw [hlen]
    have hmb : m ≤ 20000 := by omega
    have hdb : dn ≤ 20000 := by omega
    have hd2 : 1 ≤ dn := by omega
    have i1 : (0 : Int) ≤ (m : Int) := by omega
    clear hf hl hr1 ho hr hlen hdt hd d1 d2 e1 hdn hh
    go_wp2
    go_ret
    exact ⟨rfl, hb⟩


set_option maxHeartbeats 800000 in
theorem missing_any (x gs cs ga ca gk ck : Nat) (s : St) (id : Int) (w : World) (hr : RefAt w x gs cs ga ca gk ck s) (hi : Wk s) :
    Calls Tryz.prog 53 #[.pointer (some ⟨x, 0, none⟩), .int .i64 id] w fun e w' => e = .returned (.int .i64 (missing s id)) ∧ Below w.heap.size w w' := by
  have kl := hi.kl
  have c8 := cell_of_cells (j := 8) hr.blk rfl
  go_enter Tryz.func53, Tryz.ntmps53
  go_wp2_with fail
  refine (in_any 0 gk ck s.keep id _ hr.kep (by omega)).mono ?_
  rintro e w1 ⟨rfl, rfl⟩
  cases hk : has s.keep id
  · go_wp2_with fail
    refine (final_any x gs cs ga ca gk ck s _ hr hi).mono ?_
    rintro e w1 ⟨rfl, hb⟩
    have hsz := hb.size
    go_wp2_with fail
    refine (line_any x gs cs ga ca gk ck s (fin s) _ (hr.keep hb) hi hi.fin_lt).mono ?_
    rintro e w2 ⟨g, cap, rfl, ho, hb2⟩
    have hll : (line s.all (fin s)).length ≤ 1000000 := by
      have := line_length hi.tree (fin s)
      have := hi.hs _ hi.fin_lt
      omega
    have HB := Go.Proofs.YtpaakikgfojplaaGreat.hid (hb.trans (hb2.mono hsz))
    clear hb hb2
    go_wp2_with fail
    refine (in_any _ g cap (line s.all (fin s)) id _ ho hll).mono ?_
    rintro e w3 ⟨rfl, rfl⟩
    have hm : missing s id = if has (line s.all (fin s)) id then 2 else 3 := by unfold missing; rw [hk]; rfl
    clear ho hk
    cases h2 : has (line s.all (fin s)) id
    · rw [h2] at hm
      have HM := Go.Proofs.YtpaakikgfojplaaGreat.hid hm
      clear hm h2
      go_wp2
      go_ret
      exact ⟨by rw [HM.out]; rfl, HB.out⟩
    · rw [h2] at hm
      have HM := Go.Proofs.YtpaakikgfojplaaGreat.hid hm
      clear hm h2
      go_wp2
      go_ret
      exact ⟨by rw [HM.out]; rfl, HB.out⟩
  · have HM := Go.Proofs.YtpaakikgfojplaaGreat.hid (show missing s id = 0 by unfold missing; rw [hk]; rfl)
    clear hk
    go_wp2
    go_ret
    exact ⟨by rw [HM.out]; rfl, Below.refl _ _⟩

set_option maxHeartbeats 400000 in
theorem pool_any (x gs cs ga ca gk ck : Nat) (s : St) (n : Int) (w : World) (hr : RefAt w x gs cs ga ca gk ck s) :
    Calls Tryz.prog 55 #[.pointer (some ⟨x, 0, none⟩), .int .i64 n] w fun e w' => e = .returned (.bool (poolOk s n)) ∧ w = w' := by
  have c6 := cell_of_cells (j := 6) hr.blk rfl
  have hp : poolOk s n = (decide (0 ≤ n) && decide (n < s.par.stakes.length)) := rfl
  have HP := Go.Proofs.YtpaakikgfojplaaGreat.hid hp
  clear hp hr
  by_cases h1 : 0 ≤ n
  · by_cases h2 : n < (s.par.stakes.length : Int)
    · go_enter Tryz.func55, Tryz.ntmps55
      go_wp2
      go_ret
      exact ⟨by rw [HP.out]; simp [h1, h2], rfl⟩
    · go_enter Tryz.func55, Tryz.ntmps55
      go_wp2
      go_ret
      exact ⟨by rw [HP.out]; simp [h2], rfl⟩
  · go_enter Tryz.func55, Tryz.ntmps55
    go_wp2
    go_ret
    exact ⟨by rw [HP.out]; simp; omega, rfl⟩

/-- A header's seven cells. -/
structure HdrAt (w : World) (g i : Nat) (h : Hdr) : Prop where
  c0 : w.cell? ⟨g, i * 8, none⟩ = some (.int .i64 h.slot)
  c1 : w.cell? ⟨g, i * 8 + 1, none⟩ = some (.int .i64 h.pool)
  c2 : w.cell? ⟨g, i * 8 + 2, none⟩ = some (.int .i64 h.proof)
  c3 : w.cell? ⟨g, i * 8 + 3, none⟩ = some (.int .i64 h.count)
  c4 : w.cell? ⟨g, i * 8 + 4, none⟩ = some (.int .i64 h.frm)
  c5 : w.cell? ⟨g, i * 8 + 5, none⟩ = some (.int .i64 h.dst)
  c6 : w.cell? ⟨g, i * 8 + 6, none⟩ = some (.int .i64 h.amount)

theorem RefAt.hdr_at {w : World} {x gs cs ga ca gk ck : Nat} {s : St} (h : RefAt w x gs cs ga ca gk ck s) {i : Nat} (hi : i < s.all.length) : HdrAt w ga i (hd s.all i) := by
  have key : ∀ j, j < 8 → w.cell? ⟨ga, i * 8 + j, none⟩ = (itcells (item s.all i))[j]? := fun j hj => by
    rw [h.all.cellAt _ (by omega), acells_at _ _ _ hi hj]
  exact ⟨key 0 (by omega), key 1 (by omega), key 2 (by omega), key 3 (by omega), key 4 (by omega), key 5 (by omega), key 6 (by omega)⟩

set_option maxHeartbeats 800000 in
theorem slots_any (x gs cs ga ca gk ck : Nat) (s : St) (id : Nat) (slot : Int) (w : World) (hr : RefAt w x gs cs ga ca gk ck s) (hi : Wk s) (hl : id < s.all.length) :
    Calls Tryz.prog 54 #[.pointer (some ⟨x, 0, none⟩), .int .i64 (id : Int), .int .i64 slot] w fun e w' => e = .returned (.bool (slotOk s id slot)) ∧ w = w' := by
  have c7 := cell_of_cells (j := 7) hr.blk rfl
  have h0 := (hr.hdr_at hl).c0
  have hsm := hi.small
  have HP := Go.Proofs.YtpaakikgfojplaaGreat.hid (show slotOk s id slot = (decide (0 ≤ slot) && decide (slot ≤ 10000) && (decide (id = 0) || decide ((hd s.all id).slot < slot))) from rfl)
  clear hr hi
  generalize (hd s.all id).slot = q at *
  by_cases h1 : slot < 0
  · go_enter Tryz.func54, Tryz.ntmps54
    go_wp2
    go_ret
    exact ⟨by rw [HP.out]; simp [show ¬ 0 ≤ slot by omega], rfl⟩
  · by_cases h2 : 10000 < slot
    · go_enter Tryz.func54, Tryz.ntmps54
      go_wp2
      go_ret
      exact ⟨by rw [HP.out]; simp [show ¬ slot ≤ 10000 by omega], rfl⟩
    · by_cases h3 : id = 0
      · subst h3
        go_enter Tryz.func54, Tryz.ntmps54
        go_wp2
        go_ret
        exact ⟨by rw [HP.out]; simp; omega, rfl⟩
      · have h3' : ((id : Int) == 0) = false := by rw [beq_eq_false_iff_ne]; omega
        by_cases h4 : q < slot
        · go_enter Tryz.func54, Tryz.ntmps54
          go_wp2
          go_ret
          exact ⟨by rw [HP.out]; simp [h4, show 0 ≤ slot by omega, show slot ≤ 10000 by omega], rfl⟩
        · go_enter Tryz.func54, Tryz.ntmps54
          go_wp2
          go_ret
          exact ⟨by rw [HP.out]; simp [h4, h3], rfl⟩

end Go.Proofs.YtpaakikgfojplaaGreat

/-
  The statements' book (package beaconkeep) in memory; line, has, tip, final, kept.
-/
namespace Go.Proofs.YtpaakikgfojplaaGreat
open Go.RowKit Num Bk
set_option linter.unusedVariables false

end Go.Proofs.YtpaakikgfojplaaGreat

/-
  THE WALKS of the statements' book: has, tip, final, kept, begins.
-/
namespace Go.Proofs.YtpaakikgfojplaaGreat
open Go.RowKit Num Bk
set_option linter.unusedVariables false

end Go.Proofs.YtpaakikgfojplaaGreat

/-
  THE WALKS of the statements' book: count, ahead, stake, running.
-/
namespace Go.Proofs.YtpaakikgfojplaaGreat
open Go.RowKit Num Bk
set_option linter.unusedVariables false

/-- A pool's stake behind a header. -/
def stakeOf (s : St) (id pN : Nat) : Int := (stakesAt s.par s.all id).getD pN 0

end Go.Proofs.YtpaakikgfojplaaGreat

