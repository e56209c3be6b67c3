import Derived.Test.YtpaakikgfojplaaGreatCLawW
import Derived.Test.YtpaakikgfojplaaGreatCM5
/-
  THE WALK of the statements' step, up to the fourth kind.
-/
namespace Go.Proofs.YtpaakikgfojplaaGreat
open Go.RowKit Num Bk
set_option linter.unusedVariables false

set_option maxHeartbeats 12800000 in
set_option maxRecDepth 1000000 in
theorem step4_any {Rep : World → Nat → (Nat → Prop) → St → Prop} (P : PSpec Rep) {w : World} {wd : Nat} {x c : Bool → Nat} {F G : Bool → Nat → Prop} {s : Bool → St} {lv mv : Value} {L M : List Ent} (h : WAt Rep w wd x c F G s lv mv L M) (o : OpS) (ho : OpI o) (hk : o.kind ≤ 4) :
    Calls Tryz.prog 8 #[.pointer (some ⟨wd, 0, none⟩), opV o] w fun r w' => r = .returned (.bool true) ∧ Stays Rep w w' wd x c F G lv mv L.length := by
  unfold opV
  rw [show opA o = #[.int .i64 o.kind, .bool o.other, .int .i64 o.A, .int .i64 o.B, .int .i64 o.C, .int .i64 o.h.slot, .int .i64 o.h.pool, .int .i64 o.h.proof, .int .i64 o.h.count, .int .i64 o.h.frm, .int .i64 o.h.dst, .int .i64 o.h.amount, .string o.S] from rfl]
  go_enter Tryz.func8, Tryz.ntmps8
  go_upto_region 1 with fail
  generalize hA : w.alloc (.cells #[.int .i64 o.kind, .bool o.other, .int .i64 o.A, .int .i64 o.B, .int .i64 o.C, .int .i64 o.h.slot, .int .i64 o.h.pool, .int .i64 o.h.proof, .int .i64 o.h.count, .int .i64 o.h.frm, .int .i64 o.h.dst, .int .i64 o.h.amount, .string o.S] 42) = A at *
  obtain ⟨hsA, hbA, hAo⟩ := below_zero hA
  clear hA
  have hWA := h.keep P hbA
  have HWA := Go.Proofs.YtpaakikgfojplaaGreat.hid hWA
  have HO := Go.Proofs.YtpaakikgfojplaaGreat.hid ho
  have hlA : w.heap.size < A.heap.size := by omega
  have HBA := Go.Proofs.YtpaakikgfojplaaGreat.hid hbA
  have k1 : A.cell? ⟨w.heap.size, 1, none⟩ = some (.bool o.other) := cell_of_cells (j := 1) hAo rfl
  have d0 := cell_of_cells (j := 0) hWA.blk rfl
  have d1 := cell_of_cells (j := 1) hWA.blk rfl
  have d2 := cell_of_cells (j := 2) hWA.blk rfl
  have d3 := cell_of_cells (j := 3) hWA.blk rfl
  have HAO : Hid (A.heap[w.heap.size]? = some (.cells (opA o) 42 (0, 0))) := hAo
  clear h hWA hAo hsA ho hbA
  cases hob : o.other
  · have hobb : o.other = false := hob
    rw [hobb] at k1
    go_upto_region 5 with fail
    generalize hB : A.alloc (.cells #[.pointer (some ⟨x false, 0, none⟩), .pointer (some ⟨c false, 0, none⟩)] 31) = B at *
    obtain ⟨hsB, hbB, hBo⟩ := below_zero hB
    clear hB
    have hWB := HWA.out.keep P hbB
    have hop : B.heap[w.heap.size]? = some (.cells (opA o) 42 (0, 0)) := (hbB.block _ hlA).trans HAO.out
    have s0 := cell_of_cells (j := 0) hBo rfl
    have s1 := cell_of_cells (j := 1) hBo rfl
    have k0 : B.cell? ⟨w.heap.size, 0, none⟩ = some (.int .i64 o.kind) := cell_of_cells (j := 0) hop rfl
    have k2 : B.cell? ⟨w.heap.size, 2, none⟩ = some (.int .i64 o.A) := cell_of_cells (j := 2) hop rfl
    have k3 : B.cell? ⟨w.heap.size, 3, none⟩ = some (.int .i64 o.B) := cell_of_cells (j := 3) hop rfl
    have k4 : B.cell? ⟨w.heap.size, 4, none⟩ = some (.int .i64 o.C) := cell_of_cells (j := 4) hop rfl
    have k5 : B.cell? ⟨w.heap.size, 5, none⟩ = some (.int .i64 o.h.slot) := cell_of_cells (j := 5) hop rfl
    have k6 : B.cell? ⟨w.heap.size, 6, none⟩ = some (.int .i64 o.h.pool) := cell_of_cells (j := 6) hop rfl
    have k7 : B.cell? ⟨w.heap.size, 7, none⟩ = some (.int .i64 o.h.proof) := cell_of_cells (j := 7) hop rfl
    have k8 : B.cell? ⟨w.heap.size, 8, none⟩ = some (.int .i64 o.h.count) := cell_of_cells (j := 8) hop rfl
    have k9 : B.cell? ⟨w.heap.size, 9, none⟩ = some (.int .i64 o.h.frm) := cell_of_cells (j := 9) hop rfl
    have k10 : B.cell? ⟨w.heap.size, 10, none⟩ = some (.int .i64 o.h.dst) := cell_of_cells (j := 10) hop rfl
    have k11 : B.cell? ⟨w.heap.size, 11, none⟩ = some (.int .i64 o.h.amount) := cell_of_cells (j := 11) hop rfl
    have k12 : B.cell? ⟨w.heap.size, 12, none⟩ = some (.string o.S) := cell_of_cells (j := 12) hop rfl
    have kk1 : B.cell? ⟨w.heap.size, 1, none⟩ = some (.bool false) := by rw [← hobb]; exact cell_of_cells (j := 1) hop rfl
    have HWB := Go.Proofs.YtpaakikgfojplaaGreat.hid hWB
    have HBB := Go.Proofs.YtpaakikgfojplaaGreat.hid (HBA.out.trans (hbB.mono HBA.out.size))
    clear HWA HAO hbB hBo hop d0 d1 d2 d3 k1 hsB hWB hob
    by_cases e1 : o.kind = 1
    · have b1 : (o.kind == 1) = true := by rw [e1]; rfl
      clear e1
      go_wp2_with fail
      have hgo := goes_any P (x false) (c false) (F false) (G false) (s false) o B (HWB.out.side false) HO.out
      unfold sideV opV at hgo
      rw [show opA o = #[.int .i64 o.kind, .bool false, .int .i64 o.A, .int .i64 o.B, .int .i64 o.C, .int .i64 o.h.slot, .int .i64 o.h.pool, .int .i64 o.h.proof, .int .i64 o.h.count, .int .i64 o.h.frm, .int .i64 o.h.dst, .int .i64 o.h.amount, .string o.S] from by rw [← hobb]; rfl] at hgo
      refine hgo.mono ?_
      rintro r w2 ⟨rfl, hL2⟩
      have HF := Go.Proofs.YtpaakikgfojplaaGreat.hid ((HWB.out.left P false hL2).from HBB.out)
      clear hL2 HWB hgo
      go_wp2
      go_ret
      exact ⟨rfl, HF.out⟩
    · skip
      by_cases e2 : o.kind = 2
      · have b2 : (o.kind == 2) = true := by rw [e2]; rfl
        have b1 : (o.kind == 1) = false := by rw [e2]; rfl
        clear e1 e2
        go_wp2_with fail
        have hgo := goes_any P (x false) (c false) (F false) (G false) (s false) o B (HWB.out.side false) HO.out
        unfold sideV opV at hgo
        rw [show opA o = #[.int .i64 o.kind, .bool false, .int .i64 o.A, .int .i64 o.B, .int .i64 o.C, .int .i64 o.h.slot, .int .i64 o.h.pool, .int .i64 o.h.proof, .int .i64 o.h.count, .int .i64 o.h.frm, .int .i64 o.h.dst, .int .i64 o.h.amount, .string o.S] from by rw [← hobb]; rfl] at hgo
        refine hgo.mono ?_
        rintro r w2 ⟨rfl, hL2⟩
        have HF := Go.Proofs.YtpaakikgfojplaaGreat.hid ((HWB.out.left P false hL2).from HBB.out)
        clear hL2 HWB hgo
        go_wp2
        go_ret
        exact ⟨rfl, HF.out⟩
      · skip
        by_cases e3 : o.kind = 3
        · have b3 : (o.kind == 3) = true := by rw [e3]; rfl
          have b1 : (o.kind == 1) = false := by rw [e3]; rfl
          have b2 : (o.kind == 2) = false := by rw [e3]; rfl
          clear e1 e2 e3
          go_wp2_with fail
          have hgo := goes_any P (x false) (c false) (F false) (G false) (s false) o B (HWB.out.side false) HO.out
          unfold sideV opV at hgo
          rw [show opA o = #[.int .i64 o.kind, .bool false, .int .i64 o.A, .int .i64 o.B, .int .i64 o.C, .int .i64 o.h.slot, .int .i64 o.h.pool, .int .i64 o.h.proof, .int .i64 o.h.count, .int .i64 o.h.frm, .int .i64 o.h.dst, .int .i64 o.h.amount, .string o.S] from by rw [← hobb]; rfl] at hgo
          refine hgo.mono ?_
          rintro r w2 ⟨rfl, hL2⟩
          have HF := Go.Proofs.YtpaakikgfojplaaGreat.hid ((HWB.out.left P false hL2).from HBB.out)
          clear hL2 HWB hgo
          go_wp2
          go_ret
          exact ⟨rfl, HF.out⟩
        · skip
          by_cases e4 : o.kind = 4
          · have b4 : (o.kind == 4) = true := by rw [e4]; rfl
            have b1 : (o.kind == 1) = false := by rw [e4]; rfl
            have b2 : (o.kind == 2) = false := by rw [e4]; rfl
            have b3 : (o.kind == 3) = false := by rw [e4]; rfl
            clear e1 e2 e3 e4
            go_wp2_with fail
            have hgo := goes_any P (x false) (c false) (F false) (G false) (s false) o B (HWB.out.side false) HO.out
            unfold sideV opV at hgo
            rw [show opA o = #[.int .i64 o.kind, .bool false, .int .i64 o.A, .int .i64 o.B, .int .i64 o.C, .int .i64 o.h.slot, .int .i64 o.h.pool, .int .i64 o.h.proof, .int .i64 o.h.count, .int .i64 o.h.frm, .int .i64 o.h.dst, .int .i64 o.h.amount, .string o.S] from by rw [← hobb]; rfl] at hgo
            refine hgo.mono ?_
            rintro r w2 ⟨rfl, hL2⟩
            have HF := Go.Proofs.YtpaakikgfojplaaGreat.hid ((HWB.out.left P false hL2).from HBB.out)
            clear hL2 HWB hgo
            go_wp2
            go_ret
            exact ⟨rfl, HF.out⟩
          · have b1 : (o.kind == 1) = false := by rw [beq_eq_false_iff_ne]; assumption
            have b2 : (o.kind == 2) = false := by rw [beq_eq_false_iff_ne]; assumption
            have b3 : (o.kind == 3) = false := by rw [beq_eq_false_iff_ne]; assumption
            have b4 : (o.kind == 4) = false := by rw [beq_eq_false_iff_ne]; assumption
            have b5 : (o.kind == 5) = false := by rw [beq_eq_false_iff_ne]; omega
            have b6 : (o.kind == 6) = false := by rw [beq_eq_false_iff_ne]; omega
            have b7 : (o.kind == 7) = false := by rw [beq_eq_false_iff_ne]; omega
            have b8 : (o.kind == 8) = false := by rw [beq_eq_false_iff_ne]; omega
            have b9 : (o.kind == 9) = false := by rw [beq_eq_false_iff_ne]; omega
            have b10 : (o.kind == 10) = false := by rw [beq_eq_false_iff_ne]; omega
            have b11 : (o.kind == 11) = false := by rw [beq_eq_false_iff_ne]; omega
            have b12 : (o.kind == 12) = false := by rw [beq_eq_false_iff_ne]; omega
            have HF : Hid (Stays Rep w B wd x c F G lv mv L.length) := HWB.out.same.from HBB.out
            clear HWB e1 e2 e3 e4
            go_wp2
            go_ret
            exact ⟨rfl, HF.out⟩
  · have hobb : o.other = true := hob
    rw [hobb] at k1
    go_upto_region 5 with fail
    generalize hB : A.alloc (.cells #[.pointer (some ⟨x true, 0, none⟩), .pointer (some ⟨c true, 0, none⟩)] 31) = B at *
    obtain ⟨hsB, hbB, hBo⟩ := below_zero hB
    clear hB
    have hWB := HWA.out.keep P hbB
    have hop : B.heap[w.heap.size]? = some (.cells (opA o) 42 (0, 0)) := (hbB.block _ hlA).trans HAO.out
    have s0 := cell_of_cells (j := 0) hBo rfl
    have s1 := cell_of_cells (j := 1) hBo rfl
    have k0 : B.cell? ⟨w.heap.size, 0, none⟩ = some (.int .i64 o.kind) := cell_of_cells (j := 0) hop rfl
    have k2 : B.cell? ⟨w.heap.size, 2, none⟩ = some (.int .i64 o.A) := cell_of_cells (j := 2) hop rfl
    have k3 : B.cell? ⟨w.heap.size, 3, none⟩ = some (.int .i64 o.B) := cell_of_cells (j := 3) hop rfl
    have k4 : B.cell? ⟨w.heap.size, 4, none⟩ = some (.int .i64 o.C) := cell_of_cells (j := 4) hop rfl
    have k5 : B.cell? ⟨w.heap.size, 5, none⟩ = some (.int .i64 o.h.slot) := cell_of_cells (j := 5) hop rfl
    have k6 : B.cell? ⟨w.heap.size, 6, none⟩ = some (.int .i64 o.h.pool) := cell_of_cells (j := 6) hop rfl
    have k7 : B.cell? ⟨w.heap.size, 7, none⟩ = some (.int .i64 o.h.proof) := cell_of_cells (j := 7) hop rfl
    have k8 : B.cell? ⟨w.heap.size, 8, none⟩ = some (.int .i64 o.h.count) := cell_of_cells (j := 8) hop rfl
    have k9 : B.cell? ⟨w.heap.size, 9, none⟩ = some (.int .i64 o.h.frm) := cell_of_cells (j := 9) hop rfl
    have k10 : B.cell? ⟨w.heap.size, 10, none⟩ = some (.int .i64 o.h.dst) := cell_of_cells (j := 10) hop rfl
    have k11 : B.cell? ⟨w.heap.size, 11, none⟩ = some (.int .i64 o.h.amount) := cell_of_cells (j := 11) hop rfl
    have k12 : B.cell? ⟨w.heap.size, 12, none⟩ = some (.string o.S) := cell_of_cells (j := 12) hop rfl
    have kk1 : B.cell? ⟨w.heap.size, 1, none⟩ = some (.bool true) := by rw [← hobb]; exact cell_of_cells (j := 1) hop rfl
    have HWB := Go.Proofs.YtpaakikgfojplaaGreat.hid hWB
    have HBB := Go.Proofs.YtpaakikgfojplaaGreat.hid (HBA.out.trans (hbB.mono HBA.out.size))
    clear HWA HAO hbB hBo hop d0 d1 d2 d3 k1 hsB hWB hob
    by_cases e1 : o.kind = 1
    · have b1 : (o.kind == 1) = true := by rw [e1]; rfl
      clear e1
      go_wp2_with fail
      have hgo := goes_any P (x true) (c true) (F true) (G true) (s true) o B (HWB.out.side true) HO.out
      unfold sideV opV at hgo
      rw [show opA o = #[.int .i64 o.kind, .bool true, .int .i64 o.A, .int .i64 o.B, .int .i64 o.C, .int .i64 o.h.slot, .int .i64 o.h.pool, .int .i64 o.h.proof, .int .i64 o.h.count, .int .i64 o.h.frm, .int .i64 o.h.dst, .int .i64 o.h.amount, .string o.S] from by rw [← hobb]; rfl] at hgo
      refine hgo.mono ?_
      rintro r w2 ⟨rfl, hL2⟩
      have HF := Go.Proofs.YtpaakikgfojplaaGreat.hid ((HWB.out.left P true hL2).from HBB.out)
      clear hL2 HWB hgo
      go_wp2
      go_ret
      exact ⟨rfl, HF.out⟩
    · skip
      by_cases e2 : o.kind = 2
      · have b2 : (o.kind == 2) = true := by rw [e2]; rfl
        have b1 : (o.kind == 1) = false := by rw [e2]; rfl
        clear e1 e2
        go_wp2_with fail
        have hgo := goes_any P (x true) (c true) (F true) (G true) (s true) o B (HWB.out.side true) HO.out
        unfold sideV opV at hgo
        rw [show opA o = #[.int .i64 o.kind, .bool true, .int .i64 o.A, .int .i64 o.B, .int .i64 o.C, .int .i64 o.h.slot, .int .i64 o.h.pool, .int .i64 o.h.proof, .int .i64 o.h.count, .int .i64 o.h.frm, .int .i64 o.h.dst, .int .i64 o.h.amount, .string o.S] from by rw [← hobb]; rfl] at hgo
        refine hgo.mono ?_
        rintro r w2 ⟨rfl, hL2⟩
        have HF := Go.Proofs.YtpaakikgfojplaaGreat.hid ((HWB.out.left P true hL2).from HBB.out)
        clear hL2 HWB hgo
        go_wp2
        go_ret
        exact ⟨rfl, HF.out⟩
      · skip
        by_cases e3 : o.kind = 3
        · have b3 : (o.kind == 3) = true := by rw [e3]; rfl
          have b1 : (o.kind == 1) = false := by rw [e3]; rfl
          have b2 : (o.kind == 2) = false := by rw [e3]; rfl
          clear e1 e2 e3
          go_wp2_with fail
          have hgo := goes_any P (x true) (c true) (F true) (G true) (s true) o B (HWB.out.side true) HO.out
          unfold sideV opV at hgo
          rw [show opA o = #[.int .i64 o.kind, .bool true, .int .i64 o.A, .int .i64 o.B, .int .i64 o.C, .int .i64 o.h.slot, .int .i64 o.h.pool, .int .i64 o.h.proof, .int .i64 o.h.count, .int .i64 o.h.frm, .int .i64 o.h.dst, .int .i64 o.h.amount, .string o.S] from by rw [← hobb]; rfl] at hgo
          refine hgo.mono ?_
          rintro r w2 ⟨rfl, hL2⟩
          have HF := Go.Proofs.YtpaakikgfojplaaGreat.hid ((HWB.out.left P true hL2).from HBB.out)
          clear hL2 HWB hgo
          go_wp2
          go_ret
          exact ⟨rfl, HF.out⟩
        · skip
          by_cases e4 : o.kind = 4
          · have b4 : (o.kind == 4) = true := by rw [e4]; rfl
            have b1 : (o.kind == 1) = false := by rw [e4]; rfl
            have b2 : (o.kind == 2) = false := by rw [e4]; rfl
            have b3 : (o.kind == 3) = false := by rw [e4]; rfl
            clear e1 e2 e3 e4
            go_wp2_with fail
            have hgo := goes_any P (x true) (c true) (F true) (G true) (s true) o B (HWB.out.side true) HO.out
            unfold sideV opV at hgo
            rw [show opA o = #[.int .i64 o.kind, .bool true, .int .i64 o.A, .int .i64 o.B, .int .i64 o.C, .int .i64 o.h.slot, .int .i64 o.h.pool, .int .i64 o.h.proof, .int .i64 o.h.count, .int .i64 o.h.frm, .int .i64 o.h.dst, .int .i64 o.h.amount, .string o.S] from by rw [← hobb]; rfl] at hgo
            refine hgo.mono ?_
            rintro r w2 ⟨rfl, hL2⟩
            have HF := Go.Proofs.YtpaakikgfojplaaGreat.hid ((HWB.out.left P true hL2).from HBB.out)
            clear hL2 HWB hgo
            go_wp2
            go_ret
            exact ⟨rfl, HF.out⟩
          · have b1 : (o.kind == 1) = false := by rw [beq_eq_false_iff_ne]; assumption
            have b2 : (o.kind == 2) = false := by rw [beq_eq_false_iff_ne]; assumption
            have b3 : (o.kind == 3) = false := by rw [beq_eq_false_iff_ne]; assumption
            have b4 : (o.kind == 4) = false := by rw [beq_eq_false_iff_ne]; assumption
            have b5 : (o.kind == 5) = false := by rw [beq_eq_false_iff_ne]; omega
            have b6 : (o.kind == 6) = false := by rw [beq_eq_false_iff_ne]; omega
            have b7 : (o.kind == 7) = false := by rw [beq_eq_false_iff_ne]; omega
            have b8 : (o.kind == 8) = false := by rw [beq_eq_false_iff_ne]; omega
            have b9 : (o.kind == 9) = false := by rw [beq_eq_false_iff_ne]; omega
            have b10 : (o.kind == 10) = false := by rw [beq_eq_false_iff_ne]; omega
            have b11 : (o.kind == 11) = false := by rw [beq_eq_false_iff_ne]; omega
            have b12 : (o.kind == 12) = false := by rw [beq_eq_false_iff_ne]; omega
            have HF : Hid (Stays Rep w B wd x c F G lv mv L.length) := HWB.out.same.from HBB.out
            clear HWB e1 e2 e3 e4
            go_wp2
            go_ret
            exact ⟨rfl, HF.out⟩

end Go.Proofs.YtpaakikgfojplaaGreat

/-
  PLAIN MATHEMATICS: the program's page of a header, held against what goes with the header.
-/
namespace Go.Proofs.YtpaakikgfojplaaGreat.Bk
open Num
set_option linter.unusedVariables false

structure Pg where
  slot : Int
  stakes : Nat → Int
  counts : Nat → Int
  running : Int
  nonce : Int
  before : Nat → Int
  long : Nat → Int

def pageOf (p : Par) (all : List Itm) (id : Nat) : Pg :=
  { slot := if id = 0 then -1 else (hd all id).slot
    stakes := fun j => (stakesAt p all id).getD j 0
    counts := fun j => countAt all (j : Int) id
    running := runAt p all id
    nonce := if id = 0 then 0 else runAt p all (lastAt p all ((hd all id).slot / p.epoch) id)
    before := fun j => if id = 0 then 0 else (stakesAt p all (lastAt p all ((hd all id).slot / p.epoch) id)).getD j 0
    long := fun j => if id = 0 then 0 else (stakesAt p all (lastAt p all ((hd all id).slot / p.epoch - 1) id)).getD j 0 }

def epochOf (p : Par) (slot : Int) : Int := if slot = -1 then -2 else slot / p.epoch
def nonceIn (p : Par) (g : Pg) (e : Int) : Int := if epochOf p g.slot < e then g.running else g.nonce
def stakesIn (p : Par) (g : Pg) (e : Int) : Nat → Int := if epochOf p g.slot < e - 1 then g.stakes else if epochOf p g.slot < e then g.before else g.long

def upd (f : Nat → Int) (k : Nat) (v : Int) : Nat → Int := fun j => if k = j then v else f j
def movedF (f : Nat → Int) (h : Hdr) : Nat → Int :=
  upd (upd f h.frm.toNat (f h.frm.toNat - h.amount)) h.dst.toNat ((upd f h.frm.toNat (f h.frm.toNat - h.amount)) h.dst.toNat + h.amount)

def afterPg (p : Par) (g : Pg) (h : Hdr) : Pg :=
  { slot := h.slot
    stakes := movedF g.stakes h
    counts := upd g.counts h.pool.toNat h.count
    running := runS p.epoch g.running h
    nonce := nonceIn p g (epochOf p h.slot)
    before := stakesIn p g (epochOf p h.slot + 1)
    long := stakesIn p g (epochOf p h.slot) }

theorem epochOf_nat (p : Par) {slot : Int} (h : 0 ≤ slot) : epochOf p slot = slot / p.epoch := by
  unfold epochOf; rw [if_neg (by omega)]

theorem last_self (p : Par) {all : List Itm} (ht : Tree all) (e : Int) {i : Nat} (h : i = 0 ∨ (hd all i).slot / p.epoch < e) : lastAt p all e i = i := by
  rcases Nat.eq_zero_or_pos i with h0 | h0
  · subst h0; rw [lastAt_zero]
  · rcases h with h | h
    · omega
    · rw [lastAt_step p e ht h0, if_pos h]

theorem nonceIn_eq {s : St} (hi : Inv s) {i : Nat} (hl : i < s.all.length) (e : Int) (he : 0 ≤ e) (h : i = 0 ∨ (hd s.all i).slot / s.par.epoch ≤ e) :
    nonceIn s.par (pageOf s.par s.all i) e = runAt s.par s.all (lastAt s.par s.all e i) := by
  unfold nonceIn
  have hs := slot_bounds hi hl
  rcases Nat.eq_zero_or_pos i with h0 | h0
  · subst h0
    rw [if_pos (by simp [pageOf, epochOf]; omega), lastAt_zero]; rfl
  · have e1 : (pageOf s.par s.all i).slot = (hd s.all i).slot := by simp [pageOf]; omega
    rw [e1, epochOf_nat _ hs.1]
    have h1 : (hd s.all i).slot / s.par.epoch ≤ e := by omega
    split
    · rename_i hlt
      rw [last_self s.par hi.tree e (Or.inr hlt)]; rfl
    · rename_i hlt
      have : (hd s.all i).slot / s.par.epoch = e := by omega
      show (if i = 0 then 0 else _) = _
      rw [if_neg (by omega), this]

theorem stakesIn_eq {s : St} (hi : Inv s) {i : Nat} (hl : i < s.all.length) (e : Int) (he : 0 ≤ e) (h : i = 0 ∨ (hd s.all i).slot / s.par.epoch ≤ e) :
    stakesIn s.par (pageOf s.par s.all i) e = fun j => (stakesAt s.par s.all (lastAt s.par s.all (e - 1) i)).getD j 0 := by
  unfold stakesIn
  have hs := slot_bounds hi hl
  rcases Nat.eq_zero_or_pos i with h0 | h0
  · subst h0
    rw [if_pos (by simp [pageOf, epochOf]; omega), lastAt_zero]; rfl
  · have e1 : (pageOf s.par s.all i).slot = (hd s.all i).slot := by simp [pageOf]; omega
    rw [e1, epochOf_nat _ hs.1]
    have h1 : (hd s.all i).slot / s.par.epoch ≤ e := by omega
    split
    · rename_i hlt
      rw [last_self s.par hi.tree (e - 1) (Or.inr hlt)]; rfl
    · split
      · have : (hd s.all i).slot / s.par.epoch = e - 1 := by omega
        funext j
        show (if i = 0 then 0 else _) = _
        rw [if_neg (by omega), this]
      · have : (hd s.all i).slot / s.par.epoch = e := by omega
        funext j
        show (if i = 0 then 0 else _) = _
        rw [if_neg (by omega), this]

theorem movedF_eq (l : List Int) (h : Hdr) (h1 : h.frm.toNat < l.length) (h2 : h.dst.toNat < l.length) : movedF (fun j => l.getD j 0) h = fun j => (moveS l h).getD j 0 := by
  funext j
  rw [moveS_at l h h1 h2]
  unfold movedF upd
  simp only []
  by_cases e1 : h.dst.toNat = j
  · rw [if_pos e1, if_pos e1]
    by_cases e2 : h.frm.toNat = j
    · rw [if_pos (by omega), if_pos e2, e2]
    · rw [if_neg (by omega), if_neg e2, e1]; omega
  · rw [if_neg e1, if_neg e1]
    by_cases e2 : h.frm.toNat = j
    · rw [if_pos e2, if_pos e2, e2]; omega
    · rw [if_neg e2, if_neg e2]; omega

theorem pageOf_old {all : List Itm} (ht : Tree all) {x : Itm} (h0 : 0 < all.length) (h : x.par < all.length) (p : Par) {i : Nat} (hi : i < all.length) : pageOf p (all ++ [x]) i = pageOf p all i := by
  have hlt : ∀ e, lastAt p all e i < all.length := fun e => by have := line_le ht i _ (lastAt_mem p ht e i); omega
  unfold pageOf
  rw [hd_old hi, lastAt_old ht h0 h p _ hi, lastAt_old ht h0 h p _ hi, stakesAt_old ht h0 h p hi, runAt_old ht h0 h p hi, runAt_old ht h0 h p (hlt _), stakesAt_old ht h0 h p (hlt _), stakesAt_old ht h0 h p (hlt _)]
  congr 1
  funext j
  rw [countAt_old ht h0 h _ hi]

/-- The page of a header that came is what the program makes of its parent's. -/
theorem page_step {s : St} (hi : Inv s) {i : Nat} (h0 : 0 < i) (hl : i < s.all.length) : pageOf s.par s.all i = afterPg s.par (pageOf s.par s.all (pa s.all i)) (hd s.all i) := by
  have ho := hi.hdrs i h0 hl
  have hpl := inv_pa hi h0 hl
  have ep := hi.par.e1
  have hep : 0 ≤ (hd s.all i).slot / s.par.epoch := Int.ediv_nonneg ho.slot0 (by omega)
  have hle : pa s.all i = 0 ∨ (hd s.all (pa s.all i)).slot / s.par.epoch ≤ (hd s.all i).slot / s.par.epoch := by
    rcases ho.slot2 with h | h
    · exact Or.inl h
    · exact Or.inr (Int.ediv_le_ediv (by omega) (by omega))
  have hst := stakes_ok hi _ hpl
  have f0 := ho.frm0
  have f1 := ho.frm1
  have d0 := ho.dst0
  have d1 := ho.dst1
  have hn := nonceIn_eq hi hpl _ hep hle
  have hb := stakesIn_eq hi hpl ((hd s.all i).slot / s.par.epoch + 1) (by omega) (by omega)
  have hg := stakesIn_eq hi hpl _ hep hle
  have hE := epochOf_nat s.par ho.slot0
  unfold afterPg
  rw [hE, hn, hb, hg]
  unfold pageOf
  rw [if_neg (by omega), if_neg (by omega), runAt_step s.par hi.tree h0, stakesAt_step s.par hi.tree h0, lastAt_step s.par _ hi.tree h0, if_neg (by omega), lastAt_step s.par _ hi.tree h0, if_neg (by omega)]
  congr 1
  · rw [movedF_eq _ _ (by rw [hst.len]; omega) (by rw [hst.len]; omega)]
  · funext j
    rw [countAt_step _ hi.tree h0]
    unfold countS upd
    have := ho.pool0
    by_cases e : (hd s.all i).pool = (j : Int)
    · rw [if_pos e, if_pos (by omega)]
    · rw [if_neg e, if_neg (by omega)]
  · funext j
    rw [if_neg (by omega), show (hd s.all i).slot / s.par.epoch + 1 - 1 = (hd s.all i).slot / s.par.epoch by omega]
  · funext j
    rw [if_neg (by omega)]

end Go.Proofs.YtpaakikgfojplaaGreat.Bk

