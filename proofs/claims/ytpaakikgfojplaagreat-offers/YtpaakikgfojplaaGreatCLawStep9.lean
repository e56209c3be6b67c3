import Derived.Test.YtpaakikgfojplaaGreatCTold
/-
  THE WALK of the statements' step, up to the ninth kind.
-/
namespace Go.Proofs.YtpaakikgfojplaaGreat
open Go.RowKit Num Bk
set_option linter.unusedVariables false

set_option maxHeartbeats 12800000 in
set_option maxRecDepth 1000000 in
theorem step9_any {Rep : World → Nat → (Nat → Prop) → St → Prop} (P : PSpec Rep) {w : World} {wd : Nat} {x c : Bool → Nat} {F G : Bool → Nat → Prop} {s : Bool → St} {lv mv : Value} {L M : List Ent} (h : WAt Rep w wd x c F G s lv mv L M) (o : OpS) (ho : OpI o) (hk : o.kind ≤ 9) (hL : L.length ≤ 1499999999999) :
    Calls Tryz.prog 8 #[.pointer (some ⟨wd, 0, none⟩), opV o] w fun r w' => r = .returned (.bool true) ∧ Stays Rep w w' wd x c F G lv mv L.length := by
  unfold opV
  rw [show opA o = #[.int .i64 o.kind, .bool o.other, .int .i64 o.A, .int .i64 o.B, .int .i64 o.C, .int .i64 o.h.slot, .int .i64 o.h.pool, .int .i64 o.h.proof, .int .i64 o.h.count, .int .i64 o.h.frm, .int .i64 o.h.dst, .int .i64 o.h.amount, .string o.S] from rfl]
  go_enter Tryz.func8, Tryz.ntmps8
  go_upto_region 1 with fail
  generalize hA : w.alloc (.cells #[.int .i64 o.kind, .bool o.other, .int .i64 o.A, .int .i64 o.B, .int .i64 o.C, .int .i64 o.h.slot, .int .i64 o.h.pool, .int .i64 o.h.proof, .int .i64 o.h.count, .int .i64 o.h.frm, .int .i64 o.h.dst, .int .i64 o.h.amount, .string o.S] 42) = A at *
  obtain ⟨hsA, hbA, hAo⟩ := below_zero hA
  clear hA
  have hWA := h.keep P hbA
  have HWA := Go.Proofs.YtpaakikgfojplaaGreat.hid hWA
  have HO := Go.Proofs.YtpaakikgfojplaaGreat.hid ho
  have hlA : w.heap.size < A.heap.size := by omega
  have HBA := Go.Proofs.YtpaakikgfojplaaGreat.hid hbA
  have k1 : A.cell? ⟨w.heap.size, 1, none⟩ = some (.bool o.other) := cell_of_cells (j := 1) hAo rfl
  have d0 := cell_of_cells (j := 0) hWA.blk rfl
  have d1 := cell_of_cells (j := 1) hWA.blk rfl
  have d2 := cell_of_cells (j := 2) hWA.blk rfl
  have d3 := cell_of_cells (j := 3) hWA.blk rfl
  have HAO : Hid (A.heap[w.heap.size]? = some (.cells (opA o) 42 (0, 0))) := hAo
  clear h hWA hAo hsA ho hbA
  cases hob : o.other
  · have hobb : o.other = false := hob
    rw [hobb] at k1
    go_upto_region 5 with fail
    generalize hB : A.alloc (.cells #[.pointer (some ⟨x false, 0, none⟩), .pointer (some ⟨c false, 0, none⟩)] 31) = B at *
    obtain ⟨hsB, hbB, hBo⟩ := below_zero hB
    clear hB
    have hWB := HWA.out.keep P hbB
    have hop : B.heap[w.heap.size]? = some (.cells (opA o) 42 (0, 0)) := (hbB.block _ hlA).trans HAO.out
    have s0 := cell_of_cells (j := 0) hBo rfl
    have s1 := cell_of_cells (j := 1) hBo rfl
    have k0 : B.cell? ⟨w.heap.size, 0, none⟩ = some (.int .i64 o.kind) := cell_of_cells (j := 0) hop rfl
    have k2 : B.cell? ⟨w.heap.size, 2, none⟩ = some (.int .i64 o.A) := cell_of_cells (j := 2) hop rfl
    have k3 : B.cell? ⟨w.heap.size, 3, none⟩ = some (.int .i64 o.B) := cell_of_cells (j := 3) hop rfl
    have k4 : B.cell? ⟨w.heap.size, 4, none⟩ = some (.int .i64 o.C) := cell_of_cells (j := 4) hop rfl
    have k5 : B.cell? ⟨w.heap.size, 5, none⟩ = some (.int .i64 o.h.slot) := cell_of_cells (j := 5) hop rfl
    have k6 : B.cell? ⟨w.heap.size, 6, none⟩ = some (.int .i64 o.h.pool) := cell_of_cells (j := 6) hop rfl
    have k7 : B.cell? ⟨w.heap.size, 7, none⟩ = some (.int .i64 o.h.proof) := cell_of_cells (j := 7) hop rfl
    have k8 : B.cell? ⟨w.heap.size, 8, none⟩ = some (.int .i64 o.h.count) := cell_of_cells (j := 8) hop rfl
    have k9 : B.cell? ⟨w.heap.size, 9, none⟩ = some (.int .i64 o.h.frm) := cell_of_cells (j := 9) hop rfl
    have k10 : B.cell? ⟨w.heap.size, 10, none⟩ = some (.int .i64 o.h.dst) := cell_of_cells (j := 10) hop rfl
    have k11 : B.cell? ⟨w.heap.size, 11, none⟩ = some (.int .i64 o.h.amount) := cell_of_cells (j := 11) hop rfl
    have k12 : B.cell? ⟨w.heap.size, 12, none⟩ = some (.string o.S) := cell_of_cells (j := 12) hop rfl
    have kk1 : B.cell? ⟨w.heap.size, 1, none⟩ = some (.bool false) := by rw [← hobb]; exact cell_of_cells (j := 1) hop rfl
    have HWB := Go.Proofs.YtpaakikgfojplaaGreat.hid hWB
    have HBB := Go.Proofs.YtpaakikgfojplaaGreat.hid (HBA.out.trans (hbB.mono HBA.out.size))
    clear HWA HAO hbB hBo hop d0 d1 d2 d3 k1 hsB hWB hob
    by_cases e1 : o.kind = 1
    · have b1 : (o.kind == 1) = true := by rw [e1]; rfl
      clear e1
      go_wp2_with fail
      have hgo := goes_any P (x false) (c false) (F false) (G false) (s false) o B (HWB.out.side false) HO.out
      unfold sideV opV at hgo
      rw [show opA o = #[.int .i64 o.kind, .bool false, .int .i64 o.A, .int .i64 o.B, .int .i64 o.C, .int .i64 o.h.slot, .int .i64 o.h.pool, .int .i64 o.h.proof, .int .i64 o.h.count, .int .i64 o.h.frm, .int .i64 o.h.dst, .int .i64 o.h.amount, .string o.S] from by rw [← hobb]; rfl] at hgo
      refine hgo.mono ?_
      rintro r w2 ⟨rfl, hL2⟩
      have HF := Go.Proofs.YtpaakikgfojplaaGreat.hid ((HWB.out.left P false hL2).from HBB.out)
      clear hL2 HWB hgo
      go_wp2
      go_ret
      exact ⟨rfl, HF.out⟩
    · skip
      by_cases e2 : o.kind = 2
      · have b2 : (o.kind == 2) = true := by rw [e2]; rfl
        have b1 : (o.kind == 1) = false := by rw [e2]; rfl
        clear e1 e2
        go_wp2_with fail
        have hgo := goes_any P (x false) (c false) (F false) (G false) (s false) o B (HWB.out.side false) HO.out
        unfold sideV opV at hgo
        rw [show opA o = #[.int .i64 o.kind, .bool false, .int .i64 o.A, .int .i64 o.B, .int .i64 o.C, .int .i64 o.h.slot, .int .i64 o.h.pool, .int .i64 o.h.proof, .int .i64 o.h.count, .int .i64 o.h.frm, .int .i64 o.h.dst, .int .i64 o.h.amount, .string o.S] from by rw [← hobb]; rfl] at hgo
        refine hgo.mono ?_
        rintro r w2 ⟨rfl, hL2⟩
        have HF := Go.Proofs.YtpaakikgfojplaaGreat.hid ((HWB.out.left P false hL2).from HBB.out)
        clear hL2 HWB hgo
        go_wp2
        go_ret
        exact ⟨rfl, HF.out⟩
      · skip
        by_cases e3 : o.kind = 3
        · have b3 : (o.kind == 3) = true := by rw [e3]; rfl
          have b1 : (o.kind == 1) = false := by rw [e3]; rfl
          have b2 : (o.kind == 2) = false := by rw [e3]; rfl
          clear e1 e2 e3
          go_wp2_with fail
          have hgo := goes_any P (x false) (c false) (F false) (G false) (s false) o B (HWB.out.side false) HO.out
          unfold sideV opV at hgo
          rw [show opA o = #[.int .i64 o.kind, .bool false, .int .i64 o.A, .int .i64 o.B, .int .i64 o.C, .int .i64 o.h.slot, .int .i64 o.h.pool, .int .i64 o.h.proof, .int .i64 o.h.count, .int .i64 o.h.frm, .int .i64 o.h.dst, .int .i64 o.h.amount, .string o.S] from by rw [← hobb]; rfl] at hgo
          refine hgo.mono ?_
          rintro r w2 ⟨rfl, hL2⟩
          have HF := Go.Proofs.YtpaakikgfojplaaGreat.hid ((HWB.out.left P false hL2).from HBB.out)
          clear hL2 HWB hgo
          go_wp2
          go_ret
          exact ⟨rfl, HF.out⟩
        · skip
          by_cases e4 : o.kind = 4
          · have b4 : (o.kind == 4) = true := by rw [e4]; rfl
            have b1 : (o.kind == 1) = false := by rw [e4]; rfl
            have b2 : (o.kind == 2) = false := by rw [e4]; rfl
            have b3 : (o.kind == 3) = false := by rw [e4]; rfl
            clear e1 e2 e3 e4
            go_wp2_with fail
            have hgo := goes_any P (x false) (c false) (F false) (G false) (s false) o B (HWB.out.side false) HO.out
            unfold sideV opV at hgo
            rw [show opA o = #[.int .i64 o.kind, .bool false, .int .i64 o.A, .int .i64 o.B, .int .i64 o.C, .int .i64 o.h.slot, .int .i64 o.h.pool, .int .i64 o.h.proof, .int .i64 o.h.count, .int .i64 o.h.frm, .int .i64 o.h.dst, .int .i64 o.h.amount, .string o.S] from by rw [← hobb]; rfl] at hgo
            refine hgo.mono ?_
            rintro r w2 ⟨rfl, hL2⟩
            have HF := Go.Proofs.YtpaakikgfojplaaGreat.hid ((HWB.out.left P false hL2).from HBB.out)
            clear hL2 HWB hgo
            go_wp2
            go_ret
            exact ⟨rfl, HF.out⟩
          · skip
            by_cases e5 : o.kind = 5
            · have b5 : (o.kind == 5) = true := by rw [e5]; rfl
              have b1 : (o.kind == 1) = false := by rw [e5]; rfl
              have b2 : (o.kind == 2) = false := by rw [e5]; rfl
              have b3 : (o.kind == 3) = false := by rw [e5]; rfl
              have b4 : (o.kind == 4) = false := by rw [e5]; rfl
              clear e1 e2 e3 e4 e5
              go_wp2_with fail
              have hgo := told_any P HWB.out false o HO.out hL
              unfold sideV opV at hgo
              rw [show opA o = #[.int .i64 o.kind, .bool false, .int .i64 o.A, .int .i64 o.B, .int .i64 o.C, .int .i64 o.h.slot, .int .i64 o.h.pool, .int .i64 o.h.proof, .int .i64 o.h.count, .int .i64 o.h.frm, .int .i64 o.h.dst, .int .i64 o.h.amount, .string o.S] from by rw [← hobb]; rfl] at hgo
              refine hgo.mono ?_
              rintro r w2 ⟨rfl, hL2⟩
              have HF := Go.Proofs.YtpaakikgfojplaaGreat.hid (hL2.from HBB.out)
              clear hL2 HWB hgo
              go_wp2
              go_ret
              exact ⟨rfl, HF.out⟩
            · skip
              by_cases e6 : o.kind = 6
              · have b6 : (o.kind == 6) = true := by rw [e6]; rfl
                have b1 : (o.kind == 1) = false := by rw [e6]; rfl
                have b2 : (o.kind == 2) = false := by rw [e6]; rfl
                have b3 : (o.kind == 3) = false := by rw [e6]; rfl
                have b4 : (o.kind == 4) = false := by rw [e6]; rfl
                have b5 : (o.kind == 5) = false := by rw [e6]; rfl
                clear e1 e2 e3 e4 e5 e6
                go_wp2_with fail
                have hgo := told_any P HWB.out false o HO.out hL
                unfold sideV opV at hgo
                rw [show opA o = #[.int .i64 o.kind, .bool false, .int .i64 o.A, .int .i64 o.B, .int .i64 o.C, .int .i64 o.h.slot, .int .i64 o.h.pool, .int .i64 o.h.proof, .int .i64 o.h.count, .int .i64 o.h.frm, .int .i64 o.h.dst, .int .i64 o.h.amount, .string o.S] from by rw [← hobb]; rfl] at hgo
                refine hgo.mono ?_
                rintro r w2 ⟨rfl, hL2⟩
                have HF := Go.Proofs.YtpaakikgfojplaaGreat.hid (hL2.from HBB.out)
                clear hL2 HWB hgo
                go_wp2
                go_ret
                exact ⟨rfl, HF.out⟩
              · skip
                by_cases e7 : o.kind = 7
                · have b7 : (o.kind == 7) = true := by rw [e7]; rfl
                  have b1 : (o.kind == 1) = false := by rw [e7]; rfl
                  have b2 : (o.kind == 2) = false := by rw [e7]; rfl
                  have b3 : (o.kind == 3) = false := by rw [e7]; rfl
                  have b4 : (o.kind == 4) = false := by rw [e7]; rfl
                  have b5 : (o.kind == 5) = false := by rw [e7]; rfl
                  have b6 : (o.kind == 6) = false := by rw [e7]; rfl
                  clear e1 e2 e3 e4 e5 e6 e7
                  go_wp2_with fail
                  have hgo := told_any P HWB.out false o HO.out hL
                  unfold sideV opV at hgo
                  rw [show opA o = #[.int .i64 o.kind, .bool false, .int .i64 o.A, .int .i64 o.B, .int .i64 o.C, .int .i64 o.h.slot, .int .i64 o.h.pool, .int .i64 o.h.proof, .int .i64 o.h.count, .int .i64 o.h.frm, .int .i64 o.h.dst, .int .i64 o.h.amount, .string o.S] from by rw [← hobb]; rfl] at hgo
                  refine hgo.mono ?_
                  rintro r w2 ⟨rfl, hL2⟩
                  have HF := Go.Proofs.YtpaakikgfojplaaGreat.hid (hL2.from HBB.out)
                  clear hL2 HWB hgo
                  go_wp2
                  go_ret
                  exact ⟨rfl, HF.out⟩
                · skip
                  by_cases e8 : o.kind = 8
                  · have b8 : (o.kind == 8) = true := by rw [e8]; rfl
                    have b1 : (o.kind == 1) = false := by rw [e8]; rfl
                    have b2 : (o.kind == 2) = false := by rw [e8]; rfl
                    have b3 : (o.kind == 3) = false := by rw [e8]; rfl
                    have b4 : (o.kind == 4) = false := by rw [e8]; rfl
                    have b5 : (o.kind == 5) = false := by rw [e8]; rfl
                    have b6 : (o.kind == 6) = false := by rw [e8]; rfl
                    have b7 : (o.kind == 7) = false := by rw [e8]; rfl
                    clear e1 e2 e3 e4 e5 e6 e7 e8
                    go_wp2_with fail
                    have hgo := told_any P HWB.out false o HO.out hL
                    unfold sideV opV at hgo
                    rw [show opA o = #[.int .i64 o.kind, .bool false, .int .i64 o.A, .int .i64 o.B, .int .i64 o.C, .int .i64 o.h.slot, .int .i64 o.h.pool, .int .i64 o.h.proof, .int .i64 o.h.count, .int .i64 o.h.frm, .int .i64 o.h.dst, .int .i64 o.h.amount, .string o.S] from by rw [← hobb]; rfl] at hgo
                    refine hgo.mono ?_
                    rintro r w2 ⟨rfl, hL2⟩
                    have HF := Go.Proofs.YtpaakikgfojplaaGreat.hid (hL2.from HBB.out)
                    clear hL2 HWB hgo
                    go_wp2
                    go_ret
                    exact ⟨rfl, HF.out⟩
                  · skip
                    by_cases e9 : o.kind = 9
                    · have b9 : (o.kind == 9) = true := by rw [e9]; rfl
                      have b1 : (o.kind == 1) = false := by rw [e9]; rfl
                      have b2 : (o.kind == 2) = false := by rw [e9]; rfl
                      have b3 : (o.kind == 3) = false := by rw [e9]; rfl
                      have b4 : (o.kind == 4) = false := by rw [e9]; rfl
                      have b5 : (o.kind == 5) = false := by rw [e9]; rfl
                      have b6 : (o.kind == 6) = false := by rw [e9]; rfl
                      have b7 : (o.kind == 7) = false := by rw [e9]; rfl
                      have b8 : (o.kind == 8) = false := by rw [e9]; rfl
                      clear e1 e2 e3 e4 e5 e6 e7 e8 e9
                      go_wp2_with fail
                      have hgo := told_any P HWB.out false o HO.out hL
                      unfold sideV opV at hgo
                      rw [show opA o = #[.int .i64 o.kind, .bool false, .int .i64 o.A, .int .i64 o.B, .int .i64 o.C, .int .i64 o.h.slot, .int .i64 o.h.pool, .int .i64 o.h.proof, .int .i64 o.h.count, .int .i64 o.h.frm, .int .i64 o.h.dst, .int .i64 o.h.amount, .string o.S] from by rw [← hobb]; rfl] at hgo
                      refine hgo.mono ?_
                      rintro r w2 ⟨rfl, hL2⟩
                      have HF := Go.Proofs.YtpaakikgfojplaaGreat.hid (hL2.from HBB.out)
                      clear hL2 HWB hgo
                      go_wp2
                      go_ret
                      exact ⟨rfl, HF.out⟩
                    · skip
                      have b1 : (o.kind == 1) = false := by rw [beq_eq_false_iff_ne]; assumption
                      have b2 : (o.kind == 2) = false := by rw [beq_eq_false_iff_ne]; assumption
                      have b3 : (o.kind == 3) = false := by rw [beq_eq_false_iff_ne]; assumption
                      have b4 : (o.kind == 4) = false := by rw [beq_eq_false_iff_ne]; assumption
                      have b5 : (o.kind == 5) = false := by rw [beq_eq_false_iff_ne]; assumption
                      have b6 : (o.kind == 6) = false := by rw [beq_eq_false_iff_ne]; assumption
                      have b7 : (o.kind == 7) = false := by rw [beq_eq_false_iff_ne]; assumption
                      have b8 : (o.kind == 8) = false := by rw [beq_eq_false_iff_ne]; assumption
                      have b9 : (o.kind == 9) = false := by rw [beq_eq_false_iff_ne]; assumption
                      have b10 : (o.kind == 10) = false := by rw [beq_eq_false_iff_ne]; omega
                      have b11 : (o.kind == 11) = false := by rw [beq_eq_false_iff_ne]; omega
                      have b12 : (o.kind == 12) = false := by rw [beq_eq_false_iff_ne]; omega
                      have HF : Hid (Stays Rep w B wd x c F G lv mv L.length) := HWB.out.same.from HBB.out
                      clear HWB e1 e2 e3 e4 e5 e6 e7 e8 e9
                      go_wp2
                      go_ret
                      exact ⟨rfl, HF.out⟩
  · have hobb : o.other = true := hob
    rw [hobb] at k1
    go_upto_region 5 with fail
    generalize hB : A.alloc (.cells #[.pointer (some ⟨x true, 0, none⟩), .pointer (some ⟨c true, 0, none⟩)] 31) = B at *
    obtain ⟨hsB, hbB, hBo⟩ := below_zero hB
    clear hB
    have hWB := HWA.out.keep P hbB
    have hop : B.heap[w.heap.size]? = some (.cells (opA o) 42 (0, 0)) := (hbB.block _ hlA).trans HAO.out
    have s0 := cell_of_cells (j := 0) hBo rfl
    have s1 := cell_of_cells (j := 1) hBo rfl
    have k0 : B.cell? ⟨w.heap.size, 0, none⟩ = some (.int .i64 o.kind) := cell_of_cells (j := 0) hop rfl
    have k2 : B.cell? ⟨w.heap.size, 2, none⟩ = some (.int .i64 o.A) := cell_of_cells (j := 2) hop rfl
    have k3 : B.cell? ⟨w.heap.size, 3, none⟩ = some (.int .i64 o.B) := cell_of_cells (j := 3) hop rfl
    have k4 : B.cell? ⟨w.heap.size, 4, none⟩ = some (.int .i64 o.C) := cell_of_cells (j := 4) hop rfl
    have k5 : B.cell? ⟨w.heap.size, 5, none⟩ = some (.int .i64 o.h.slot) := cell_of_cells (j := 5) hop rfl
    have k6 : B.cell? ⟨w.heap.size, 6, none⟩ = some (.int .i64 o.h.pool) := cell_of_cells (j := 6) hop rfl
    have k7 : B.cell? ⟨w.heap.size, 7, none⟩ = some (.int .i64 o.h.proof) := cell_of_cells (j := 7) hop rfl
    have k8 : B.cell? ⟨w.heap.size, 8, none⟩ = some (.int .i64 o.h.count) := cell_of_cells (j := 8) hop rfl
    have k9 : B.cell? ⟨w.heap.size, 9, none⟩ = some (.int .i64 o.h.frm) := cell_of_cells (j := 9) hop rfl
    have k10 : B.cell? ⟨w.heap.size, 10, none⟩ = some (.int .i64 o.h.dst) := cell_of_cells (j := 10) hop rfl
    have k11 : B.cell? ⟨w.heap.size, 11, none⟩ = some (.int .i64 o.h.amount) := cell_of_cells (j := 11) hop rfl
    have k12 : B.cell? ⟨w.heap.size, 12, none⟩ = some (.string o.S) := cell_of_cells (j := 12) hop rfl
    have kk1 : B.cell? ⟨w.heap.size, 1, none⟩ = some (.bool true) := by rw [← hobb]; exact cell_of_cells (j := 1) hop rfl
    have HWB := Go.Proofs.YtpaakikgfojplaaGreat.hid hWB
    have HBB := Go.Proofs.YtpaakikgfojplaaGreat.hid (HBA.out.trans (hbB.mono HBA.out.size))
    clear HWA HAO hbB hBo hop d0 d1 d2 d3 k1 hsB hWB hob
    by_cases e1 : o.kind = 1
    · have b1 : (o.kind == 1) = true := by rw [e1]; rfl
      clear e1
      go_wp2_with fail
      have hgo := goes_any P (x true) (c true) (F true) (G true) (s true) o B (HWB.out.side true) HO.out
      unfold sideV opV at hgo
      rw [show opA o = #[.int .i64 o.kind, .bool true, .int .i64 o.A, .int .i64 o.B, .int .i64 o.C, .int .i64 o.h.slot, .int .i64 o.h.pool, .int .i64 o.h.proof, .int .i64 o.h.count, .int .i64 o.h.frm, .int .i64 o.h.dst, .int .i64 o.h.amount, .string o.S] from by rw [← hobb]; rfl] at hgo
      refine hgo.mono ?_
      rintro r w2 ⟨rfl, hL2⟩
      have HF := Go.Proofs.YtpaakikgfojplaaGreat.hid ((HWB.out.left P true hL2).from HBB.out)
      clear hL2 HWB hgo
      go_wp2
      go_ret
      exact ⟨rfl, HF.out⟩
    · skip
      by_cases e2 : o.kind = 2
      · have b2 : (o.kind == 2) = true := by rw [e2]; rfl
        have b1 : (o.kind == 1) = false := by rw [e2]; rfl
        clear e1 e2
        go_wp2_with fail
        have hgo := goes_any P (x true) (c true) (F true) (G true) (s true) o B (HWB.out.side true) HO.out
        unfold sideV opV at hgo
        rw [show opA o = #[.int .i64 o.kind, .bool true, .int .i64 o.A, .int .i64 o.B, .int .i64 o.C, .int .i64 o.h.slot, .int .i64 o.h.pool, .int .i64 o.h.proof, .int .i64 o.h.count, .int .i64 o.h.frm, .int .i64 o.h.dst, .int .i64 o.h.amount, .string o.S] from by rw [← hobb]; rfl] at hgo
        refine hgo.mono ?_
        rintro r w2 ⟨rfl, hL2⟩
        have HF := Go.Proofs.YtpaakikgfojplaaGreat.hid ((HWB.out.left P true hL2).from HBB.out)
        clear hL2 HWB hgo
        go_wp2
        go_ret
        exact ⟨rfl, HF.out⟩
      · skip
        by_cases e3 : o.kind = 3
        · have b3 : (o.kind == 3) = true := by rw [e3]; rfl
          have b1 : (o.kind == 1) = false := by rw [e3]; rfl
          have b2 : (o.kind == 2) = false := by rw [e3]; rfl
          clear e1 e2 e3
          go_wp2_with fail
          have hgo := goes_any P (x true) (c true) (F true) (G true) (s true) o B (HWB.out.side true) HO.out
          unfold sideV opV at hgo
          rw [show opA o = #[.int .i64 o.kind, .bool true, .int .i64 o.A, .int .i64 o.B, .int .i64 o.C, .int .i64 o.h.slot, .int .i64 o.h.pool, .int .i64 o.h.proof, .int .i64 o.h.count, .int .i64 o.h.frm, .int .i64 o.h.dst, .int .i64 o.h.amount, .string o.S] from by rw [← hobb]; rfl] at hgo
          refine hgo.mono ?_
          rintro r w2 ⟨rfl, hL2⟩
          have HF := Go.Proofs.YtpaakikgfojplaaGreat.hid ((HWB.out.left P true hL2).from HBB.out)
          clear hL2 HWB hgo
          go_wp2
          go_ret
          exact ⟨rfl, HF.out⟩
        · skip
          by_cases e4 : o.kind = 4
          · have b4 : (o.kind == 4) = true := by rw [e4]; rfl
            have b1 : (o.kind == 1) = false := by rw [e4]; rfl
            have b2 : (o.kind == 2) = false := by rw [e4]; rfl
            have b3 : (o.kind == 3) = false := by rw [e4]; rfl
            clear e1 e2 e3 e4
            go_wp2_with fail
            have hgo := goes_any P (x true) (c true) (F true) (G true) (s true) o B (HWB.out.side true) HO.out
            unfold sideV opV at hgo
            rw [show opA o = #[.int .i64 o.kind, .bool true, .int .i64 o.A, .int .i64 o.B, .int .i64 o.C, .int .i64 o.h.slot, .int .i64 o.h.pool, .int .i64 o.h.proof, .int .i64 o.h.count, .int .i64 o.h.frm, .int .i64 o.h.dst, .int .i64 o.h.amount, .string o.S] from by rw [← hobb]; rfl] at hgo
            refine hgo.mono ?_
            rintro r w2 ⟨rfl, hL2⟩
            have HF := Go.Proofs.YtpaakikgfojplaaGreat.hid ((HWB.out.left P true hL2).from HBB.out)
            clear hL2 HWB hgo
            go_wp2
            go_ret
            exact ⟨rfl, HF.out⟩
          · skip
            by_cases e5 : o.kind = 5
            · have b5 : (o.kind == 5) = true := by rw [e5]; rfl
              have b1 : (o.kind == 1) = false := by rw [e5]; rfl
              have b2 : (o.kind == 2) = false := by rw [e5]; rfl
              have b3 : (o.kind == 3) = false := by rw [e5]; rfl
              have b4 : (o.kind == 4) = false := by rw [e5]; rfl
              clear e1 e2 e3 e4 e5
              go_wp2_with fail
              have hgo := told_any P HWB.out true o HO.out hL
              unfold sideV opV at hgo
              rw [show opA o = #[.int .i64 o.kind, .bool true, .int .i64 o.A, .int .i64 o.B, .int .i64 o.C, .int .i64 o.h.slot, .int .i64 o.h.pool, .int .i64 o.h.proof, .int .i64 o.h.count, .int .i64 o.h.frm, .int .i64 o.h.dst, .int .i64 o.h.amount, .string o.S] from by rw [← hobb]; rfl] at hgo
              refine hgo.mono ?_
              rintro r w2 ⟨rfl, hL2⟩
              have HF := Go.Proofs.YtpaakikgfojplaaGreat.hid (hL2.from HBB.out)
              clear hL2 HWB hgo
              go_wp2
              go_ret
              exact ⟨rfl, HF.out⟩
            · skip
              by_cases e6 : o.kind = 6
              · have b6 : (o.kind == 6) = true := by rw [e6]; rfl
                have b1 : (o.kind == 1) = false := by rw [e6]; rfl
                have b2 : (o.kind == 2) = false := by rw [e6]; rfl
                have b3 : (o.kind == 3) = false := by rw [e6]; rfl
                have b4 : (o.kind == 4) = false := by rw [e6]; rfl
                have b5 : (o.kind == 5) = false := by rw [e6]; rfl
                clear e1 e2 e3 e4 e5 e6
                go_wp2_with fail
                have hgo := told_any P HWB.out true o HO.out hL
                unfold sideV opV at hgo
                rw [show opA o = #[.int .i64 o.kind, .bool true, .int .i64 o.A, .int .i64 o.B, .int .i64 o.C, .int .i64 o.h.slot, .int .i64 o.h.pool, .int .i64 o.h.proof, .int .i64 o.h.count, .int .i64 o.h.frm, .int .i64 o.h.dst, .int .i64 o.h.amount, .string o.S] from by rw [← hobb]; rfl] at hgo
                refine hgo.mono ?_
                rintro r w2 ⟨rfl, hL2⟩
                have HF := Go.Proofs.YtpaakikgfojplaaGreat.hid (hL2.from HBB.out)
                clear hL2 HWB hgo
                go_wp2
                go_ret
                exact ⟨rfl, HF.out⟩
              · skip
                by_cases e7 : o.kind = 7
                · have b7 : (o.kind == 7) = true := by rw [e7]; rfl
                  have b1 : (o.kind == 1) = false := by rw [e7]; rfl
                  have b2 : (o.kind == 2) = false := by rw [e7]; rfl
                  have b3 : (o.kind == 3) = false := by rw [e7]; rfl
                  have b4 : (o.kind == 4) = false := by rw [e7]; rfl
                  have b5 : (o.kind == 5) = false := by rw [e7]; rfl
                  have b6 : (o.kind == 6) = false := by rw [e7]; rfl
                  clear e1 e2 e3 e4 e5 e6 e7
                  go_wp2_with fail
                  have hgo := told_any P HWB.out true o HO.out hL
                  unfold sideV opV at hgo
                  rw [show opA o = #[.int .i64 o.kind, .bool true, .int .i64 o.A, .int .i64 o.B, .int .i64 o.C, .int .i64 o.h.slot, .int .i64 o.h.pool, .int .i64 o.h.proof, .int .i64 o.h.count, .int .i64 o.h.frm, .int .i64 o.h.dst, .int .i64 o.h.amount, .string o.S] from by rw [← hobb]; rfl] at hgo
                  refine hgo.mono ?_
                  rintro r w2 ⟨rfl, hL2⟩
                  have HF := Go.Proofs.YtpaakikgfojplaaGreat.hid (hL2.from HBB.out)
                  clear hL2 HWB hgo
                  go_wp2
                  go_ret
                  exact ⟨rfl, HF.out⟩
                · skip
                  by_cases e8 : o.kind = 8
                  · have b8 : (o.kind == 8) = true := by rw [e8]; rfl
                    have b1 : (o.kind == 1) = false := by rw [e8]; rfl
                    have b2 : (o.kind == 2) = false := by rw [e8]; rfl
                    have b3 : (o.kind == 3) = false := by rw [e8]; rfl
                    have b4 : (o.kind == 4) = false := by rw [e8]; rfl
                    have b5 : (o.kind == 5) = false := by rw [e8]; rfl
                    have b6 : (o.kind == 6) = false := by rw [e8]; rfl
                    have b7 : (o.kind == 7) = false := by rw [e8]; rfl
                    clear e1 e2 e3 e4 e5 e6 e7 e8
                    go_wp2_with fail
                    have hgo := told_any P HWB.out true o HO.out hL
                    unfold sideV opV at hgo
                    rw [show opA o = #[.int .i64 o.kind, .bool true, .int .i64 o.A, .int .i64 o.B, .int .i64 o.C, .int .i64 o.h.slot, .int .i64 o.h.pool, .int .i64 o.h.proof, .int .i64 o.h.count, .int .i64 o.h.frm, .int .i64 o.h.dst, .int .i64 o.h.amount, .string o.S] from by rw [← hobb]; rfl] at hgo
                    refine hgo.mono ?_
                    rintro r w2 ⟨rfl, hL2⟩
                    have HF := Go.Proofs.YtpaakikgfojplaaGreat.hid (hL2.from HBB.out)
                    clear hL2 HWB hgo
                    go_wp2
                    go_ret
                    exact ⟨rfl, HF.out⟩
                  · skip
                    by_cases e9 : o.kind = 9
                    · have b9 : (o.kind == 9) = true := by rw [e9]; rfl
                      have b1 : (o.kind == 1) = false := by rw [e9]; rfl
                      have b2 : (o.kind == 2) = false := by rw [e9]; rfl
                      have b3 : (o.kind == 3) = false := by rw [e9]; rfl
                      have b4 : (o.kind == 4) = false := by rw [e9]; rfl
                      have b5 : (o.kind == 5) = false := by rw [e9]; rfl
                      have b6 : (o.kind == 6) = false := by rw [e9]; rfl
                      have b7 : (o.kind == 7) = false := by rw [e9]; rfl
                      have b8 : (o.kind == 8) = false := by rw [e9]; rfl
                      clear e1 e2 e3 e4 e5 e6 e7 e8 e9
                      go_wp2_with fail
                      have hgo := told_any P HWB.out true o HO.out hL
                      unfold sideV opV at hgo
                      rw [show opA o = #[.int .i64 o.kind, .bool true, .int .i64 o.A, .int .i64 o.B, .int .i64 o.C, .int .i64 o.h.slot, .int .i64 o.h.pool, .int .i64 o.h.proof, .int .i64 o.h.count, .int .i64 o.h.frm, .int .i64 o.h.dst, .int .i64 o.h.amount, .string o.S] from by rw [← hobb]; rfl] at hgo
                      refine hgo.mono ?_
                      rintro r w2 ⟨rfl, hL2⟩
                      have HF := Go.Proofs.YtpaakikgfojplaaGreat.hid (hL2.from HBB.out)
                      clear hL2 HWB hgo
                      go_wp2
                      go_ret
                      exact ⟨rfl, HF.out⟩
                    · skip
                      have b1 : (o.kind == 1) = false := by rw [beq_eq_false_iff_ne]; assumption
                      have b2 : (o.kind == 2) = false := by rw [beq_eq_false_iff_ne]; assumption
                      have b3 : (o.kind == 3) = false := by rw [beq_eq_false_iff_ne]; assumption
                      have b4 : (o.kind == 4) = false := by rw [beq_eq_false_iff_ne]; assumption
                      have b5 : (o.kind == 5) = false := by rw [beq_eq_false_iff_ne]; assumption
                      have b6 : (o.kind == 6) = false := by rw [beq_eq_false_iff_ne]; assumption
                      have b7 : (o.kind == 7) = false := by rw [beq_eq_false_iff_ne]; assumption
                      have b8 : (o.kind == 8) = false := by rw [beq_eq_false_iff_ne]; assumption
                      have b9 : (o.kind == 9) = false := by rw [beq_eq_false_iff_ne]; assumption
                      have b10 : (o.kind == 10) = false := by rw [beq_eq_false_iff_ne]; omega
                      have b11 : (o.kind == 11) = false := by rw [beq_eq_false_iff_ne]; omega
                      have b12 : (o.kind == 12) = false := by rw [beq_eq_false_iff_ne]; omega
                      have HF : Hid (Stays Rep w B wd x c F G lv mv L.length) := HWB.out.same.from HBB.out
                      clear HWB e1 e2 e3 e4 e5 e6 e7 e8 e9
                      go_wp2
                      go_ret
                      exact ⟨rfl, HF.out⟩

end Go.Proofs.YtpaakikgfojplaaGreat

