import Derived.Test.YtpaakikgfojplaaGreatCM13
import Derived.Test.YtpaakikgfojplaaGreatCRefPe
import Derived.Test.YtpaakikgfojplaaGreatCLawStep9
/-
  THE WALK of the statements' peers.
-/
namespace Go.Proofs.YtpaakikgfojplaaGreat
open Go.RowKit Num Bk Tx
set_option linter.unusedVariables false

theorem txt_is (s : ByteArray) : txt s.toList = s := by
  unfold txt
  rw [ByteArray.toList_eq]
/-- What a peer's step leaves of a chain. -/
def opSp (s : St) (o : OpS) : St := if o.kind = 10 then nextS s o.A o.S.toList else if o.kind = 11 then backS s o.A o.B else s

set_option maxHeartbeats 12800000 in
set_option maxRecDepth 1000000 in
theorem peers_any {Rep : World → Nat → (Nat → Prop) → St → Prop} (P : PSpec Rep) (Q : PPeer Rep) (x c : Nat) (F G : Nat → Prop) (s : St) (o : OpS) (w : World) (hS : Side Rep w x c F G s) (ho : OpI o) :
    Calls Tryz.prog 14 #[sideV x c, opV o] w fun e w' => e = .returned (.bool true) ∧ SLeft Rep w w' x c F G (opSp s o) := by
  unfold sideV opV
  rw [show opA o = #[.int .i64 o.kind, .bool o.other, .int .i64 o.A, .int .i64 o.B, .int .i64 o.C, .int .i64 o.h.slot, .int .i64 o.h.pool, .int .i64 o.h.proof, .int .i64 o.h.count, .int .i64 o.h.frm, .int .i64 o.h.dst, .int .i64 o.h.amount, .string o.S] from rfl]
  have hFl := P.lt hS.p
  have hGl := hS.r.lt
  have hv := hS.inv
  have HO := Go.Proofs.YtpaakikgfojplaaGreat.hid ho
  have HTX := Go.Proofs.YtpaakikgfojplaaGreat.hid (txt_is o.S)
  have HSZ : Hid (o.S.toList.length ≤ maxLen) := by
    unfold Hid
    rw [ByteArray.toList_eq]
    exact ho.s
  go_enter Tryz.func14, Tryz.ntmps14
  go_upto_region 1 with fail
  generalize hA : (w.alloc (.cells #[.pointer (some ⟨x, 0, none⟩), .pointer (some ⟨c, 0, none⟩)] 31)).alloc (.cells #[.int .i64 o.kind, .bool o.other, .int .i64 o.A, .int .i64 o.B, .int .i64 o.C, .int .i64 o.h.slot, .int .i64 o.h.pool, .int .i64 o.h.proof, .int .i64 o.h.count, .int .i64 o.h.frm, .int .i64 o.h.dst, .int .i64 o.h.amount, .string o.S] 42) = A at *
  obtain ⟨hsA, hbA, hA1, hA2⟩ := below_two hA
  have hX : Boxes w A x c o := ⟨hA1, hA2⟩
  have hSA := hS.keep P hbA
  have HSA := Go.Proofs.YtpaakikgfojplaaGreat.hid hSA
  have HBA := Go.Proofs.YtpaakikgfojplaaGreat.hid hbA
  clear hA hA1 hA2 hsA hS hbA hSA ho
  have p0 := cell_of_cells (j := 0) hX.side rfl
  have k0 : A.cell? ⟨w.heap.size + 1, 0, none⟩ = some (.int .i64 o.kind) := cell_of_cells (j := 0) hX.op rfl
  have k2 : A.cell? ⟨w.heap.size + 1, 2, none⟩ = some (.int .i64 o.A) := cell_of_cells (j := 2) hX.op rfl
  have k3 : A.cell? ⟨w.heap.size + 1, 3, none⟩ = some (.int .i64 o.B) := cell_of_cells (j := 3) hX.op rfl
  have k12 : A.cell? ⟨w.heap.size + 1, 12, none⟩ = some (.string o.S) := cell_of_cells (j := 12) hX.op rfl
  by_cases e1 : o.kind = 10
  · have b1 : (o.kind == 10) = true := by simp [e1]
    have HST := Go.Proofs.YtpaakikgfojplaaGreat.hid (show opSp s o = nextS s o.A o.S.toList by unfold opSp; rw [if_pos e1])
    clear e1
    have hc1 := Q.next A x F s o.A o.S.toList HSA.out.p hv HO.out.a HSZ.out
    unfold strV at hc1
    have HC1 := Go.Proofs.YtpaakikgfojplaaGreat.hid hc1
    have e2 : (ByteArray.mk o.S.toList.toArray) = o.S := HTX.out
    rw [e2] at HC1
    clear hc1 e2
    go_wp2_with fail
    refine HC1.out.mono ?_
    rintro e w1 ⟨rfl, F1, r1, f1, n1⟩
    have hX1 := hX.fr f1 hFl
    have hR1 := HSA.out.mid f1
    have HI := Go.Proofs.YtpaakikgfojplaaGreat.hid (inv_next hv o.A o.S.toList)
    clear p0 k0 k2 k3 k12 hX HC1
    have hX := hX1
    have p1 := cell_of_cells (j := 1) hX.side rfl
    have k2 : w1.cell? ⟨w.heap.size + 1, 2, none⟩ = some (.int .i64 o.A) := cell_of_cells (j := 2) hX.op rfl
    have k12 : w1.cell? ⟨w.heap.size + 1, 12, none⟩ = some (.string o.S) := cell_of_cells (j := 12) hX.op rfl
    have hc2 := rnext w1 c G s o.A o.S.toList hR1 hv HSZ.out
    rw [HTX.out] at hc2
    have HC2 := Go.Proofs.YtpaakikgfojplaaGreat.hid hc2
    clear hc2
    go_wp2_with fail
    refine HC2.out.mono ?_
    rintro e w2 ⟨rfl, G2, r2, f2, n2⟩
    have HF := Go.Proofs.YtpaakikgfojplaaGreat.hid ((HSA.out.both P HI.out r1 f1 n1 r2 f2 n2).from HBA.out)
    generalize nextI s o.A o.S.toList = oi at *
    generalize nextE s o.A o.S.toList = oe at *
    clear r1 f1 n1 r2 f2 n2 hR1 HSA HC2
    go_wp2
    go_ret
    exact ⟨by simp, by rw [HST.out]; exact HF.out⟩
  · have b1 : (o.kind == 10) = false := by simp [e1]
    by_cases e2 : o.kind = 11
    · have b2 : (o.kind == 11) = true := by simp [e2]
      have HST := Go.Proofs.YtpaakikgfojplaaGreat.hid (show opSp s o = backS s o.A o.B by unfold opSp; rw [if_neg e1, if_pos e2])
      clear e1 e2
      go_wp2_with fail
      refine (Q.back A x F s o.A o.B HSA.out.p hv HO.out.a HO.out.b).mono ?_
      rintro e w1 ⟨rfl, F1, r1, f1, n1⟩
      have hX1 := hX.fr f1 hFl
      have hR1 := HSA.out.mid f1
      have HI := Go.Proofs.YtpaakikgfojplaaGreat.hid (inv_back hv o.A o.B)
      clear p0 k0 k2 k3 k12 hX
      have hX := hX1
      have p1 := cell_of_cells (j := 1) hX.side rfl
      have k2 : w1.cell? ⟨w.heap.size + 1, 2, none⟩ = some (.int .i64 o.A) := cell_of_cells (j := 2) hX.op rfl
      have k3 : w1.cell? ⟨w.heap.size + 1, 3, none⟩ = some (.int .i64 o.B) := cell_of_cells (j := 3) hX.op rfl
      go_wp2_with fail
      refine (rback w1 c G s o.A o.B hR1 hv).mono ?_
      rintro e w2 ⟨rfl, G2, r2, f2, n2⟩
      have HF := Go.Proofs.YtpaakikgfojplaaGreat.hid ((HSA.out.both P HI.out r1 f1 n1 r2 f2 n2).from HBA.out)
      generalize backE s o.A o.B = oe at *
      clear r1 f1 n1 r2 f2 n2 hR1 HSA
      go_wp2
      go_ret
      exact ⟨by simp, by rw [HST.out]; exact HF.out⟩
    · have b2 : (o.kind == 11) = false := by simp [e2]
      have HST := Go.Proofs.YtpaakikgfojplaaGreat.hid (show opSp s o = s by unfold opSp; rw [if_neg e1, if_neg e2])
      clear e1 e2
      go_wp2_with fail
      refine (Q.point A x F s o.A HSA.out.p hv HO.out.a).mono ?_
      rintro e w1 ⟨rfl, hb1⟩
      have r1 := P.keep HSA.out.p hb1
      have f1 : Fr F A w1 := Fr.of_below hb1 _ (fun k h1 h2 => by omega)
      have n1 : ∀ k, F k → F k ∨ A.heap.size ≤ k := fun k h => Or.inl h
      have hX1 := hX.keep hb1
      have hR1 := HSA.out.mid f1
      clear p0 k0 k2 k3 k12 hX hb1
      have hX := hX1
      have p1 := cell_of_cells (j := 1) hX.side rfl
      have k2 : w1.cell? ⟨w.heap.size + 1, 2, none⟩ = some (.int .i64 o.A) := cell_of_cells (j := 2) hX.op rfl
      go_wp2_with fail
      refine (rpoint w1 c G s o.A hR1 hv).mono ?_
      rintro e w2 ⟨rfl, G2, r2, f2, n2⟩
      have HF := Go.Proofs.YtpaakikgfojplaaGreat.hid ((HSA.out.both P hv r1 f1 n1 r2 f2 n2).from HBA.out)
      generalize pointV s o.A = oi at *
      generalize pointE o.A = oe at *
      clear r1 f1 n1 r2 f2 n2 hR1 HSA
      go_wp2
      go_ret
      exact ⟨by simp, by rw [HST.out]; exact HF.out⟩

end Go.Proofs.YtpaakikgfojplaaGreat

/-
  THE WALK of the statements' step, up to the twelfth kind.
-/
namespace Go.Proofs.YtpaakikgfojplaaGreat
open Go.RowKit Num Bk Tx
set_option linter.unusedVariables false

set_option maxHeartbeats 12800000 in
set_option maxRecDepth 1000000 in
theorem step12_any {Rep : World → Nat → (Nat → Prop) → St → Prop} (P : PSpec Rep) (Q : PPeer Rep) {w : World} {wd : Nat} {x c : Bool → Nat} {F G : Bool → Nat → Prop} {s : Bool → St} {lv mv : Value} {L M : List Ent} (h : WAt Rep w wd x c F G s lv mv L M) (o : OpS) (ho : OpI o) (hk : o.kind ≤ 12) (hL : L.length ≤ 1499999999999) :
    Calls Tryz.prog 8 #[.pointer (some ⟨wd, 0, none⟩), opV o] w fun r w' => r = .returned (.bool true) ∧ Stays Rep w w' wd x c F G lv mv L.length := by
  by_cases h9 : o.kind ≤ 9
  · exact step9_any P h o ho h9 hL
  unfold opV
  rw [show opA o = #[.int .i64 o.kind, .bool o.other, .int .i64 o.A, .int .i64 o.B, .int .i64 o.C, .int .i64 o.h.slot, .int .i64 o.h.pool, .int .i64 o.h.proof, .int .i64 o.h.count, .int .i64 o.h.frm, .int .i64 o.h.dst, .int .i64 o.h.amount, .string o.S] from rfl]
  go_enter Tryz.func8, Tryz.ntmps8
  go_upto_region 1 with fail
  generalize hA : w.alloc (.cells #[.int .i64 o.kind, .bool o.other, .int .i64 o.A, .int .i64 o.B, .int .i64 o.C, .int .i64 o.h.slot, .int .i64 o.h.pool, .int .i64 o.h.proof, .int .i64 o.h.count, .int .i64 o.h.frm, .int .i64 o.h.dst, .int .i64 o.h.amount, .string o.S] 42) = A at *
  obtain ⟨hsA, hbA, hAo⟩ := below_zero hA
  clear hA
  have hWA := h.keep P hbA
  have HWA := Go.Proofs.YtpaakikgfojplaaGreat.hid hWA
  have HO := Go.Proofs.YtpaakikgfojplaaGreat.hid ho
  have hlA : w.heap.size < A.heap.size := by omega
  have HBA := Go.Proofs.YtpaakikgfojplaaGreat.hid hbA
  have k1 : A.cell? ⟨w.heap.size, 1, none⟩ = some (.bool o.other) := cell_of_cells (j := 1) hAo rfl
  have d0 := cell_of_cells (j := 0) hWA.blk rfl
  have d1 := cell_of_cells (j := 1) hWA.blk rfl
  have d2 := cell_of_cells (j := 2) hWA.blk rfl
  have d3 := cell_of_cells (j := 3) hWA.blk rfl
  have HAO : Hid (A.heap[w.heap.size]? = some (.cells (opA o) 42 (0, 0))) := hAo
  clear h hWA hAo hsA ho hbA
  cases hob : o.other
  · have hobb : o.other = false := hob
    rw [hobb] at k1
    go_upto_region 5 with fail
    generalize hB : A.alloc (.cells #[.pointer (some ⟨x false, 0, none⟩), .pointer (some ⟨c false, 0, none⟩)] 31) = B at *
    obtain ⟨hsB, hbB, hBo⟩ := below_zero hB
    clear hB
    have hWB := HWA.out.keep P hbB
    have hop : B.heap[w.heap.size]? = some (.cells (opA o) 42 (0, 0)) := (hbB.block _ hlA).trans HAO.out
    have s0 := cell_of_cells (j := 0) hBo rfl
    have s1 := cell_of_cells (j := 1) hBo rfl
    have k0 : B.cell? ⟨w.heap.size, 0, none⟩ = some (.int .i64 o.kind) := cell_of_cells (j := 0) hop rfl
    have k2 : B.cell? ⟨w.heap.size, 2, none⟩ = some (.int .i64 o.A) := cell_of_cells (j := 2) hop rfl
    have k3 : B.cell? ⟨w.heap.size, 3, none⟩ = some (.int .i64 o.B) := cell_of_cells (j := 3) hop rfl
    have k4 : B.cell? ⟨w.heap.size, 4, none⟩ = some (.int .i64 o.C) := cell_of_cells (j := 4) hop rfl
    have k5 : B.cell? ⟨w.heap.size, 5, none⟩ = some (.int .i64 o.h.slot) := cell_of_cells (j := 5) hop rfl
    have k6 : B.cell? ⟨w.heap.size, 6, none⟩ = some (.int .i64 o.h.pool) := cell_of_cells (j := 6) hop rfl
    have k7 : B.cell? ⟨w.heap.size, 7, none⟩ = some (.int .i64 o.h.proof) := cell_of_cells (j := 7) hop rfl
    have k8 : B.cell? ⟨w.heap.size, 8, none⟩ = some (.int .i64 o.h.count) := cell_of_cells (j := 8) hop rfl
    have k9 : B.cell? ⟨w.heap.size, 9, none⟩ = some (.int .i64 o.h.frm) := cell_of_cells (j := 9) hop rfl
    have k10 : B.cell? ⟨w.heap.size, 10, none⟩ = some (.int .i64 o.h.dst) := cell_of_cells (j := 10) hop rfl
    have k11 : B.cell? ⟨w.heap.size, 11, none⟩ = some (.int .i64 o.h.amount) := cell_of_cells (j := 11) hop rfl
    have k12 : B.cell? ⟨w.heap.size, 12, none⟩ = some (.string o.S) := cell_of_cells (j := 12) hop rfl
    have kk1 : B.cell? ⟨w.heap.size, 1, none⟩ = some (.bool false) := by rw [← hobb]; exact cell_of_cells (j := 1) hop rfl
    have HWB := Go.Proofs.YtpaakikgfojplaaGreat.hid hWB
    have HBB := Go.Proofs.YtpaakikgfojplaaGreat.hid (HBA.out.trans (hbB.mono HBA.out.size))
    clear HWA HAO hbB hBo hop d0 d1 d2 d3 k1 hsB hWB hob
    by_cases e10 : o.kind = 10
    · have b1 : (o.kind == 1) = false := by rw [e10]; rfl
      have b2 : (o.kind == 2) = false := by rw [e10]; rfl
      have b3 : (o.kind == 3) = false := by rw [e10]; rfl
      have b4 : (o.kind == 4) = false := by rw [e10]; rfl
      have b5 : (o.kind == 5) = false := by rw [e10]; rfl
      have b6 : (o.kind == 6) = false := by rw [e10]; rfl
      have b7 : (o.kind == 7) = false := by rw [e10]; rfl
      have b8 : (o.kind == 8) = false := by rw [e10]; rfl
      have b9 : (o.kind == 9) = false := by rw [e10]; rfl
      have b10 : (o.kind == 10) = true := by rw [e10]; rfl
      have b11 : (o.kind == 11) = false := by rw [e10]; rfl
      have b12 : (o.kind == 12) = false := by rw [e10]; rfl
      clear e10 h9 hk
      go_wp2_with fail
      have hgo := peers_any P Q (x false) (c false) (F false) (G false) (s false) o B (HWB.out.side false) HO.out
      unfold sideV opV at hgo
      rw [show opA o = #[.int .i64 o.kind, .bool false, .int .i64 o.A, .int .i64 o.B, .int .i64 o.C, .int .i64 o.h.slot, .int .i64 o.h.pool, .int .i64 o.h.proof, .int .i64 o.h.count, .int .i64 o.h.frm, .int .i64 o.h.dst, .int .i64 o.h.amount, .string o.S] from by rw [← hobb]; rfl] at hgo
      refine hgo.mono ?_
      rintro r w2 ⟨rfl, hL2⟩
      have HF := Go.Proofs.YtpaakikgfojplaaGreat.hid ((HWB.out.left P false hL2).from HBB.out)
      clear hL2 HWB hgo
      go_wp2
      go_ret
      exact ⟨rfl, HF.out⟩
    · skip
      by_cases e11 : o.kind = 11
      · have b1 : (o.kind == 1) = false := by rw [e11]; rfl
        have b2 : (o.kind == 2) = false := by rw [e11]; rfl
        have b3 : (o.kind == 3) = false := by rw [e11]; rfl
        have b4 : (o.kind == 4) = false := by rw [e11]; rfl
        have b5 : (o.kind == 5) = false := by rw [e11]; rfl
        have b6 : (o.kind == 6) = false := by rw [e11]; rfl
        have b7 : (o.kind == 7) = false := by rw [e11]; rfl
        have b8 : (o.kind == 8) = false := by rw [e11]; rfl
        have b9 : (o.kind == 9) = false := by rw [e11]; rfl
        have b10 : (o.kind == 10) = false := by rw [e11]; rfl
        have b11 : (o.kind == 11) = true := by rw [e11]; rfl
        have b12 : (o.kind == 12) = false := by rw [e11]; rfl
        clear e11 h9 hk
        go_wp2_with fail
        have hgo := peers_any P Q (x false) (c false) (F false) (G false) (s false) o B (HWB.out.side false) HO.out
        unfold sideV opV at hgo
        rw [show opA o = #[.int .i64 o.kind, .bool false, .int .i64 o.A, .int .i64 o.B, .int .i64 o.C, .int .i64 o.h.slot, .int .i64 o.h.pool, .int .i64 o.h.proof, .int .i64 o.h.count, .int .i64 o.h.frm, .int .i64 o.h.dst, .int .i64 o.h.amount, .string o.S] from by rw [← hobb]; rfl] at hgo
        refine hgo.mono ?_
        rintro r w2 ⟨rfl, hL2⟩
        have HF := Go.Proofs.YtpaakikgfojplaaGreat.hid ((HWB.out.left P false hL2).from HBB.out)
        clear hL2 HWB hgo
        go_wp2
        go_ret
        exact ⟨rfl, HF.out⟩
      · skip
        by_cases e12 : o.kind = 12
        · have b1 : (o.kind == 1) = false := by rw [e12]; rfl
          have b2 : (o.kind == 2) = false := by rw [e12]; rfl
          have b3 : (o.kind == 3) = false := by rw [e12]; rfl
          have b4 : (o.kind == 4) = false := by rw [e12]; rfl
          have b5 : (o.kind == 5) = false := by rw [e12]; rfl
          have b6 : (o.kind == 6) = false := by rw [e12]; rfl
          have b7 : (o.kind == 7) = false := by rw [e12]; rfl
          have b8 : (o.kind == 8) = false := by rw [e12]; rfl
          have b9 : (o.kind == 9) = false := by rw [e12]; rfl
          have b10 : (o.kind == 10) = false := by rw [e12]; rfl
          have b11 : (o.kind == 11) = false := by rw [e12]; rfl
          have b12 : (o.kind == 12) = true := by rw [e12]; rfl
          clear e12 h9 hk
          go_wp2_with fail
          have hgo := peers_any P Q (x false) (c false) (F false) (G false) (s false) o B (HWB.out.side false) HO.out
          unfold sideV opV at hgo
          rw [show opA o = #[.int .i64 o.kind, .bool false, .int .i64 o.A, .int .i64 o.B, .int .i64 o.C, .int .i64 o.h.slot, .int .i64 o.h.pool, .int .i64 o.h.proof, .int .i64 o.h.count, .int .i64 o.h.frm, .int .i64 o.h.dst, .int .i64 o.h.amount, .string o.S] from by rw [← hobb]; rfl] at hgo
          refine hgo.mono ?_
          rintro r w2 ⟨rfl, hL2⟩
          have HF := Go.Proofs.YtpaakikgfojplaaGreat.hid ((HWB.out.left P false hL2).from HBB.out)
          clear hL2 HWB hgo
          go_wp2
          go_ret
          exact ⟨rfl, HF.out⟩
        · skip
          omega
  · have hobb : o.other = true := hob
    rw [hobb] at k1
    go_upto_region 5 with fail
    generalize hB : A.alloc (.cells #[.pointer (some ⟨x true, 0, none⟩), .pointer (some ⟨c true, 0, none⟩)] 31) = B at *
    obtain ⟨hsB, hbB, hBo⟩ := below_zero hB
    clear hB
    have hWB := HWA.out.keep P hbB
    have hop : B.heap[w.heap.size]? = some (.cells (opA o) 42 (0, 0)) := (hbB.block _ hlA).trans HAO.out
    have s0 := cell_of_cells (j := 0) hBo rfl
    have s1 := cell_of_cells (j := 1) hBo rfl
    have k0 : B.cell? ⟨w.heap.size, 0, none⟩ = some (.int .i64 o.kind) := cell_of_cells (j := 0) hop rfl
    have k2 : B.cell? ⟨w.heap.size, 2, none⟩ = some (.int .i64 o.A) := cell_of_cells (j := 2) hop rfl
    have k3 : B.cell? ⟨w.heap.size, 3, none⟩ = some (.int .i64 o.B) := cell_of_cells (j := 3) hop rfl
    have k4 : B.cell? ⟨w.heap.size, 4, none⟩ = some (.int .i64 o.C) := cell_of_cells (j := 4) hop rfl
    have k5 : B.cell? ⟨w.heap.size, 5, none⟩ = some (.int .i64 o.h.slot) := cell_of_cells (j := 5) hop rfl
    have k6 : B.cell? ⟨w.heap.size, 6, none⟩ = some (.int .i64 o.h.pool) := cell_of_cells (j := 6) hop rfl
    have k7 : B.cell? ⟨w.heap.size, 7, none⟩ = some (.int .i64 o.h.proof) := cell_of_cells (j := 7) hop rfl
    have k8 : B.cell? ⟨w.heap.size, 8, none⟩ = some (.int .i64 o.h.count) := cell_of_cells (j := 8) hop rfl
    have k9 : B.cell? ⟨w.heap.size, 9, none⟩ = some (.int .i64 o.h.frm) := cell_of_cells (j := 9) hop rfl
    have k10 : B.cell? ⟨w.heap.size, 10, none⟩ = some (.int .i64 o.h.dst) := cell_of_cells (j := 10) hop rfl
    have k11 : B.cell? ⟨w.heap.size, 11, none⟩ = some (.int .i64 o.h.amount) := cell_of_cells (j := 11) hop rfl
    have k12 : B.cell? ⟨w.heap.size, 12, none⟩ = some (.string o.S) := cell_of_cells (j := 12) hop rfl
    have kk1 : B.cell? ⟨w.heap.size, 1, none⟩ = some (.bool true) := by rw [← hobb]; exact cell_of_cells (j := 1) hop rfl
    have HWB := Go.Proofs.YtpaakikgfojplaaGreat.hid hWB
    have HBB := Go.Proofs.YtpaakikgfojplaaGreat.hid (HBA.out.trans (hbB.mono HBA.out.size))
    clear HWA HAO hbB hBo hop d0 d1 d2 d3 k1 hsB hWB hob
    by_cases e10 : o.kind = 10
    · have b1 : (o.kind == 1) = false := by rw [e10]; rfl
      have b2 : (o.kind == 2) = false := by rw [e10]; rfl
      have b3 : (o.kind == 3) = false := by rw [e10]; rfl
      have b4 : (o.kind == 4) = false := by rw [e10]; rfl
      have b5 : (o.kind == 5) = false := by rw [e10]; rfl
      have b6 : (o.kind == 6) = false := by rw [e10]; rfl
      have b7 : (o.kind == 7) = false := by rw [e10]; rfl
      have b8 : (o.kind == 8) = false := by rw [e10]; rfl
      have b9 : (o.kind == 9) = false := by rw [e10]; rfl
      have b10 : (o.kind == 10) = true := by rw [e10]; rfl
      have b11 : (o.kind == 11) = false := by rw [e10]; rfl
      have b12 : (o.kind == 12) = false := by rw [e10]; rfl
      clear e10 h9 hk
      go_wp2_with fail
      have hgo := peers_any P Q (x true) (c true) (F true) (G true) (s true) o B (HWB.out.side true) HO.out
      unfold sideV opV at hgo
      rw [show opA o = #[.int .i64 o.kind, .bool true, .int .i64 o.A, .int .i64 o.B, .int .i64 o.C, .int .i64 o.h.slot, .int .i64 o.h.pool, .int .i64 o.h.proof, .int .i64 o.h.count, .int .i64 o.h.frm, .int .i64 o.h.dst, .int .i64 o.h.amount, .string o.S] from by rw [← hobb]; rfl] at hgo
      refine hgo.mono ?_
      rintro r w2 ⟨rfl, hL2⟩
      have HF := Go.Proofs.YtpaakikgfojplaaGreat.hid ((HWB.out.left P true hL2).from HBB.out)
      clear hL2 HWB hgo
      go_wp2
      go_ret
      exact ⟨rfl, HF.out⟩
    · skip
      by_cases e11 : o.kind = 11
      · have b1 : (o.kind == 1) = false := by rw [e11]; rfl
        have b2 : (o.kind == 2) = false := by rw [e11]; rfl
        have b3 : (o.kind == 3) = false := by rw [e11]; rfl
        have b4 : (o.kind == 4) = false := by rw [e11]; rfl
        have b5 : (o.kind == 5) = false := by rw [e11]; rfl
        have b6 : (o.kind == 6) = false := by rw [e11]; rfl
        have b7 : (o.kind == 7) = false := by rw [e11]; rfl
        have b8 : (o.kind == 8) = false := by rw [e11]; rfl
        have b9 : (o.kind == 9) = false := by rw [e11]; rfl
        have b10 : (o.kind == 10) = false := by rw [e11]; rfl
        have b11 : (o.kind == 11) = true := by rw [e11]; rfl
        have b12 : (o.kind == 12) = false := by rw [e11]; rfl
        clear e11 h9 hk
        go_wp2_with fail
        have hgo := peers_any P Q (x true) (c true) (F true) (G true) (s true) o B (HWB.out.side true) HO.out
        unfold sideV opV at hgo
        rw [show opA o = #[.int .i64 o.kind, .bool true, .int .i64 o.A, .int .i64 o.B, .int .i64 o.C, .int .i64 o.h.slot, .int .i64 o.h.pool, .int .i64 o.h.proof, .int .i64 o.h.count, .int .i64 o.h.frm, .int .i64 o.h.dst, .int .i64 o.h.amount, .string o.S] from by rw [← hobb]; rfl] at hgo
        refine hgo.mono ?_
        rintro r w2 ⟨rfl, hL2⟩
        have HF := Go.Proofs.YtpaakikgfojplaaGreat.hid ((HWB.out.left P true hL2).from HBB.out)
        clear hL2 HWB hgo
        go_wp2
        go_ret
        exact ⟨rfl, HF.out⟩
      · skip
        by_cases e12 : o.kind = 12
        · have b1 : (o.kind == 1) = false := by rw [e12]; rfl
          have b2 : (o.kind == 2) = false := by rw [e12]; rfl
          have b3 : (o.kind == 3) = false := by rw [e12]; rfl
          have b4 : (o.kind == 4) = false := by rw [e12]; rfl
          have b5 : (o.kind == 5) = false := by rw [e12]; rfl
          have b6 : (o.kind == 6) = false := by rw [e12]; rfl
          have b7 : (o.kind == 7) = false := by rw [e12]; rfl
          have b8 : (o.kind == 8) = false := by rw [e12]; rfl
          have b9 : (o.kind == 9) = false := by rw [e12]; rfl
          have b10 : (o.kind == 10) = false := by rw [e12]; rfl
          have b11 : (o.kind == 11) = false := by rw [e12]; rfl
          have b12 : (o.kind == 12) = true := by rw [e12]; rfl
          clear e12 h9 hk
          go_wp2_with fail
          have hgo := peers_any P Q (x true) (c true) (F true) (G true) (s true) o B (HWB.out.side true) HO.out
          unfold sideV opV at hgo
          rw [show opA o = #[.int .i64 o.kind, .bool true, .int .i64 o.A, .int .i64 o.B, .int .i64 o.C, .int .i64 o.h.slot, .int .i64 o.h.pool, .int .i64 o.h.proof, .int .i64 o.h.count, .int .i64 o.h.frm, .int .i64 o.h.dst, .int .i64 o.h.amount, .string o.S] from by rw [← hobb]; rfl] at hgo
          refine hgo.mono ?_
          rintro r w2 ⟨rfl, hL2⟩
          have HF := Go.Proofs.YtpaakikgfojplaaGreat.hid ((HWB.out.left P true hL2).from HBB.out)
          clear hL2 HWB hgo
          go_wp2
          go_ret
          exact ⟨rfl, HF.out⟩
        · skip
          omega

end Go.Proofs.YtpaakikgfojplaaGreat

