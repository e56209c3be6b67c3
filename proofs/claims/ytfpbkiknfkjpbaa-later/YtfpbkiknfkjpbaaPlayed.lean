/-
  THE WALK of the statements' played.
-/
import Derived.Test.YtfpbkiknfkjpbaaOpenGo
namespace Go.Proofs.Ytfpbkiknfkjpbaa
open Go.RowKit Num Bk
set_option linter.unusedVariables false

/-- A list of steps that came in. -/
def StepsAt (w : World) (a : Option Addr) (l : List Stp) : Prop :=
  ∀ j o, l[j]? = some o → ∃ x, a = some x ∧ w.cell? (x.add (j * 4)) = some (.int .i64 o.A) ∧ w.cell? ⟨(x.add (j * 4)).block, (x.add (j * 4)).off + 1, none⟩ = some (.int .i64 o.B) ∧ w.cell? ⟨(x.add (j * 4)).block, (x.add (j * 4)).off + 2, none⟩ = some (.int .i64 o.C) ∧ w.cell? ⟨(x.add (j * 4)).block, (x.add (j * 4)).off + 3, none⟩ = some (.int .i64 o.D) ∧ StpI o

theorem StepsAt.keep {w W : World} {a : Option Addr} {l : List Stp} (h : StepsAt w a l) (hb : Below w.heap.size w W) : StepsAt W a l := by
  intro j o ho
  obtain ⟨x, e, h0, h1, h2, h3, hi⟩ := h j o ho
  have key : ∀ y v, w.cell? y = some v → W.cell? y = some v := by
    intro y v hc
    rw [hb.cell (World.block_lt_of_cell? w _ hc)]; exact hc
  exact ⟨x, e, key _ _ h0, key _ _ h1, key _ _ h2, key _ _ h3, hi⟩

def playS (s : St) (l : List Stp) : St := l.foldl stepS s

theorem playS_take (s : St) (l : List Stp) (k : Nat) (o : Stp) (h : l[k]? = some o) : playS s (l.take (k + 1)) = stepS (playS s (l.take k)) o := by
  unfold playS
  have hk : k < l.length := by
    rw [List.getElem?_eq_some_iff] at h; exact h.1
  rw [List.take_add_one, h, List.foldl_append]
  rfl

theorem New.went {Rep : World → Nat → (Nat → Prop) → St → Prop} {w wr w' : World} {b xc gs cs ga ca : Nat} {F : Nat → Prop} {s s' : St} (h : New Rep w wr b xc gs cs ga ca F s) (hw : Went Rep wr w' b xc gs cs ga F s') : ∃ ga' ca' F', New Rep w w' b xc gs cs ga' ca' F' s' := by
  obtain ⟨hB, hb, hF, h1, h2, h3⟩ := h
  obtain ⟨F', ga', ca', hB', hfr, hn, hg⟩ := hw
  have hs := hb.size
  refine ⟨ga', ca', F', hB', below_fr hb hfr (fun i hi => ?_), fun k hk => ?_, h1, h2, ?_⟩
  · rcases hi with hi | hi | hi
    · exact hF i hi
    · omega
    · omega
  · rcases hn k hk with h | h
    · exact hF k h
    · omega
  · rcases hg with h | h <;> omega

set_option maxHeartbeats 12800000 in
set_option maxRecDepth 1000000 in
theorem played_any {Rep : World → Nat → (Nat → Prop) → St → Prop} (P : PSpec Rep) (a : Option Addr) (cap : Nat) (z : List Int) (a2 : Option Addr) (cap2 : Nat) (l : List Stp) (w : World) (hz : RawAt w a z) (hl : StepsAt w a2 l) (hlm : l.length ≤ maxLen) :
    Calls Try.prog 18 #[.slice a z.length cap, .slice a2 l.length cap2] w fun e w' => ∃ b xc gs cs ga ca F, e = .returned (.pointer (some ⟨b, 0, none⟩)) ∧ New Rep w w' b xc gs cs ga ca F (playS (Bk.start (parOf z)) l) := by
  have hlm' : l.length ≤ 9223372036854775807 := by unfold maxLen at hlm; omega
  clear hlm
  go_enter Try.func18, Try.ntmps18
  go_wp2_with fail
  refine (opened_any P a cap z _ hz).mono ?_
  rintro e w1 ⟨b, xc, gs, cs, ga0, ca0, F0, rfl, hN0⟩
  have HN0 := Go.Proofs.Ytfpbkiknfkjpbaa.hid hN0
  have HL := Go.Proofs.Ytfpbkiknfkjpbaa.hid hl
  clear hz hN0 hl
  generalize hlen : l.length = n at *
  generalize hS : Bk.start (parOf z) = s0 at *
  go_wp2
  go_loopw [6] (fun i wr => ∃ (k ga ca : Nat) (F : Nat → Prop), k ≤ n ∧ i = .int .i64 k ∧ Hid (New Rep w wr b xc gs cs ga ca F (playS s0 (l.take k))))
    (fun i _ => n - (intOf i).toNat)
  case atStart => exact ⟨0, ga0, ca0, F0, Nat.zero_le _, rfl, HN0⟩
  case round =>
    obtain ⟨k, ga, ca, F, hk, rfl, HN⟩ := hrel
    by_cases hlt : k < n
    · have hlt' : (k : Int) < (n : Int) := by omega
      obtain ⟨o, ho⟩ : ∃ o, l[k]? = some o := ⟨l[k]'(by omega), List.getElem?_eq_getElem (by omega)⟩
      obtain ⟨x, rfl, q0, q1, q2, q3, hI⟩ := (HL.out.keep HN.out.2.1) k o ho
      have HST := Go.Proofs.Ytfpbkiknfkjpbaa.hid (playS_take s0 l k o ho)
      clear ho
      go_wp2_with fail
      refine (step_any P b xc gs cs ga ca (playS s0 (l.take k)) F o _ HN.out.1 hI).mono ?_
      rintro e w2 ⟨rfl, hW⟩
      obtain ⟨ga', ca', F', hN'⟩ := New.went HN.out hW
      have HN' := Go.Proofs.Ytfpbkiknfkjpbaa.hid hN'
      clear hN' hW q0 q1 q2 q3 HN
      go_wp2
      go_roundw
      case rel => exact ⟨k + 1, ga', ca', F', by omega, by go_num, by unfold Hid; rw [HST.out]; exact HN'.out⟩
      case measure => simp [intOf]; omega
    · have hke : k = n := by omega
      have HE := Go.Proofs.Ytfpbkiknfkjpbaa.hid (show l.take k = l by rw [hke, ← hlen]; simp)
      go_wp2
      go_ret
      exact ⟨b, xc, gs, cs, ga, ca, F, rfl, by rw [hS]; have := HN.out; rw [HE.out] at this; exact this⟩
end Go.Proofs.Ytfpbkiknfkjpbaa
