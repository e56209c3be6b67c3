import Derived.Test.YtpaakikgfojplaaGreatCM13
/-
  The statements' World: two chains of each kind, and the lists that came out; marked, looks.
-/
namespace Go.Proofs.YtpaakikgfojplaaGreat
open Go.RowKit Num Bk
set_option linter.unusedVariables false

/-- A list that came out, as it is kept. -/
structure Ent where
  g : Nat
  n : Nat
  cap : Nat
def entV (e : Ent) : Value := .slice (some ⟨e.g, 0, none⟩) e.n e.cap
def Marks (w : World) (L : List Ent) (m : Nat → Int) : Prop := ∀ i e, L[i]? = some e → ∀ j, j < e.n → w.cell? ⟨e.g, j, none⟩ = some (.int .i64 (m i))

/-- Two chains of each kind, and the lists that came out. -/
structure WMid (Rep : World → Nat → (Nat → Prop) → St → Prop) (w : World) (wd : Nat) (x c : Bool → Nat) (F G : Bool → Nat → Prop) (s : Bool → St) (lv mv : Value) (L M : List Ent) : Prop where
  blk : w.heap[wd]? = some (.cells #[.pointer (some ⟨x false, 0, none⟩), .pointer (some ⟨c false, 0, none⟩), .pointer (some ⟨x true, 0, none⟩), .pointer (some ⟨c true, 0, none⟩), lv, mv] 38 (0, 0))
  side : ∀ b, Side Rep w (x b) (c b) (F b) (G b) (s b)
  dis : ∀ k, (F false k ∨ G false k) → ¬ (F true k ∨ G true k)
  out : ∀ b k, (F b k ∨ G b k) → k ≠ wd ∧ lv.ownBlock ≠ some k ∧ mv.ownBlock ≠ some k ∧ (∀ e ∈ L, e.g ≠ k) ∧ (∀ e ∈ M, e.g ≠ k)
  ll : w.ownsRow 0 22 1 lv L.length (L.map entV)
  mm : w.ownsRow 0 22 1 mv M.length (M.map entV)
  lm : Marks w L (fun i => -1000 - (i : Int))
  mo : Marks w M (fun i => -1000 - ((i / 3 : Nat) : Int))
  ty : ∀ e, e ∈ L ∨ e ∈ M → (∃ cur, w.heap[e.g]? = some (.cells cur 3 (0, 0))) ∧ e.n ≤ 1000000
  sep : ∀ k, lv.ownBlock = some k → mv.ownBlock ≠ some k
structure WAt (Rep : World → Nat → (Nat → Prop) → St → Prop) (w : World) (wd : Nat) (x c : Bool → Nat) (F G : Bool → Nat → Prop) (s : Bool → St) (lv mv : Value) (L M : List Ent) : Prop extends WMid Rep w wd x c F G s lv mv L M where
  three : M.length = 3 * L.length
  few : L.length ≤ 1500000000000
theorem WMid.lt {Rep : World → Nat → (Nat → Prop) → St → Prop} {w : World} {wd : Nat} {x c : Bool → Nat} {F G : Bool → Nat → Prop} {s : Bool → St} {lv mv : Value} {L M : List Ent} (h : WMid Rep w wd x c F G s lv mv L M) (e : Ent) (he : e ∈ L ∨ e ∈ M) : e.g < w.heap.size ∧ e.n ≤ 1000000 := by
  obtain ⟨⟨cur, hc⟩, h2⟩ := h.ty e he
  exact ⟨lt_of_block hc, h2⟩

theorem Marks.fr {w w' : World} {L : List Ent} {m : Nat → Int} {H : Nat → Prop} (h : Marks w L m) (hb : Fr H w w') (h1 : ∀ e ∈ L, e.g < w.heap.size ∧ ¬ H e.g) : Marks w' L m := by
  intro i e he j hj
  have hm := List.mem_of_getElem? he
  rw [World.cell?_of_block (hb.block e.g (h1 e hm).1 (h1 e hm).2)]
  exact h i e he j hj

/-- All that a step of a script may write. -/
def HOwn (F G : Bool → Nat → Prop) (wd : Nat) (lv mv : Value) (k : Nat) : Prop := (∃ b, F b k ∨ G b k) ∨ k = wd ∨ lv.ownBlock = some k ∨ mv.ownBlock = some k

/-- What a step of a script leaves. -/
def Stays (Rep : World → Nat → (Nat → Prop) → St → Prop) (w w' : World) (wd : Nat) (x c : Bool → Nat) (F G : Bool → Nat → Prop) (lv mv : Value) (n : Nat) : Prop :=
  ∃ F' G' s' lv' mv' L' M', WAt Rep w' wd x c F' G' s' lv' mv' L' M' ∧ Fr (HOwn F G wd lv mv) w w' ∧ (∀ k, HOwn F' G' wd lv' mv' k → HOwn F G wd lv mv k ∨ w.heap.size ≤ k) ∧ L'.length ≤ n + 1

/-- One side goes on. -/
theorem WAt.left {Rep : World → Nat → (Nat → Prop) → St → Prop} (P : PSpec Rep) {w w' : World} {wd : Nat} {x c : Bool → Nat} {F G : Bool → Nat → Prop} {s : Bool → St} {lv mv : Value} {L M : List Ent} (h : WAt Rep w wd x c F G s lv mv L M) (b : Bool) {s' : St} (hL : SLeft Rep w w' (x b) (c b) (F b) (G b) s') : Stays Rep w w' wd x c F G lv mv L.length := by
  obtain ⟨F1, G1, hS, hfr, hF, hG⟩ := hL
  have hs := hfr.size
  have hl1 : ∀ b k, F b k ∨ G b k → k < w.heap.size := fun b k hk => hk.elim (P.lt (h.side b).p k) ((h.side b).r.lt k)
  have hwl := lt_of_block h.blk
  have hap : ∀ b' , b' ≠ b → ∀ k, (F b' k ∨ G b' k) → ¬ (F b k ∨ G b k) := by
    intro b' hb' k h1 h2
    cases b <;> cases b' <;> first | exact hb' rfl | exact h.dis k h1 h2 | exact h.dis k h2 h1
  refine ⟨fun b' => if b' = b then F1 else F b', fun b' => if b' = b then G1 else G b', fun b' => if b' = b then s' else s b', lv, mv, L, M, ?_, hfr.mono (fun k _ h => Or.inl ⟨b, h⟩), ?_, Nat.le_succ _⟩
  rotate_left
  · rintro k (⟨b', hk⟩ | h | h | h)
    · by_cases e : b' = b
      · subst e
        simp only [if_true] at hk
        rcases hk with hk | hk
        · exact (hF k hk).imp (fun h => Or.inl ⟨b', Or.inl h⟩) id
        · exact (hG k hk).imp (fun h => Or.inl ⟨b', Or.inr h⟩) id
      · simp only [if_neg e] at hk
        exact Or.inl (Or.inl ⟨b', hk⟩)
    · exact Or.inl (Or.inr (Or.inl h))
    · exact Or.inl (Or.inr (Or.inr (Or.inl h)))
    · exact Or.inl (Or.inr (Or.inr (Or.inr h)))
  have hout : ∀ k, (F1 k ∨ G1 k) → k ≠ wd ∧ lv.ownBlock ≠ some k ∧ mv.ownBlock ≠ some k ∧ (∀ e ∈ L, e.g ≠ k) ∧ (∀ e ∈ M, e.g ≠ k) := by
    intro k hk
    have hor : (F b k ∨ G b k) ∨ w.heap.size ≤ k := by
      rcases hk with hk | hk
      · exact (hF k hk).imp Or.inl id
      · exact (hG k hk).imp Or.inr id
    rcases hor with h' | h'
    · exact h.out b k h'
    · refine ⟨by omega, fun e => ?_, fun e => ?_, fun e he => ?_, fun e he => ?_⟩
      · have := (h.ll.lt k e).2; omega
      · have := (h.mm.lt k e).2; omega
      · have := (h.lt e (Or.inl he)).1; omega
      · have := (h.lt e (Or.inr he)).1; omega
  have hold : ∀ b', b' ≠ b → Side Rep w' (x b') (c b') (F b') (G b') (s b') := fun b' hb' =>
    (h.side b').fr P hfr (fun k hk => hap b' hb' k (Or.inl hk)) (fun k hk => hap b' hb' k (Or.inr hk))
  have hnew : ∀ b', b' ≠ b → ∀ k, (F1 k ∨ G1 k) → ¬ (F b' k ∨ G b' k) := by
    intro b' hb' k hk h2
    have hor : (F b k ∨ G b k) ∨ w.heap.size ≤ k := by
      rcases hk with hk | hk
      · exact (hF k hk).imp Or.inl id
      · exact (hG k hk).imp Or.inr id
    rcases hor with h' | h'
    · exact hap b' hb' k h2 h'
    · have := hl1 b' k h2; omega
  have hnw : ¬ (F b wd ∨ G b wd) := fun e => (h.out b wd e).1 rfl
  refine ⟨⟨(hfr.block wd hwl hnw).trans h.blk, ?_, ?_, ?_, row_fr h.ll hfr (fun g e hg => (h.out b g hg).2.1 e), row_fr h.mm hfr (fun g e hg => (h.out b g hg).2.2.1 e), ?_, ?_, fun e he => ?_, h.sep⟩, h.three, h.few⟩
  · intro b'
    by_cases e : b' = b
    · subst e; simp only [if_true]; exact hS
    · simp only [if_neg e]; exact hold b' e
  · intro k h1 h2
    cases b
    · simp only [if_true] at h1
      simp only [show (true = false) = False from by simp, if_false] at h2
      exact hnew true (by simp) k h1 h2
    · simp only [show (false = true) = False from by simp, if_false] at h1
      simp only [if_true] at h2
      exact hnew false (by simp) k h2 h1
  · intro b' k hk
    by_cases e : b' = b
    · subst e; simp only [if_true] at hk; exact hout k hk
    · simp only [if_neg e] at hk; exact h.out b' k hk
  · exact h.lm.fr hfr (fun e he => ⟨(h.lt e (Or.inl he)).1, fun hk => (h.out b _ hk).2.2.2.1 e he rfl⟩)
  · exact h.mo.fr hfr (fun e he => ⟨(h.lt e (Or.inr he)).1, fun hk => (h.out b _ hk).2.2.2.2 e he rfl⟩)
  · obtain ⟨⟨cur, hc⟩, h2⟩ := h.ty e he
    have hn : ¬ (F b e.g ∨ G b e.g) := fun hk => he.elim (fun h' => (h.out b _ hk).2.2.2.1 e h' rfl) (fun h' => (h.out b _ hk).2.2.2.2 e h' rfl)
    exact ⟨⟨cur, (hfr.block e.g (lt_of_block hc) hn).trans hc⟩, h2⟩

theorem Stays.from {Rep : World → Nat → (Nat → Prop) → St → Prop} {w W w' : World} {wd : Nat} {x c : Bool → Nat} {F G : Bool → Nat → Prop} {lv mv : Value} {n : Nat} (h : Stays Rep W w' wd x c F G lv mv n) (hb : Below w.heap.size w W) : Stays Rep w w' wd x c F G lv mv n := by
  obtain ⟨F', G', s', lv', mv', L', M', h1, h2, h3, h4⟩ := h
  have hs := hb.size
  exact ⟨F', G', s', lv', mv', L', M', h1, (Fr.of_below hb _ (fun k h1 h2 => by omega)).trans' h2 (fun i _ h => h), fun k hk => (h3 k hk).imp id (fun h => by omega), h4⟩
theorem WAt.same {Rep : World → Nat → (Nat → Prop) → St → Prop} {w : World} {wd : Nat} {x c : Bool → Nat} {F G : Bool → Nat → Prop} {s : Bool → St} {lv mv : Value} {L M : List Ent} (h : WAt Rep w wd x c F G s lv mv L M) : Stays Rep w w wd x c F G lv mv L.length :=
  ⟨F, G, s, lv, mv, L, M, h, Fr.refl _ _, fun k h => Or.inl h, Nat.le_succ _⟩

theorem WAt.keep {Rep : World → Nat → (Nat → Prop) → St → Prop} (P : PSpec Rep) {w w' : World} {wd : Nat} {x c : Bool → Nat} {F G : Bool → Nat → Prop} {s : Bool → St} {lv mv : Value} {L M : List Ent} (h : WAt Rep w wd x c F G s lv mv L M) (hb : Below w.heap.size w w') : WAt Rep w' wd x c F G s lv mv L M :=
  have hf : Fr (fun _ => False) w w' := Fr.of_below hb _ (fun k h1 h2 => by omega)
  ⟨⟨(hb.block wd (lt_of_block h.blk)).trans h.blk, fun b => (h.side b).keep P hb, h.dis, h.out, row_keep h.ll hb (Nat.le_refl _), row_keep h.mm hb (Nat.le_refl _),
    h.lm.fr hf (fun e he => ⟨(h.lt e (Or.inl he)).1, fun h => h⟩), h.mo.fr hf (fun e he => ⟨(h.lt e (Or.inr he)).1, fun h => h⟩), fun e he => by
      obtain ⟨⟨cur, hc⟩, h2⟩ := h.ty e he
      exact ⟨⟨cur, (hb.block e.g (lt_of_block hc)).trans hc⟩, h2⟩, h.sep⟩, h.three, h.few⟩

set_option maxHeartbeats 800000 in
theorem marked_any (e : Ent) (m : Int) (w : World) (hc : ∀ j, j < e.n → w.cell? ⟨e.g, j, none⟩ = some (.int .i64 m)) (hn : e.n ≤ 1000000) :
    Calls Tryz.prog 15 #[entV e, .int .i64 m] w fun r w' => r = .returned (.bool true) ∧ w = w' := by
  obtain ⟨g, n, cap⟩ := e
  simp only at hc hn
  unfold entV
  have HC := Go.Proofs.YtpaakikgfojplaaGreat.hid hc
  clear hc
  go_enter Tryz.func15, Tryz.ntmps15
  go_wp2
  go_loop [5] (fun i => ∃ k : Nat, k ≤ n ∧ i = .int .i64 k) (fun i => n - (intOf i).toNat)
  case atStart => exact ⟨0, Nat.zero_le _, rfl⟩
  case round =>
    obtain ⟨k, hk, rfl⟩ := hrel
    by_cases hlt : k < n
    · have c1 := HC.out k hlt
      have i1 : (0 : Int) ≤ (k : Int) := by omega
      have i2 : (k : Int) < (n : Int) := by omega
      go_wp2
      go_round
      case rel => exact ⟨k + 1, by omega, by go_num⟩
      case measure => simp [intOf]; omega
    · go_wp2
      go_ret
      exact ⟨rfl, rfl⟩

theorem ent_at (L : List Ent) (i : Nat) (e : Ent) (h : L[i]? = some e) : (L.map entV)[i]? = some (entV e) := by
  rw [List.getElem?_map, h]; rfl

set_option maxHeartbeats 3200000 in
set_option maxRecDepth 1000000 in
theorem wlooks_any {Rep : World → Nat → (Nat → Prop) → St → Prop} {w : World} {wd : Nat} {x c : Bool → Nat} {F G : Bool → Nat → Prop} {s : Bool → St} {lv mv : Value} {L M : List Ent} (h : WAt Rep w wd x c F G s lv mv L M) :
    Calls Tryz.prog 9 #[.pointer (some ⟨wd, 0, none⟩)] w fun r w' => r = .returned (.bool true) ∧ w = w' := by
  obtain ⟨al, capl, rfl, hlo⟩ := own_any h.ll
  obtain ⟨am, capm, rfl, hmo⟩ := own_any h.mm
  have c4 := cell_of_cells (j := 4) h.blk rfl
  have c5 := cell_of_cells (j := 5) h.blk rfl
  have HH := Go.Proofs.YtpaakikgfojplaaGreat.hid h
  have h3 := h.three
  have hf := h.few
  clear h
  have HLO := Go.Proofs.YtpaakikgfojplaaGreat.hid hlo
  have HMO := Go.Proofs.YtpaakikgfojplaaGreat.hid hmo
  have H3 := Go.Proofs.YtpaakikgfojplaaGreat.hid h3
  clear hlo hmo h3
  generalize hnL : L.length = nL at *
  generalize hnM : M.length = nM at *
  have hf3 : nM ≤ 4500000000000 := by have := H3.out; omega
  go_enter Tryz.func9, Tryz.ntmps9
  go_wp2
  go_loop [3] (fun i => ∃ k : Nat, k ≤ nL ∧ i = .int .i64 k) (fun i => nL - (intOf i).toNat)
  case atStart => exact ⟨0, Nat.zero_le _, rfl⟩
  case round =>
    obtain ⟨k, hk, rfl⟩ := hrel
    by_cases hlt : k < nL
    · obtain ⟨e, he⟩ : ∃ e, L[k]? = some e := ⟨L[k]'(by omega), List.getElem?_eq_getElem (by omega)⟩
      obtain ⟨gl, rfl⟩ := HLO.out (by omega)
      have hrow := HH.out.ll
      rw [hnL] at hrow
      have c1 := (hrow.cellAt k (by omega)).trans (ent_at L k e he)
      clear hrow
      have i1 : (0 : Int) ≤ (k : Int) := by omega
      have i2 : (k : Int) < (nL : Int) := by omega
      have hmk := HH.out.lm k e he
      have hen := (HH.out.lt e (Or.inl (List.mem_of_getElem? he))).2
      go_wp2_with fail
      refine (marked_any e (-1000 - (k : Int)) _ hmk hen).mono ?_
      rintro r w1 ⟨rfl, rfl⟩
      clear c1 hmk he
      go_wp2
      go_round
      case rel => exact ⟨k + 1, by omega, by go_num⟩
      case measure => simp [intOf]; omega
    · go_wp2
      go_loop [5] (fun i => ∃ k : Nat, k ≤ nM ∧ i = .int .i64 k) (fun i => nM - (intOf i).toNat)
      case atStart => exact ⟨0, Nat.zero_le _, rfl⟩
      case round =>
        obtain ⟨m, hm, rfl⟩ := hrel
        by_cases hlm : m < nM
        · obtain ⟨e, he⟩ : ∃ e, M[m]? = some e := ⟨M[m]'(by omega), List.getElem?_eq_getElem (by omega)⟩
          obtain ⟨gm, rfl⟩ := HMO.out (by omega)
          have hrow := HH.out.mm
          rw [hnM] at hrow
          have c1 := (hrow.cellAt m (by omega)).trans (ent_at M m e he)
          clear hrow
          have i1 : (0 : Int) ≤ (m : Int) := by omega
          have i2 : (m : Int) < (nM : Int) := by omega
          have hmk : ∀ j, j < e.n → w.cell? ⟨e.g, j, none⟩ = some (.int .i64 (-1000 - ((m / 3 : Nat) : Int))) := HH.out.mo m e he
          have hen := (HH.out.lt e (Or.inr (List.mem_of_getElem? he))).2
          have htd : (m : Int).tdiv 3 = ((m / 3 : Nat) : Int) := by
            rw [Int.tdiv_eq_ediv_of_nonneg (by omega)]; omega
          have hqm : m / 3 ≤ 4500000000000 := by omega
          generalize m / 3 = q at *
          go_wp2_with fail
          refine (marked_any e (-1000 - (q : Int)) _ hmk hen).mono ?_
          rintro r w1 ⟨rfl, rfl⟩
          clear c1 hmk he
          go_wp2
          go_round
          case rel => exact ⟨m + 1, by omega, by go_num⟩
          case measure => simp [intOf]; omega
        · go_wp2
          go_ret
          exact ⟨rfl, rfl⟩

end Go.Proofs.YtpaakikgfojplaaGreat

