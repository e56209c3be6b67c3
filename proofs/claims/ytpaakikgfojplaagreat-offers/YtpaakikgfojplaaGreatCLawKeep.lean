import Derived.Test.YtpaakikgfojplaaGreatCPlays
import Derived.Test.YtpaakikgfojplaaGreatCM23
/-
  The statements' World keeps a list: an append of the mark, wherever it goes; what is left of the World.
-/
namespace Go.Proofs.YtpaakikgfojplaaGreat
open Go.RowKit Num Bk
set_option linter.unusedVariables false

/-- A block whose first n cells bear a mark. -/
def Marked (w : World) (g n : Nat) (m : Int) : Prop := ∃ cur : Array Value, w.heap[g]? = some (.cells cur 3 (0, 0)) ∧ ∀ j, j < n → cur[j]? = some (.int .i64 m)
/-- A slice of its own block, all marked. -/
def MSlice (w : World) (g n cap : Nat) (m : Int) : Prop := n ≤ cap ∧ cap ≤ maxLen ∧ ∃ cur : Array Value, w.heap[g]? = some (.cells cur 3 (0, 0)) ∧ cur.size = cap ∧ ∀ j, j < n → cur[j]? = some (.int .i64 m)
theorem MSlice.marked {w : World} {g n cap : Nat} {m : Int} (h : MSlice w g n cap m) : Marked w g n m := by
  obtain ⟨_, _, cur, h1, _, h2⟩ := h
  exact ⟨cur, h1, h2⟩
theorem Marked.cell {w : World} {g n : Nat} {m : Int} (h : Marked w g n m) {j : Nat} (hj : j < n) : w.cell? ⟨g, j, none⟩ = some (.int .i64 m) := by
  obtain ⟨cur, h1, h2⟩ := h
  exact cell_of_cells h1 (h2 j hj)

theorem append_mark (w : World) (g n cap : Nat) (m : Int) (h : MSlice w g n cap m) (hn : n ≤ 1000000) (ad : Addr) (hb : w.cell? ad = some (.int .i64 m)) :
    ∃ g' cap' w', (Builtin.append_ #[22, 22] 22 #[.slice (some ⟨g, 0, none⟩) n cap, .slice (some ad) 1 1]).run Tryz.prog w = .ok (.slice (some ⟨g', 0, none⟩) (n + 1) cap') w' ∧
      MSlice w' g' (n + 1) cap' m ∧ (g' = g ∨ g' = w.heap.size) ∧ Fr (fun k => k = g) w w' ∧ Marked w' g n m := by
  obtain ⟨i0, hi0, hz0, hz1, hz2⟩ := info_parts Tryz.info3
  obtain ⟨h1, h2, cur, hg, hcs, hm⟩ := h
  have hnews : ∀ j u, [Value.int .i64 m][j]? = some u → w.cell? (ad.add j) = some u := by
    intro j u hu
    match j, hu with
    | 0, hu => simp at hu; subst hu; simpa [Addr.add] using hb
    | j + 1, hu => simp at hu
  by_cases hroom : n + 1 ≤ cap
  · have hr := run_append_room (P := Tryz.prog) w 22 22 3 i0 Tryz.underlying22 hi0 g n cap cur hg ad 1 1 [.int .i64 m] (by rw [hz1]; rfl) hnews (one_int _) hroom (by rw [hz1]; simp; omega)
    rw [hz1] at hr
    have hlen : (cur.toList.take (n * 1) ++ [Value.int .i64 m] ++ cur.toList.drop (n * 1 + [Value.int .i64 m].length)).length = cap := by
      simp; omega
    have hval : ∀ j, j < n + 1 → (cur.toList.take (n * 1) ++ [Value.int .i64 m] ++ cur.toList.drop (n * 1 + [Value.int .i64 m].length)).toArray[j]? = some (.int .i64 m) := by
      intro j hj
      rw [List.getElem?_toArray]
      have hl : (cur.toList.take (n * 1)).length = n := by simp; omega
      by_cases e : j < n
      · rw [List.append_assoc, List.getElem?_append_left (by omega), List.getElem?_take, if_pos (by omega)]
        have := hm j e
        simpa using this
      · have e2 : j = n := by omega
        subst e2
        rw [List.append_assoc, List.getElem?_append_right (by omega), hl]
        simp
    refine ⟨g, cap, _, hr, ⟨hroom, h2, _, setRow_heap w g _ _ 3 _ hg, by rw [List.size_toArray]; exact hlen, hval⟩, Or.inl rfl, fr_setRow (F := fun k => k = g) (Fr.refl _ _) rfl _, ⟨_, setRow_heap w g _ _ 3 _ hg, fun j hj => hval j (by omega)⟩⟩
  · have holds : ∀ j v, (cur.toList.take n)[j]? = some v → w.cell? ((⟨g, 0, none⟩ : Addr).add j) = some v := by
      intro j v hv
      have hj : j < n := by
        have := (List.getElem?_eq_some_iff.1 hv).1
        simp at this; omega
      rw [Addr.add_lit, Nat.zero_add]
      rw [List.getElem?_take, if_pos hj] at hv
      exact cell_of_cells hg (by simpa using hv)
    have hr := run_append_grow (P := Tryz.prog) w 22 22 3 i0 (.int .i64 0) Tryz.underlying22 hi0 hz0 ⟨g, 0, none⟩ n cap (cur.toList.take n) (by rw [hz1]; simp; omega) holds ad 1 1 [.int .i64 m] (by rw [hz1]; rfl) hnews (by omega) (by omega) (growslice_fits (by omega) (by rw [hz2]; omega))
    have hge := grownCap_ge w (n + 1) cap 3
    have hle := grownCap_le_maxLen w (n + 1) cap 3 (by unfold maxLen; omega)
    generalize hC : grownCap w (n + 1) cap 3 = C at *
    have hl : (cur.toList.take n).length = n := by simp; omega
    have hsz : ((cur.toList.take n).toArray ++ [Value.int .i64 m].toArray ++ Builtin.zeroCells (Value.int .i64 0).cells (C - (n + 1))).size = C := by
      rw [Array.size_append, Array.size_append, size_zeroCells, List.size_toArray, List.size_toArray, hl]
      show n + 1 + (C - (n + 1)) * 1 = C
      omega
    have hval : ∀ j, j < n + 1 → ((cur.toList.take n).toArray ++ [Value.int .i64 m].toArray ++ Builtin.zeroCells (Value.int .i64 0).cells (C - (n + 1)))[j]? = some (.int .i64 m) := by
      intro j hj
      rw [Array.getElem?_append_left (by rw [Array.size_append, List.size_toArray, List.size_toArray, hl]; show j < n + 1; omega)]
      by_cases e : j < n
      · rw [Array.getElem?_append_left (by rw [List.size_toArray, hl]; exact e), List.getElem?_toArray, List.getElem?_take, if_pos e]
        have := hm j e
        simpa using this
      · have e2 : j = n := by omega
        subst e2
        rw [Array.getElem?_append_right (by rw [List.size_toArray, hl]; exact Nat.le_refl _), List.size_toArray, hl]
        simp
    have hgl : g < w.heap.size := lt_of_block hg
    refine ⟨w.heap.size, C, _, hr, ⟨hge, hle, _, heap_alloc_new w.drew _, hsz, hval⟩, Or.inr rfl, ⟨rfl, rfl, rfl, by simp, fun k hk _ => heap_alloc_old w.drew _ hk⟩, ⟨cur, (heap_alloc_old w.drew _ hgl).trans hg, hm⟩⟩

theorem WMid.fr {Rep : World → Nat → (Nat → Prop) → St → Prop} (P : PSpec Rep) {w w' : World} {wd : Nat} {x c : Bool → Nat} {F G : Bool → Nat → Prop} {s : Bool → St} {lv mv : Value} {L M : List Ent} (h : WMid Rep w wd x c F G s lv mv L M) {H : Nat → Prop} (hf : Fr H w w') (h1 : ∀ b k, F b k ∨ G b k → ¬ H k) (h2 : ¬ H wd) (h3 : ∀ k, lv.ownBlock = some k → ¬ H k) (h4 : ∀ k, mv.ownBlock = some k → ¬ H k)
    (h5 : ∀ (i : Nat) (e : Ent), L[i]? = some e → H e.g → Marked w' e.g e.n (-1000 - (i : Int))) (h6 : ∀ (i : Nat) (e : Ent), M[i]? = some e → H e.g → Marked w' e.g e.n (-1000 - ((i / 3 : Nat) : Int))) : WMid Rep w' wd x c F G s lv mv L M := by
  refine ⟨(hf.block wd (lt_of_block h.blk) h2).trans h.blk, fun b => (h.side b).fr P hf (fun k hk => h1 b k (Or.inl hk)) (fun k hk => h1 b k (Or.inr hk)), h.dis, h.out, row_fr h.ll hf h3, row_fr h.mm hf h4, ?_, ?_, ?_, h.sep⟩
  · intro i e he j hj
    by_cases hH : H e.g
    · exact (h5 i e he hH).cell hj
    · rw [World.cell?_of_block (hf.block e.g (h.lt e (Or.inl (List.mem_of_getElem? he))).1 hH)]
      exact h.lm i e he j hj
  · intro i e he j hj
    by_cases hH : H e.g
    · exact (h6 i e he hH).cell hj
    · rw [World.cell?_of_block (hf.block e.g (h.lt e (Or.inr (List.mem_of_getElem? he))).1 hH)]
      exact h.mo i e he j hj
  · intro e he
    obtain ⟨⟨cur, hc⟩, hn⟩ := h.ty e he
    by_cases hH : H e.g
    · refine ⟨?_, hn⟩
      rcases he with he | he
      · obtain ⟨i, hi⟩ := List.getElem?_of_mem he
        obtain ⟨cur', h', _⟩ := h5 i e hi hH
        exact ⟨cur', h'⟩
      · obtain ⟨i, hi⟩ := List.getElem?_of_mem he
        obtain ⟨cur', h', _⟩ := h6 i e hi hH
        exact ⟨cur', h'⟩
    · exact ⟨⟨cur, (hf.block e.g (lt_of_block hc) hH).trans hc⟩, hn⟩

theorem WMid.addL {Rep : World → Nat → (Nat → Prop) → St → Prop} (P : PSpec Rep) {W w7 : World} {wd : Nat} {x c : Bool → Nat} {F G : Bool → Nat → Prop} {s : Bool → St} {lv mv : Value} {L M : List Ent} (h : WMid Rep W wd x c F G s lv mv L M) (e : Ent) (o : Obj) {g7 cap7 : Nat} (hgrow : (W.alloc o).grownBy w7 lv.ownBlock)
    (hown : w7.ownsRow 0 22 1 (.slice (some ⟨g7, 0, none⟩) (L.length + 1) cap7) (L.length + 1) (L.map entV ++ [entV e])) (hat : lv.ownBlock = some g7 ∨ g7 = W.heap.size + 1) (hem : Marked W e.g e.n (-1000 - (L.length : Int))) (hen : e.n ≤ 1000000) (heo : ∀ b k, F b k ∨ G b k → e.g ≠ k) :
    (WMid Rep (w7.setCell ⟨wd, 4, none⟩ (.slice (some ⟨g7, 0, none⟩) (L.length + 1) cap7)) wd x c F G s (.slice (some ⟨g7, 0, none⟩) (L.length + 1) cap7) mv (L ++ [e]) M ∧ Fr (fun k => k = wd ∨ lv.ownBlock = some k) W (w7.setCell ⟨wd, 4, none⟩ (.slice (some ⟨g7, 0, none⟩) (L.length + 1) cap7))) ∧ (lv.ownBlock = some g7 ∨ W.heap.size ≤ g7) := by
  have hF7 : Fr (fun k => lv.ownBlock = some k) W w7 := ((Fr.refl _ W).alloc o).grown hgrow (by intro k e; exact Or.inl e)
  have hFV : Fr (fun k => k = wd ∨ lv.ownBlock = some k) W (w7.setCell ⟨wd, 4, none⟩ (.slice (some ⟨g7, 0, none⟩) (L.length + 1) cap7)) := Fr.setCell (F := fun k => k = wd ∨ lv.ownBlock = some k) (hF7.mono (fun k _ h => Or.inr h)) (p := ⟨wd, 4, none⟩) (Or.inl (Or.inl rfl)) _
  have hwl := lt_of_block h.blk
  have hrl : ∀ k, lv.ownBlock = some k → k ≠ wd ∧ k < W.heap.size := fun k hk => by
    obtain ⟨cur, hc⟩ := row_type h.ll hk
    exact ⟨block_ne hc h.blk (by decide), lt_of_block hc⟩
  have hrm : ∀ k, mv.ownBlock = some k → k ≠ wd ∧ k < W.heap.size := fun k hk => by
    obtain ⟨cur, hc⟩ := row_type h.mm hk
    exact ⟨block_ne hc h.blk (by decide), lt_of_block hc⟩
  have hint : ∀ k : Nat, (∃ cur, W.heap[k]? = some (.cells cur 3 (0, 0))) → k ≠ wd ∧ lv.ownBlock ≠ some k ∧ mv.ownBlock ≠ some k := by
    rintro k ⟨cur, hc⟩
    refine ⟨block_ne hc h.blk (by decide), fun hk => ?_, fun hk => ?_⟩
    · obtain ⟨cur', hc'⟩ := row_type h.ll hk
      exact (block_ne hc hc' (by decide)) rfl
    · obtain ⟨cur', hc'⟩ := row_type h.mm hk
      exact (block_ne hc hc' (by decide)) rfl
  have hei : ∃ cur, W.heap[e.g]? = some (.cells cur 3 (0, 0)) := by
    obtain ⟨cur, hc, _⟩ := hem
    exact ⟨cur, hc⟩
  have hnH : ∀ k : Nat, (∃ cur, W.heap[k]? = some (.cells cur 3 (0, 0))) → ¬ (k = wd ∨ lv.ownBlock = some k) := fun k hk e => by
    have := hint k hk
    rcases e with e | e
    · exact this.1 e
    · exact this.2.1 e
  have hg7 : g7 ≠ wd := by
    rcases hat with e | e
    · exact (hrl g7 e).1
    · omega
  have hlt : ∀ b k, F b k ∨ G b k → k < W.heap.size := fun b k hk => hk.elim (P.lt (h.side b).p k) ((h.side b).r.lt k)
  have hcell : ∀ k : Nat, (∃ cur : Array Value, W.heap[k]? = some (Obj.cells cur 3 (0, 0))) → (w7.setCell ⟨wd, 4, none⟩ (.slice (some ⟨g7, 0, none⟩) (L.length + 1) cap7)).heap[k]? = W.heap[k]? := fun k hk => by
    obtain ⟨cur, hc⟩ := hk
    exact hFV.block k (lt_of_block hc) (hnH k ⟨cur, hc⟩)
  have hwd7 : w7.heap[wd]? = W.heap[wd]? := hF7.block wd hwl (fun e => (hrl wd e).1 rfl)
  refine ⟨⟨⟨?_, fun b => (h.side b).fr P hFV (fun k hk e => ?_) (fun k hk e => ?_), h.dis, ?_, ?_, ?_, ?_, ?_, ?_, ?_⟩, hFV⟩, hat.imp id (fun h => by omega)⟩
  · rw [heap_setCell_same w7 wd 4 _ 38 _ (hwd7.trans h.blk)]
    rfl
  · rcases e with e | e
    · exact (h.out b k (Or.inl hk)).1 e
    · exact (fun hk => (h.out b k hk).2.1) (Or.inl hk) e
  · rcases e with e | e
    · exact (h.out b k (Or.inr hk)).1 e
    · exact (fun hk => (h.out b k hk).2.1) (Or.inr hk) e
  · intro b k hk
    obtain ⟨o1, o2, o3, o4, o5⟩ := h.out b k hk
    have hk2 := hlt b k hk
    have hg : (Value.slice (some ⟨g7, 0, none⟩) (L.length + 1) cap7).ownBlock ≠ some k := by
      intro e
      simp [Value.ownBlock] at e
      rcases hat with e' | e'
      · rw [e] at e'; exact o2 e'
      · omega
    exact ⟨o1, hg, o3, fun en he => by
      rcases List.mem_append.1 he with h' | h'
      · exact o4 en h'
      · simp at h'; subst h'; exact heo b k hk, o5⟩
  · have := ownsRow_setCell_other hown (a := ⟨wd, 4, none⟩) (by simpa [Value.ownBlock] using hg7) (.slice (some ⟨g7, 0, none⟩) (L.length + 1) cap7)
    rw [List.map_append, List.length_append]
    exact this
  · exact row_fr h.mm hFV (fun k hk e => by
      rcases e with e | e
      · exact (hrm k hk).1 e
      · exact h.sep k e hk)
  · intro i en he j hj
    by_cases hi : i < L.length
    · rw [List.getElem?_append_left hi] at he
      rw [World.cell?_of_block (hcell en.g (h.ty en (Or.inl (List.mem_of_getElem? he))).1)]
      exact h.lm i en he j hj
    · rw [List.getElem?_append_right (by omega)] at he
      have h0 : i - L.length = 0 := by
        have := (List.getElem?_eq_some_iff.1 he).1
        simp at this; omega
      rw [h0] at he
      simp at he
      subst he
      have hiL : i = L.length := by omega
      subst hiL
      rw [World.cell?_of_block (hcell e.g hei)]
      exact hem.cell hj
  · intro i en he j hj
    rw [World.cell?_of_block (hcell en.g (h.ty en (Or.inr (List.mem_of_getElem? he))).1)]
    exact h.mo i en he j hj
  · intro en he
    have hold : (en ∈ L ∨ en ∈ M) ∨ en = e := by
      rcases he with he | he
      · rcases List.mem_append.1 he with h' | h'
        · exact Or.inl (Or.inl h')
        · exact Or.inr (by simpa using h')
      · exact Or.inl (Or.inr he)
    rcases hold with h' | h'
    · obtain ⟨h1, h2⟩ := h.ty en h'
      obtain ⟨cur, hc⟩ := h1
      exact ⟨⟨cur, (hcell en.g ⟨cur, hc⟩).trans hc⟩, h2⟩
    · subst h'
      obtain ⟨cur, hc⟩ := hei
      exact ⟨⟨cur, (hcell en.g ⟨cur, hc⟩).trans hc⟩, hen⟩
  · intro k hk
    simp [Value.ownBlock] at hk
    subst hk
    intro hk
    rcases hat with e' | e'
    · exact h.sep _ e' hk
    · have := (hrm _ hk).2; omega

theorem WMid.addM {Rep : World → Nat → (Nat → Prop) → St → Prop} (P : PSpec Rep) {W w7 : World} {wd : Nat} {x c : Bool → Nat} {F G : Bool → Nat → Prop} {s : Bool → St} {lv mv : Value} {L M : List Ent} (h : WMid Rep W wd x c F G s lv mv L M) (e : Ent) (o : Obj) {g7 cap7 : Nat} (hgrow : (W.alloc o).grownBy w7 mv.ownBlock)
    (hown : w7.ownsRow 0 22 1 (.slice (some ⟨g7, 0, none⟩) (M.length + 1) cap7) (M.length + 1) (M.map entV ++ [entV e])) (hat : mv.ownBlock = some g7 ∨ g7 = W.heap.size + 1) (hem : Marked W e.g e.n (-1000 - ((M.length / 3 : Nat) : Int))) (hen : e.n ≤ 1000000) (heo : ∀ b k, F b k ∨ G b k → e.g ≠ k) :
    (WMid Rep (w7.setCell ⟨wd, 5, none⟩ (.slice (some ⟨g7, 0, none⟩) (M.length + 1) cap7)) wd x c F G s lv (.slice (some ⟨g7, 0, none⟩) (M.length + 1) cap7) L (M ++ [e]) ∧ Fr (fun k => k = wd ∨ mv.ownBlock = some k) W (w7.setCell ⟨wd, 5, none⟩ (.slice (some ⟨g7, 0, none⟩) (M.length + 1) cap7))) ∧ (mv.ownBlock = some g7 ∨ W.heap.size ≤ g7) := by
  have hF7 : Fr (fun k => mv.ownBlock = some k) W w7 := ((Fr.refl _ W).alloc o).grown hgrow (by intro k e; exact Or.inl e)
  have hFV : Fr (fun k => k = wd ∨ mv.ownBlock = some k) W (w7.setCell ⟨wd, 5, none⟩ (.slice (some ⟨g7, 0, none⟩) (M.length + 1) cap7)) := Fr.setCell (F := fun k => k = wd ∨ mv.ownBlock = some k) (hF7.mono (fun k _ h => Or.inr h)) (p := ⟨wd, 5, none⟩) (Or.inl (Or.inl rfl)) _
  have hwl := lt_of_block h.blk
  have hrl : ∀ k, lv.ownBlock = some k → k ≠ wd ∧ k < W.heap.size := fun k hk => by
    obtain ⟨cur, hc⟩ := row_type h.ll hk
    exact ⟨block_ne hc h.blk (by decide), lt_of_block hc⟩
  have hrm : ∀ k, mv.ownBlock = some k → k ≠ wd ∧ k < W.heap.size := fun k hk => by
    obtain ⟨cur, hc⟩ := row_type h.mm hk
    exact ⟨block_ne hc h.blk (by decide), lt_of_block hc⟩
  have hint : ∀ k : Nat, (∃ cur, W.heap[k]? = some (.cells cur 3 (0, 0))) → k ≠ wd ∧ lv.ownBlock ≠ some k ∧ mv.ownBlock ≠ some k := by
    rintro k ⟨cur, hc⟩
    refine ⟨block_ne hc h.blk (by decide), fun hk => ?_, fun hk => ?_⟩
    · obtain ⟨cur', hc'⟩ := row_type h.ll hk
      exact (block_ne hc hc' (by decide)) rfl
    · obtain ⟨cur', hc'⟩ := row_type h.mm hk
      exact (block_ne hc hc' (by decide)) rfl
  have hei : ∃ cur, W.heap[e.g]? = some (.cells cur 3 (0, 0)) := by
    obtain ⟨cur, hc, _⟩ := hem
    exact ⟨cur, hc⟩
  have hnH : ∀ k : Nat, (∃ cur, W.heap[k]? = some (.cells cur 3 (0, 0))) → ¬ (k = wd ∨ mv.ownBlock = some k) := fun k hk e => by
    have := hint k hk
    rcases e with e | e
    · exact this.1 e
    · exact this.2.2 e
  have hg7 : g7 ≠ wd := by
    rcases hat with e | e
    · exact (hrm g7 e).1
    · omega
  have hlt : ∀ b k, F b k ∨ G b k → k < W.heap.size := fun b k hk => hk.elim (P.lt (h.side b).p k) ((h.side b).r.lt k)
  have hcell : ∀ k : Nat, (∃ cur : Array Value, W.heap[k]? = some (Obj.cells cur 3 (0, 0))) → (w7.setCell ⟨wd, 5, none⟩ (.slice (some ⟨g7, 0, none⟩) (M.length + 1) cap7)).heap[k]? = W.heap[k]? := fun k hk => by
    obtain ⟨cur, hc⟩ := hk
    exact hFV.block k (lt_of_block hc) (hnH k ⟨cur, hc⟩)
  have hwd7 : w7.heap[wd]? = W.heap[wd]? := hF7.block wd hwl (fun e => (hrm wd e).1 rfl)
  refine ⟨⟨⟨?_, fun b => (h.side b).fr P hFV (fun k hk e => ?_) (fun k hk e => ?_), h.dis, ?_, ?_, ?_, ?_, ?_, ?_, ?_⟩, hFV⟩, hat.imp id (fun h => by omega)⟩
  · rw [heap_setCell_same w7 wd 5 _ 38 _ (hwd7.trans h.blk)]
    rfl
  · rcases e with e | e
    · exact (h.out b k (Or.inl hk)).1 e
    · exact (fun hk => (h.out b k hk).2.2.1) (Or.inl hk) e
  · rcases e with e | e
    · exact (h.out b k (Or.inr hk)).1 e
    · exact (fun hk => (h.out b k hk).2.2.1) (Or.inr hk) e
  · intro b k hk
    obtain ⟨o1, o2, o3, o4, o5⟩ := h.out b k hk
    have hk2 := hlt b k hk
    have hg : (Value.slice (some ⟨g7, 0, none⟩) (M.length + 1) cap7).ownBlock ≠ some k := by
      intro e
      simp [Value.ownBlock] at e
      rcases hat with e' | e'
      · rw [e] at e'; exact o3 e'
      · omega
    exact ⟨o1, o2, hg, o4, fun en he => by
      rcases List.mem_append.1 he with h' | h'
      · exact o5 en h'
      · simp at h'; subst h'; exact heo b k hk⟩
  · exact row_fr h.ll hFV (fun k hk e => by
      rcases e with e | e
      · exact (hrl k hk).1 e
      · exact h.sep k hk e)
  · have := ownsRow_setCell_other hown (a := ⟨wd, 5, none⟩) (by simpa [Value.ownBlock] using hg7) (.slice (some ⟨g7, 0, none⟩) (M.length + 1) cap7)
    rw [List.map_append, List.length_append]
    exact this
  · intro i en he j hj
    rw [World.cell?_of_block (hcell en.g (h.ty en (Or.inl (List.mem_of_getElem? he))).1)]
    exact h.lm i en he j hj
  · intro i en he j hj
    by_cases hi : i < M.length
    · rw [List.getElem?_append_left hi] at he
      rw [World.cell?_of_block (hcell en.g (h.ty en (Or.inr (List.mem_of_getElem? he))).1)]
      exact h.mo i en he j hj
    · rw [List.getElem?_append_right (by omega)] at he
      have h0 : i - M.length = 0 := by
        have := (List.getElem?_eq_some_iff.1 he).1
        simp at this; omega
      rw [h0] at he
      simp at he
      subst he
      have hiL : i = M.length := by omega
      subst hiL
      rw [World.cell?_of_block (hcell e.g hei)]
      exact hem.cell hj
  · intro en he
    have hold : (en ∈ L ∨ en ∈ M) ∨ en = e := by
      rcases he with he | he
      · exact Or.inl (Or.inl he)
      · rcases List.mem_append.1 he with h' | h'
        · exact Or.inl (Or.inr h')
        · exact Or.inr (by simpa using h')
    rcases hold with h' | h'
    · obtain ⟨h1, h2⟩ := h.ty en h'
      obtain ⟨cur, hc⟩ := h1
      exact ⟨⟨cur, (hcell en.g ⟨cur, hc⟩).trans hc⟩, h2⟩
    · subst h'
      obtain ⟨cur, hc⟩ := hei
      exact ⟨⟨cur, (hcell en.g ⟨cur, hc⟩).trans hc⟩, hen⟩
  · intro k hk hk2
    simp [Value.ownBlock] at hk2
    subst hk2
    rcases hat with e' | e'
    · exact h.sep _ hk e'
    · have := (hrl _ hk).2; omega

end Go.Proofs.YtpaakikgfojplaaGreat

