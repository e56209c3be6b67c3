import Derived.Test.YtpaakikgfojplabCBookStep
import Derived.Test.YtpaakikgfojplabCM20
import Derived.Test.YtpaakikgfojplabCM6
/-
  MATHEMATICS for Followed: two states that are the same but for the peers' points.
-/
namespace Go.Proofs.Ytpaakikgfojplab
open Go.RowKit Num Bk Tx
set_option linter.unusedVariables false

/-- The same but for the peers' points. -/
def Alike (s t : St) : Prop := t = { s with pts := t.pts }

theorem Alike.refl (s : St) : Alike s s := rfl
theorem Alike.par {s t : St} (h : Alike s t) : t.par = s.par := by rw [h]
theorem Alike.all {s t : St} (h : Alike s t) : t.all = s.all := by rw [h]
theorem Alike.keep {s t : St} (h : Alike s t) : t.keep = s.keep := by rw [h]
theorem Alike.err {s t : St} (h : Alike s t) (p : Int) (g : Hdr) : offerErr t p g = offerErr s p g := by rw [h]; rfl
theorem Alike.num {s t : St} (h : Alike s t) (p : Int) (g : Hdr) : offerId t p g = offerId s p g := by rw [h]; rfl
theorem Alike.there {s t : St} (h : Alike s t) (p : Int) (g : Hdr) : Bk.there t p g = Bk.there s p g := by rw [h]; rfl
theorem Alike.miss {s t : St} (h : Alike s t) (p : Int) : missing t p = missing s p := by rw [h]; rfl
theorem alike_set (s t : St) (h : Alike s t) (n : Int) (k : Nat) : Alike s (Bk.setPt t n k) := by
  unfold Alike Bk.setPt at *
  rw [h]
theorem alike_offer {s t : St} (h : Alike s t) (p : Int) (g : Hdr) : Alike (offer s p g) (offer t p g) := by
  unfold Alike at *
  rw [h]
  unfold offer
  rw [show offerErr { s with pts := t.pts } p g = offerErr s p g from rfl]
  split <;> rfl

theorem pt_set {t : St} (hi : Inv t) {n k : Nat} (hn : n < 4) : ptAt (Bk.setPt t (n : Int) k) (n : Int) = k := by
  unfold ptAt Bk.setPt
  simp only [Int.toNat_natCast]
  have := hi.pts
  simp [List.getD, this, hn]

/-- A header that is made has a text. -/
theorem made_text {s : St} (hv : Inv s) {id : Nat} (hk : id ∈ s.keep) {h : Hdr} (hm : MadeOk s id h) : low h = false ∧ Fits h := by
  have ht := hm.turn
  have hI := hm.is
  have hs : 0 ≤ h.slot ∧ 0 ≤ h.pool := by
    unfold turnErr at ht
    split at ht
    · rename_i e; exact absurd ht e
    · split at ht
      · simp at ht
      · rename_i e1
        split at ht
        · simp at ht
        · rename_i e2
          have e1' : slotOk s ((id : Int)).toNat h.slot = true := by simpa using e1
          have e2' : poolOk s h.pool = true := by simpa using e2
          simp only [slotOk, poolOk, Bool.and_eq_true, decide_eq_true_eq] at e1' e2'
          exact ⟨e1'.1.1, e2'.1⟩
  have hf := hm.frm
  have hd := hm.dst
  simp only [poolOk, Bool.and_eq_true, decide_eq_true_eq] at hf hd
  have hc := count_bounds hv h.pool id (inv_lt hv hk)
  have hcc := hm.count
  refine ⟨?_, ?_⟩
  · have hp : 0 ≤ h.proof := by rw [hm.proof]; unfold proofAt drawN; exact Int.emod_nonneg _ (by decide)
    have := hm.am0
    simp [low, flds]
    omega
  · intro x hx
    simp only [flds, List.mem_cons, List.not_mem_nil, or_false] at hx
    rcases hx with rfl | rfl | rfl | rfl | rfl | rfl | rfl
    · exact hI.a0.2
    · exact hI.a1.2
    · exact hI.a2.2
    · exact hI.a3.2
    · exact hI.a4.2
    · exact hI.a5.2
    · exact hI.a6.2

end Go.Proofs.Ytpaakikgfojplab

/-
  MATHEMATICS and FRAME for Followed: what a header that is told leaves.
-/
namespace Go.Proofs.Ytpaakikgfojplab
open Go.RowKit Num Bk Tx
set_option linter.unusedVariables false

theorem BookAt.of_same {w : World} {b xc gs cs ga ca : Nat} {s t : St} (h : BookAt w b xc gs cs ga ca s) (e1 : t.par = s.par) (e2 : t.all = s.all) : BookAt w b xc gs cs ga ca t := by
  obtain ⟨h1, h2, h3⟩ := h
  exact ⟨by rw [e1, e2]; exact h1, by rw [e1]; exact h2, by rw [e2]; exact h3⟩
theorem Duo.close {Rep : World → Nat → (Nat → Prop) → St → Prop} {w wr : World} {b xc gs cs ga ca : Nat} {F : Nat → Prop} {sb sc : St} {j : Ix} {L : List (Nat × Obj)} (h : Duo Rep w wr ⟨b, xc, gs, cs, ga, ca, F, sb, sc⟩ j L) (e1 : sc.par = sb.par) (e2 : sc.all = sb.all) : Duo Rep w wr ⟨b, xc, gs, cs, ga, ca, F, sc, sc⟩ j L :=
  ⟨⟨h.one.book.of_same e1 e2, h.one.rep, h.one.inv, h.one.n1, h.one.n2, h.one.n3⟩, h.two, h.dis, h.bel, h.o1, h.o2, h.loc⟩

/-- What Back leaves, of a header that is kept. -/
theorem fol_back {s t : St} (hal : Alike s t) {pid m : Nat} (hk : pid ∈ s.keep) (hm : m < 4) : backE t (m : Int) (pid : Int) = 0 ∧ backS t (m : Int) (pid : Int) = Bk.setPt t (m : Int) pid := by
  have hp : peerOk (m : Int) = true := by simp [peerOk]; omega
  have he : backE t (m : Int) (pid : Int) = 0 := by
    unfold backE
    rw [hp, hal.miss]
    have : missing s (pid : Int) = 0 := by unfold missing; rw [(has_nat _ _).2 hk]; rfl
    rw [this]
    rfl
  refine ⟨he, ?_⟩
  unfold backS
  rw [if_pos he, Int.toNat_natCast]

/-- What Next leaves. -/
structure FolR (s t1 t2 : St) (m pid : Nat) (h : Hdr) (NI NE PV : Int) : Prop where
  cases : (offerErr s (pid : Int) h = 0 ∧ NE = 0 ∧ NI = offerId s (pid : Int) h ∧ PV = offerId s (pid : Int) h ∧ t2.par = s.par ∧ t2.all = t1.all ++ [⟨h, pid⟩] ∧ Alike (offer s (pid : Int) h) t2) ∨
    (offerErr s (pid : Int) h = 10 ∧ NE = 0 ∧ NI = ((Bk.there s (pid : Int) h : Nat) : Int) ∧ PV = ((Bk.there s (pid : Int) h : Nat) : Int) ∧ Alike s t2) ∨
    (offerErr s (pid : Int) h = 11 ∧ NE = 11 ∧ NI = 0 ∧ PV = (pid : Int) ∧ Alike s t2)

theorem fol_next {s t : St} (hv : Inv s) (hi : Inv t) (hal : Alike s t) {pid m : Nat} (hk : pid ∈ s.keep) (hm : m < 4) {h : Hdr} (hmo : MadeOk s pid h) (hl : low h = false) (hf : Fits h) :
    FolR s (Bk.setPt t (m : Int) pid) (nextS (Bk.setPt t (m : Int) pid) (m : Int) (enc h)) m pid h (nextI (Bk.setPt t (m : Int) pid) (m : Int) (enc h)) (nextE (Bk.setPt t (m : Int) pid) (m : Int) (enc h)) (pointV (nextS (Bk.setPt t (m : Int) pid) (m : Int) (enc h)) (m : Int)) := by
  have hp : peerOk (m : Int) = true := by simp [peerOk]; omega
  have ha1 := alike_set s t hal (m : Int) pid
  have hl1 : pid < t.all.length := by rw [hal.all]; exact inv_lt hv hk
  have hi1 := inv_setPt hi (m : Int) hl1
  have hpt := pt_set hi (n := m) (k := pid) hm
  generalize Bk.setPt t (m : Int) pid = t1 at *
  have hS : nextS t1 (m : Int) (enc h) = toldS t1 (m : Int) h := by unfold nextS; rw [hp, dec_enc hl hf]; rfl
  have hI : nextI t1 (m : Int) (enc h) = toldI t1 (m : Int) h := by unfold nextI; rw [hp, dec_enc hl hf]; rfl
  have hE : nextE t1 (m : Int) (enc h) = toldE t1 (m : Int) h := by unfold nextE; rw [hp, dec_enc hl hf]; rfl
  have hPV : ∀ u : St, pointV u (m : Int) = ((ptAt u (m : Int) : Nat) : Int) := fun u => by unfold pointV; rw [hp]; rfl
  rw [hS, hI, hE, hPV]
  have hte : toldE t1 (m : Int) h = if offerErr s (pid : Int) h = 10 then 0 else offerErr s (pid : Int) h := by unfold toldE; rw [hpt, ha1.err]
  have htk : takeId t1 (pid : Int) h = if offerErr s (pid : Int) h = 10 then ((Bk.there s (pid : Int) h : Nat) : Int) else offerId s (pid : Int) h := by unfold takeId; rw [ha1.err, ha1.there, ha1.num]
  have hcs : offerErr s (pid : Int) h = 0 ∨ offerErr s (pid : Int) h = 10 ∨ offerErr s (pid : Int) h = 11 := by
    rw [hmo.err]
    unfold wantErr
    repeat' split
    all_goals simp
  constructor
  rcases hcs with e | e | e
  · left
    have e0 : toldE t1 (m : Int) h = 0 := by rw [hte, e]; rfl
    have hoi : offerId s (pid : Int) h = ((s.all.length : Nat) : Int) := by unfold offerId; rw [if_pos e]
    have hts : toldS t1 (m : Int) h = Bk.setPt (offer t1 (pid : Int) h) (m : Int) (s.all.length) := by
      unfold toldS
      rw [if_pos e0, hpt, htk, e, hoi]
      rfl
    have hof : offer t1 (pid : Int) h = taken t1 pid h := by unfold offer; rw [if_pos (by rw [ha1.err]; exact e), Int.toNat_natCast]
    refine ⟨e, e0, ?_, ?_, ?_, ?_, ?_⟩
    · unfold toldI
      rw [if_pos e0, hpt, htk, e]
      rfl
    · rw [hts, pt_set (inv_offer hi1 _ _) hm, hoi]
    · rw [hts, hof]
      show t1.par = s.par
      exact ha1.par
    · rw [hts, hof]
      rfl
    · rw [hts]
      exact alike_set _ _ (alike_offer ha1 _ _) _ _
  · right; left
    have e0 : toldE t1 (m : Int) h = 0 := by rw [hte, e]; rfl
    have hno : offer t1 (pid : Int) h = t1 := by unfold offer; rw [if_neg (by rw [ha1.err, e]; decide)]
    have hts : toldS t1 (m : Int) h = Bk.setPt t1 (m : Int) (Bk.there s (pid : Int) h) := by
      unfold toldS
      rw [if_pos e0, hpt, htk, e, hno]
      rfl
    refine ⟨e, e0, ?_, ?_, ?_⟩
    · unfold toldI
      rw [if_pos e0, hpt, htk, e]
      rfl
    · rw [hts, pt_set hi1 hm]
    · rw [hts]
      exact alike_set _ _ ha1 _ _
  · right; right
    have e0 : toldE t1 (m : Int) h = 11 := by rw [hte, e]; rfl
    have hts : toldS t1 (m : Int) h = t1 := by
      unfold toldS
      rw [if_neg (by rw [e0]; decide)]
    refine ⟨e, e0, ?_, ?_, ?_⟩
    · unfold toldI
      rw [if_neg (by rw [e0]; decide)]
    · rw [hts, hpt]
    · rw [hts]
      exact ha1

end Go.Proofs.Ytpaakikgfojplab

/-
  PLAIN MATHEMATICS: the program's page of a header, held against what goes with the header.
-/
namespace Go.Proofs.Ytpaakikgfojplab.Bk
open Num
set_option linter.unusedVariables false

structure Pg where
  slot : Int
  stakes : Nat → Int
  counts : Nat → Int
  running : Int
  nonce : Int
  before : Nat → Int
  long : Nat → Int

def pageOf (p : Par) (all : List Itm) (id : Nat) : Pg :=
  { slot := if id = 0 then -1 else (hd all id).slot
    stakes := fun j => (stakesAt p all id).getD j 0
    counts := fun j => countAt all (j : Int) id
    running := runAt p all id
    nonce := if id = 0 then 0 else runAt p all (lastAt p all ((hd all id).slot / p.epoch) id)
    before := fun j => if id = 0 then 0 else (stakesAt p all (lastAt p all ((hd all id).slot / p.epoch) id)).getD j 0
    long := fun j => if id = 0 then 0 else (stakesAt p all (lastAt p all ((hd all id).slot / p.epoch - 1) id)).getD j 0 }

def epochOf (p : Par) (slot : Int) : Int := if slot = -1 then -2 else slot / p.epoch
def nonceIn (p : Par) (g : Pg) (e : Int) : Int := if epochOf p g.slot < e then g.running else g.nonce
def stakesIn (p : Par) (g : Pg) (e : Int) : Nat → Int := if epochOf p g.slot < e - 1 then g.stakes else if epochOf p g.slot < e then g.before else g.long

def upd (f : Nat → Int) (k : Nat) (v : Int) : Nat → Int := fun j => if k = j then v else f j
def movedF (f : Nat → Int) (h : Hdr) : Nat → Int :=
  upd (upd f h.frm.toNat (f h.frm.toNat - h.amount)) h.dst.toNat ((upd f h.frm.toNat (f h.frm.toNat - h.amount)) h.dst.toNat + h.amount)

def afterPg (p : Par) (g : Pg) (h : Hdr) : Pg :=
  { slot := h.slot
    stakes := movedF g.stakes h
    counts := upd g.counts h.pool.toNat h.count
    running := runS p.epoch g.running h
    nonce := nonceIn p g (epochOf p h.slot)
    before := stakesIn p g (epochOf p h.slot + 1)
    long := stakesIn p g (epochOf p h.slot) }

theorem epochOf_nat (p : Par) {slot : Int} (h : 0 ≤ slot) : epochOf p slot = slot / p.epoch := by
  unfold epochOf; rw [if_neg (by omega)]

theorem last_self (p : Par) {all : List Itm} (ht : Tree all) (e : Int) {i : Nat} (h : i = 0 ∨ (hd all i).slot / p.epoch < e) : lastAt p all e i = i := by
  rcases Nat.eq_zero_or_pos i with h0 | h0
  · subst h0; rw [lastAt_zero]
  · rcases h with h | h
    · omega
    · rw [lastAt_step p e ht h0, if_pos h]

theorem nonceIn_eq {s : St} (hi : Inv s) {i : Nat} (hl : i < s.all.length) (e : Int) (he : 0 ≤ e) (h : i = 0 ∨ (hd s.all i).slot / s.par.epoch ≤ e) :
    nonceIn s.par (pageOf s.par s.all i) e = runAt s.par s.all (lastAt s.par s.all e i) := by
  unfold nonceIn
  have hs := slot_bounds hi hl
  rcases Nat.eq_zero_or_pos i with h0 | h0
  · subst h0
    rw [if_pos (by simp [pageOf, epochOf]; omega), lastAt_zero]; rfl
  · have e1 : (pageOf s.par s.all i).slot = (hd s.all i).slot := by simp [pageOf]; omega
    rw [e1, epochOf_nat _ hs.1]
    have h1 : (hd s.all i).slot / s.par.epoch ≤ e := by omega
    split
    · rename_i hlt
      rw [last_self s.par hi.tree e (Or.inr hlt)]; rfl
    · rename_i hlt
      have : (hd s.all i).slot / s.par.epoch = e := by omega
      show (if i = 0 then 0 else _) = _
      rw [if_neg (by omega), this]

theorem stakesIn_eq {s : St} (hi : Inv s) {i : Nat} (hl : i < s.all.length) (e : Int) (he : 0 ≤ e) (h : i = 0 ∨ (hd s.all i).slot / s.par.epoch ≤ e) :
    stakesIn s.par (pageOf s.par s.all i) e = fun j => (stakesAt s.par s.all (lastAt s.par s.all (e - 1) i)).getD j 0 := by
  unfold stakesIn
  have hs := slot_bounds hi hl
  rcases Nat.eq_zero_or_pos i with h0 | h0
  · subst h0
    rw [if_pos (by simp [pageOf, epochOf]; omega), lastAt_zero]; rfl
  · have e1 : (pageOf s.par s.all i).slot = (hd s.all i).slot := by simp [pageOf]; omega
    rw [e1, epochOf_nat _ hs.1]
    have h1 : (hd s.all i).slot / s.par.epoch ≤ e := by omega
    split
    · rename_i hlt
      rw [last_self s.par hi.tree (e - 1) (Or.inr hlt)]; rfl
    · split
      · have : (hd s.all i).slot / s.par.epoch = e - 1 := by omega
        funext j
        show (if i = 0 then 0 else _) = _
        rw [if_neg (by omega), this]
      · have : (hd s.all i).slot / s.par.epoch = e := by omega
        funext j
        show (if i = 0 then 0 else _) = _
        rw [if_neg (by omega), this]

theorem movedF_eq (l : List Int) (h : Hdr) (h1 : h.frm.toNat < l.length) (h2 : h.dst.toNat < l.length) : movedF (fun j => l.getD j 0) h = fun j => (moveS l h).getD j 0 := by
  funext j
  rw [moveS_at l h h1 h2]
  unfold movedF upd
  simp only []
  by_cases e1 : h.dst.toNat = j
  · rw [if_pos e1, if_pos e1]
    by_cases e2 : h.frm.toNat = j
    · rw [if_pos (by omega), if_pos e2, e2]
    · rw [if_neg (by omega), if_neg e2, e1]; omega
  · rw [if_neg e1, if_neg e1]
    by_cases e2 : h.frm.toNat = j
    · rw [if_pos e2, if_pos e2, e2]; omega
    · rw [if_neg e2, if_neg e2]; omega

theorem pageOf_old {all : List Itm} (ht : Tree all) {x : Itm} (h0 : 0 < all.length) (h : x.par < all.length) (p : Par) {i : Nat} (hi : i < all.length) : pageOf p (all ++ [x]) i = pageOf p all i := by
  have hlt : ∀ e, lastAt p all e i < all.length := fun e => by have := line_le ht i _ (lastAt_mem p ht e i); omega
  unfold pageOf
  rw [hd_old hi, lastAt_old ht h0 h p _ hi, lastAt_old ht h0 h p _ hi, stakesAt_old ht h0 h p hi, runAt_old ht h0 h p hi, runAt_old ht h0 h p (hlt _), stakesAt_old ht h0 h p (hlt _), stakesAt_old ht h0 h p (hlt _)]
  congr 1
  funext j
  rw [countAt_old ht h0 h _ hi]

/-- The page of a header that came is what the program makes of its parent's. -/
theorem page_step {s : St} (hi : Inv s) {i : Nat} (h0 : 0 < i) (hl : i < s.all.length) : pageOf s.par s.all i = afterPg s.par (pageOf s.par s.all (pa s.all i)) (hd s.all i) := by
  have ho := hi.hdrs i h0 hl
  have hpl := inv_pa hi h0 hl
  have ep := hi.par.e1
  have hep : 0 ≤ (hd s.all i).slot / s.par.epoch := Int.ediv_nonneg ho.slot0 (by omega)
  have hle : pa s.all i = 0 ∨ (hd s.all (pa s.all i)).slot / s.par.epoch ≤ (hd s.all i).slot / s.par.epoch := by
    rcases ho.slot2 with h | h
    · exact Or.inl h
    · exact Or.inr (Int.ediv_le_ediv (by omega) (by omega))
  have hst := stakes_ok hi _ hpl
  have f0 := ho.frm0
  have f1 := ho.frm1
  have d0 := ho.dst0
  have d1 := ho.dst1
  have hn := nonceIn_eq hi hpl _ hep hle
  have hb := stakesIn_eq hi hpl ((hd s.all i).slot / s.par.epoch + 1) (by omega) (by omega)
  have hg := stakesIn_eq hi hpl _ hep hle
  have hE := epochOf_nat s.par ho.slot0
  unfold afterPg
  rw [hE, hn, hb, hg]
  unfold pageOf
  rw [if_neg (by omega), if_neg (by omega), runAt_step s.par hi.tree h0, stakesAt_step s.par hi.tree h0, lastAt_step s.par _ hi.tree h0, if_neg (by omega), lastAt_step s.par _ hi.tree h0, if_neg (by omega)]
  congr 1
  · rw [movedF_eq _ _ (by rw [hst.len]; omega) (by rw [hst.len]; omega)]
  · funext j
    rw [countAt_step _ hi.tree h0]
    unfold countS upd
    have := ho.pool0
    by_cases e : (hd s.all i).pool = (j : Int)
    · rw [if_pos e, if_pos (by omega)]
    · rw [if_neg e, if_neg (by omega)]
  · funext j
    rw [if_neg (by omega), show (hd s.all i).slot / s.par.epoch + 1 - 1 = (hd s.all i).slot / s.par.epoch by omega]
  · funext j
    rw [if_neg (by omega)]

end Go.Proofs.Ytpaakikgfojplab.Bk

