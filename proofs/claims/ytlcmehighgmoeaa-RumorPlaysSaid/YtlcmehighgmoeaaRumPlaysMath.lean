/- Two queues side by side: the landed one and the reference's. -/
import Derived.Test.YtlcmehighgmoeaaRumBack
import Derived.Test.YtlcmehighgmoeaaRumOftenMath
import Derived.Test.YtlcmehighgmoeaaRefTake
import Derived.Test.YtlcmehighgmoeaaSame
namespace Go.Proofs.Ytlcmehighgmoeaa
open Go Go.RowKit

theorem hasOf_perm {R L : List Td} (h : R.Perm L) (ho : Once R) (n : Int) : hasOf R n = hasOf L n := by
  cases hR : hasOf R n with
  | none =>
    symm
    rw [hasOf_none] at hR ⊢
    exact fun t ht => hR t (h.symm.subset ht)
  | some t =>
    obtain ⟨ht, hn⟩ := hasOf_mem hR
    have := hasOf_once (once_perm h ho) (h.subset ht)
    rw [hn] at this
    exact this.symm
theorem set_perm' {t x : Td} : ∀ {R : List Td} {k : Nat}, R[k]? = some t → (R.set k x).Perm (x :: R.eraseIdx k) ∧ R.Perm (t :: R.eraseIdx k)
  | [], _, hk => by simp at hk
  | y :: R, 0, hk => by
    obtain rfl : y = t := by simpa using hk
    simp
  | y :: R, k + 1, hk => by
    obtain ⟨h1, h2⟩ := set_perm' (x := x) (R := R) (k := k) (by simpa using hk)
    simp only [List.set_cons_succ, List.eraseIdx_cons_succ]
    exact ⟨(h1.cons y).trans (List.Perm.swap _ _ _), (h2.cons y).trans (List.Perm.swap _ _ _)⟩
theorem putOf_perm {R L : List Td} (h : R.Perm L) (ho : Once R) (c : Cl) : (putOf R c).2 = (putOf L c).2 ∧ (putOf R c).1.Perm (putOf L c).1 := by
  by_cases hbad : mayK c = false ∨ nothingK c = true
  · rw [putOf_bad hbad, putOf_bad hbad]; exact ⟨rfl, h⟩
  · have hm : mayK c = true := by cases hm : mayK c <;> simp_all
    have hn : nothingK c = false := by cases hn : nothingK c <;> simp_all
    have hh := hasOf_perm h ho c.n
    cases hR : hasOf R c.n with
    | none =>
      rw [putOf_new hm hn hR, putOf_new hm hn (hh.symm.trans hR)]
      exact ⟨rfl, h.append_right _⟩
    | some t =>
      obtain ⟨k, hk, _, _, e⟩ := putOf_old hm hn hR
      obtain ⟨k', hk', _, _, e'⟩ := putOf_old hm hn (hh.symm.trans hR)
      rw [e, e']
      split
      · exact ⟨rfl, h⟩
      · obtain ⟨a1, a2⟩ := set_perm' (x := ⟨c, 0⟩) hk
        obtain ⟨b1, b2⟩ := set_perm' (x := ⟨c, 0⟩) hk'
        have := ((a2.symm.trans h).trans b2).cons_inv
        exact ⟨rfl, a1.trans ((this.cons _).trans b1.symm)⟩
theorem rest_perm {often : Nat} {L O : List Td} {tk : Int → Bool} (ho : Once L) (hn : ∀ t ∈ L, t.n < often) (hp : Picked L O (leftOf L tk)) : (restOf often tk L).Perm (leftOf L tk ++ backOf often O) := by
  have hon := once_perm hp.perm.symm ho
  unfold Once at hon
  rw [List.pairwise_append] at hon
  have hO : ∀ t ∈ O, tk t.c.n = true := fun t ht => by
    cases e : tk t.c.n with
    | true => rfl
    | false =>
      have hl : t ∈ leftOf L tk := by
        unfold leftOf
        rw [List.mem_filter]
        exact ⟨hp.perm.subset (List.mem_append_left _ ht), by simp [e]⟩
      exact absurd rfl (hon.2.2 t ht t hl)
  have hl : ∀ t ∈ leftOf L tk, tk t.c.n = false ∧ t.n < often := fun t ht => by
    have h1 := ht
    unfold leftOf at h1
    rw [List.mem_filter] at h1
    exact ⟨by simpa using h1.2, hn t h1.1⟩
  have h1 : restOf often tk (O ++ leftOf L tk) = restOf often tk O ++ restOf often tk (leftOf L tk) := by simp [restOf]
  have h2 : restOf often tk O = backOf often O := by
    unfold restOf backOf
    congr 1
    exact List.map_congr_left fun t ht => by unfold toldUp; rw [if_pos (hO t ht)]
  have h3 : restOf often tk (leftOf L tk) = leftOf L tk := by
    unfold restOf
    have e : (leftOf L tk).map (toldUp tk) = leftOf L tk := by
      have : (leftOf L tk).map (toldUp tk) = (leftOf L tk).map id := List.map_congr_left fun t ht => by unfold toldUp; rw [if_neg (by simp [(hl t ht).1])]; rfl
      rw [this, List.map_id]
    rw [e, List.filter_eq_self]
    exact fun t ht => by simpa using (hl t ht).2
  have h4 := restOf_perm (often := often) (tk := tk) hp.perm.symm
  rw [h1, h2, h3] at h4
  exact h4.trans List.perm_append_comm

/-- Both queues: the same claims, told as often; neither reaches the other one's blocks, nor those of G. -/
def PS (w : World) (G : List Nat) (q m often : Nat) (R L : List Td) (W : World) : Prop :=
  ∃ F H, RumQ q often R W F ∧ RefQ m often L W H ∧ (∀ k, F k → ¬ H k) ∧ Below w.heap.size w W ∧ (∀ k, F k → w.heap.size ≤ k ∧ k ∉ G) ∧ (∀ k, H k → w.heap.size ≤ k ∧ k ∉ G) ∧ (∀ k ∈ G, k < W.heap.size) ∧ R.Perm L ∧ IsHeap lessT R.length R ∧ Fine often R
/-- The landed queue has been taken from, or put into; the reference's has not. -/
def PMid (w : World) (G : List Nat) (q m often : Nat) (R' L : List Td) (W : World) (H : Nat → Prop) : Prop :=
  ∃ F, RumQ q often R' W F ∧ RefQ m often L W H ∧ (∀ k, F k → ¬ H k) ∧ Below w.heap.size w W ∧ (∀ k, F k → w.heap.size ≤ k ∧ k ∉ G) ∧ (∀ k, H k → w.heap.size ≤ k ∧ k ∉ G) ∧ (∀ k ∈ G, k < W.heap.size) ∧ IsHeap lessT R'.length R' ∧ Fine often R'
section
variable {w : World} {G : List Nat} {q m often : Nat} {R L : List Td} {W : World}
theorem PS.below (h : PS w G q m often R L W) : Below w.heap.size w W := by obtain ⟨F, H, _, _, _, hb, _⟩ := h; exact hb
theorem PS.perm (h : PS w G q m often R L W) : R.Perm L := by obtain ⟨F, H, _, _, _, _, _, _, _, hp, _⟩ := h; exact hp
theorem PS.fine (h : PS w G q m often R L W) : Fine often R := by obtain ⟨F, H, _, _, _, _, _, _, _, _, _, hf⟩ := h; exact hf
theorem PS.later (h : PS w G q m often R L W) (x : Later W) : PS w G q m often R L x.w := by
  obtain ⟨F, H, hr, hl, ha, hb, hF, hH, hG, hp, hh, hf⟩ := h
  exact ⟨F, H, (rumQ_owns q often R).kept W x.w F hr x.below.size fun k hk => x.below.block k ((rumQ_owns q often R).lt W F hr k hk), (refQ_owns m often L).kept W x.w H hl x.below.size fun k hk => x.below.block k ((refQ_owns m often L).lt W H hl k hk), ha, below_later hb hb.size x, hF, hH, fun k hk => Nat.lt_of_lt_of_le (hG k hk) x.below.size, hp, hh, hf⟩
theorem PS.wider (h : PS w [] q m often R L W) {b : Nat} {W' : World} (hb : Below W.heap.size W W') (h1 : W.heap.size ≤ b) (h2 : b < W'.heap.size) : PS w [b] q m often R L W' := by
  obtain ⟨F, H, hr, hl, ha, hbb, hF, hH, hG, hp, hh, hf⟩ := h
  have hlt := (rumQ_owns q often R).lt W F hr
  have hlt' := (refQ_owns m often L).lt W H hl
  refine ⟨F, H, (rumQ_owns q often R).kept W W' F hr hb.size fun k hk => hb.block k (hlt k hk), (refQ_owns m often L).kept W W' H hl hb.size fun k hk => hb.block k (hlt' k hk), ha, hbb.trans (hb.mono hbb.size), fun k hk => ⟨(hF k hk).1, ?_⟩, fun k hk => ⟨(hH k hk).1, ?_⟩, fun k hk => ?_, hp, hh, hf⟩
  · have := hlt k hk; simp; omega
  · have := hlt' k hk; simp; omega
  · obtain rfl : k = b := by simpa using hk
    exact h2
theorem PS.narrower {b : Nat} (h : PS w [b] q m often R L W) : PS w [] q m often R L W := by
  obtain ⟨F, H, hr, hl, ha, hbb, hF, hH, hG, hp, hh, hf⟩ := h
  exact ⟨F, H, hr, hl, ha, hbb, fun k hk => ⟨(hF k hk).1, by simp⟩, fun k hk => ⟨(hH k hk).1, by simp⟩, fun k hk => by simp at hk, hp, hh, hf⟩

/-- A step of the landed queue leaves the reference's as it was. -/
theorem ps_mid {R' : List Td} {W' : World} {F F' H : Nat → Prop} (_hr : RumQ q often R W F) (hl : RefQ m often L W H) (ha : ∀ k, F k → ¬ H k) (hb : Below w.heap.size w W) (hF : ∀ k, F k → w.heap.size ≤ k ∧ k ∉ G) (hH : ∀ k, H k → w.heap.size ≤ k ∧ k ∉ G) (hG : ∀ k ∈ G, k < W.heap.size)
    (hr' : RumQ q often R' W' F') (hfr : Fr F W W') (hs : ∀ k, F' k → F k ∨ W.heap.size ≤ k) (hh : IsHeap lessT R'.length R') (hf : Fine often R') : PMid w G q m often R' L W' H := by
  have hlt' := (refQ_owns m often L).lt W H hl
  refine ⟨F', hr', (refQ_owns m often L).kept W W' H hl hfr.size fun k hk => hfr.block k (hlt' k hk) fun h => ha k h hk, fun k hk hk' => ?_, hb.trans (hfr.below hb.size fun j hj => (hF j hj).1), fun k hk => ?_, hH, fun k hk => Nat.lt_of_lt_of_le (hG k hk) hfr.size, hh, hf⟩
  · rcases hs k hk with h | h
    · exact ha k h hk'
    · have := hlt' k hk'; omega
  · rcases hs k hk with h | h
    · exact hF k h
    · exact ⟨Nat.le_trans hb.size h, fun hg => by have := hG k hg; omega⟩
theorem ps_end {L' : List Td} {W' : World} {H : Nat → Prop} (h : PMid w G q m often R L W H) (he : QEnd m often L' H W W') (hp : R.Perm L') : PS w G q m often R L' W' := by
  obtain ⟨F, hr, hl, ha, hb, hF, hH, hG, hh, hf⟩ := h
  obtain ⟨H', hl', hfr, hs⟩ := he
  have hlt := (rumQ_owns q often R).lt W F hr
  refine ⟨F, H', (rumQ_owns q often R).kept W W' F hr hfr.size fun k hk => hfr.block k (hlt k hk) (ha k hk), hl', fun k hk hk' => ?_, hb.trans (hfr.below hb.size fun j hj => (hH j hj).1), hF, fun k hk => ?_, fun k hk => Nat.lt_of_lt_of_le (hG k hk) hfr.size, hp, hh, hf⟩
  · rcases hs k hk' with h | h
    · exact ha k hk h
    · have := hlt k hk; omega
  · rcases hs k hk with h | h
    · exact hH k h
    · exact ⟨Nat.le_trans hb.size h, fun hg => by have := hG k hg; omega⟩
theorem PMid.keeps {W' : World} {L' : List Td} {H : Nat → Prop} (h : PMid w G q m often R L W H) (he : QEnd m often L' H W W') : Keeps G W W' := by
  obtain ⟨F, hr, hl, ha, hb, hF, hH, hG, hh, hf⟩ := h
  obtain ⟨H', hl', hfr, hs⟩ := he
  exact ⟨hfr.size, fun k hk => hfr.block k (hG k hk) fun e => (hH k e).2 hk⟩

/-- What was taken of the landed queue. -/
def TakeMid (w : World) (G : List Nat) (q m often : Nat) (R L : List Td) (n : Int) (u : Value) (W : World) : Prop :=
  ∃ O rem R' H, PMid w G q m often R' L W H ∧ W.ownsRow 0 28 3 u O.length (cellsOf (O.map (·.c))) ∧ (∀ b, u.ownBlock = some b → ¬ H b) ∧ Picked R O rem ∧ (O.length : Int) = min (max n 0) R.length ∧ R'.Perm (rem ++ backOf often O) ∧ R.Perm L ∧ Fine often R
theorem ps_take1 (h : PS w G q m often R L W) (n : Int) : Calls Try.prog 12 #[.pointer (some ⟨q, 0, none⟩), .int .i64 n] W fun e W' => ∃ u, e = .returned u ∧ TakeMid w G q m often R L n u W' ∧ Keeps G W W' := by
  obtain ⟨F, H, hr, hl, ha, hb, hF, hH, hG, hp, hh, hf⟩ := h
  have hlen := hf.len
  have hlt' := (refQ_owns m often L).lt W H hl
  refine (takeR_any q often R n W F hr hh (by omega) hf.once (fun t ht => by have := (hf.good t ht).2.2; have := hf.le; omega)).mono ?_
  rintro e W' ⟨u, O, rem, R', F', he, hpk, hc, hrow, _, hh', hpm, hr', hfr, hs⟩
  refine ⟨u, he, ⟨O, rem, R', H, ps_mid hr hl ha hb hF hH hG hr' hfr hs hh' (hf.take hpk hpm), ownsRow_weaken hrow (Nat.zero_le _), fun b hbb hHb => ?_, hpk, hc, hpm, hp, hf⟩, hfr.size, fun k hk => hfr.block k (hG k hk) fun e => (hF k e).2 hk⟩
  have := (hrow.lt b hbb).1
  have := hlt' b hHb
  omega
theorem ps_take2 {n : Int} {u : Value} (h : TakeMid w G q m often R L n u W) : Calls Try.prog 13 #[.pointer (some ⟨m, 0, none⟩), .int .i64 n] W fun e W' => ∃ v, e = .returned v ∧ (∃ l : List Cl, l.length ≤ 1000 ∧ ListAt W' u l ∧ ListAt W' v l) ∧ (∃ R' L', PS w G q m often R' L' W') ∧ Keeps G W W' := by
  obtain ⟨O, rem, R', H, hmid, hrow, hub, hpk, hc, hpm, hp, hf⟩ := h
  have hmid' := hmid
  obtain ⟨F, hr, hl, ha, hb, hF, hH, hG, hh, hf'⟩ := hmid
  have hfL := hf.perm hp
  have hlen := hfL.len
  have hlenO := hpk.perm.length_eq
  have hlenR := hf.len
  rw [List.length_append] at hlenO
  refine (take_any m often L n W H hl hlen (fun t ht => hfL.node ht) hfL.once (fun t ht => (hfL.good t ht).2.2) (by have := hf.le; omega)).mono ?_
  rintro e W' ⟨v, O2, tk, he, hpk2, hc2, hrow2, hend⟩
  have hpl := hp.length_eq
  obtain ⟨rfl, hrem⟩ := picked_unique O _ _ _ _ _ hpk hpk2 hp (by omega)
  have hkeep := hmid'.keeps hend
  refine ⟨v, he, ⟨O.map (·.c), by rw [List.length_map]; omega, ?_, ?_⟩, ⟨R', _, ps_end hmid' hend ?_⟩, hkeep⟩
  · obtain ⟨H', _, hfr, _⟩ := hend
    have h1 := row_keeps hrow (W' := W') fun g hg => hfr.block g (row_lt hrow g hg) (hub g hg)
    exact listAt_of_own (base := 0) (by rw [List.length_map]; exact h1)
  · exact listAt_of_own (base := W.heap.size) (by rw [List.length_map]; exact hrow2)
  · exact hpm.trans ((hrem.append_right _).trans (rest_perm hfL.once (fun t ht => (hfL.good t ht).2.2) hpk2).symm)
theorem ps_put1 (h : PS w G q m often R L W) (c : Cl) : Calls Try.prog 14 #[.pointer (some ⟨q, 0, none⟩), c.val] W fun e W' => e = .returned (.bool (putOf L c).2) ∧ (∃ R' H, R'.Perm (putOf L c).1 ∧ L.length ≤ 1000 ∧ PMid w G q m often R' L W' H) ∧ Keeps G W W' := by
  obtain ⟨F, H, hr, hl, ha, hb, hF, hH, hG, hp, hh, hf⟩ := h
  have hlen := hf.len
  have hpl := hp.length_eq
  obtain ⟨e1, e2⟩ := putOf_perm hp hf.once c
  refine (putR_any q often R c W F hr hh (by omega)).mono ?_
  rintro e W' ⟨he, R', hpm, hh', F', hr', hfr, hs⟩
  exact ⟨by rw [he, e1], ⟨R', H, hpm.trans e2, by omega, ps_mid hr hl ha hb hF hH hG hr' hfr hs hh' ((hf.put c).perm hpm.symm)⟩, hfr.size, fun k hk => hfr.block k (hG k hk) fun e => (hF k e).2 hk⟩
theorem ps_put2 {H : Nat → Prop} {R' : List Td} {c : Cl} (hp : R'.Perm (putOf L c).1) (hL : L.length ≤ 1000) (h : PMid w G q m often R' L W H) : Calls Try.prog 15 #[.pointer (some ⟨m, 0, none⟩), c.val] W fun e W' => e = .returned (.bool (putOf L c).2) ∧ (∃ R' L', PS w G q m often R' L' W') ∧ Keeps G W W' := by
  have h' := h
  obtain ⟨F, hr, hl, ha, hb, hF, hH, hG, hh, hf⟩ := h
  exact (put_any m often L c W H hl hL).mono fun e W' ⟨he, hend⟩ => ⟨he, ⟨R', _, ps_end h' hend hp⟩, h'.keeps hend⟩
theorem ps_len (h : PS w G q m often R L W) : Gives Try.prog 16 #[.pointer (some ⟨q, 0, none⟩)] W (.int .i64 L.length) := by
  have hp := h.perm
  obtain ⟨F, H, hr, _⟩ := h
  exact (lenR_any q often R W F hr).cast (by rw [hp.length_eq])
theorem ps_has (h : PS w G q m often R L W) (n : Int) : Gives Try.prog 17 #[.pointer (some ⟨q, 0, none⟩), .int .i64 n] W (hasV (hasOf L n)) := by
  have hp := h.perm
  have hf := h.fine
  obtain ⟨F, H, hr, _⟩ := h
  have hlen := hf.len
  exact (hasR_any q often R n W F hr (by omega)).cast (by rw [hasOf_perm hp hf.once])
theorem ps_at (h : PS w G q m often R L W) (n : Int) : Gives Try.prog 18 #[.pointer (some ⟨m, 0, none⟩), .int .i64 n] W (.int .i64 (atIx L n)) := by
  have hp := h.perm.length_eq
  have hf := h.fine.len
  obtain ⟨F, H, _, hl, _⟩ := h
  exact at_any m often L n W H hl (by omega)
theorem ps_cells (h : PS w G q m often R L W) : ∃ p cap, RefCells W m often L p cap := by
  obtain ⟨F, H, _, hl, _⟩ := h
  exact hl.cells
end
end Go.Proofs.Ytlcmehighgmoeaa
