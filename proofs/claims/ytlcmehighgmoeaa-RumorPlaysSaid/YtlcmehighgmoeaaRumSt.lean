/- The landed queue, as a law sees it. -/
import Derived.Test.YtlcmehighgmoeaaRumTake
namespace Go.Proofs.Ytlcmehighgmoeaa
open Go Go.RowKit

theorem nodup_le {l m : List Nat} (h : l.Nodup) (hs : ∀ x ∈ l, x ∈ m) : l.length ≤ m.length := by
  induction l generalizing m with
  | nil => simp
  | cons x l ih =>
    have hx : x ∈ m := hs x (by simp)
    rw [List.nodup_cons] at h
    have := ih (m := m.erase x) h.2 (fun y hy => by
      have hne : y ≠ x := fun e => h.1 (e ▸ hy)
      exact (List.mem_erase_of_ne hne).2 (hs y (by simp [hy])))
    rw [List.length_erase_of_mem hx] at this
    have hp : 0 < m.length := List.length_pos_of_mem hx
    simp only [List.length_cons]
    omega

/-- A queue's list: each node once, claims that may be and say something, told less than often. -/
structure Fine (often : Nat) (R : List Td) : Prop where
  once : Once R
  good : ∀ t ∈ R, mayK t.c = true ∧ nothingK t.c = false ∧ t.n < often
  pos : 1 ≤ often
  le : often ≤ 20
theorem Fine.node {often : Nat} {R : List Td} (h : Fine often R) {t : Td} (ht : t ∈ R) : 0 ≤ t.c.n ∧ t.c.n < 8 := by
  have := (h.good t ht).1
  simp only [mayK, mayB, decide_eq_true_eq] at this
  exact this.1
theorem Fine.len {often : Nat} {R : List Td} (h : Fine often R) : R.length ≤ 8 := by
  have := nodup_le (l := R.map fun t => t.c.n.toNat) (m := List.range 8) (by
    rw [List.Nodup, List.pairwise_map]
    refine List.Pairwise.imp_of_mem ?_ h.once
    intro a b ha hb hab e
    have h1 := h.node ha
    have h2 := h.node hb
    exact hab (by omega)) (fun x hx => by
    rw [List.mem_map] at hx
    obtain ⟨t, ht, rfl⟩ := hx
    have := h.node ht
    rw [List.mem_range]
    omega)
  simpa using this
theorem Fine.perm {often : Nat} {R R' : List Td} (h : Fine often R) (hp : R.Perm R') : Fine often R' := ⟨once_perm hp h.once, fun t ht => h.good t (hp.symm.subset ht), h.pos, h.le⟩
theorem Fine.nil {often : Nat} (h1 : 1 ≤ often) (h2 : often ≤ 20) : Fine often [] := ⟨List.Pairwise.nil, fun t ht => by simp at ht, h1, h2⟩

theorem putOf_bad {L : List Td} {c : Cl} (h : mayK c = false ∨ nothingK c = true) : putOf L c = (L, false) := by unfold putOf; rw [if_pos h]
theorem putOf_new {L : List Td} {c : Cl} (hm : mayK c = true) (hn : nothingK c = false) (h : hasOf L c.n = none) : putOf L c = (L ++ [⟨c, 0⟩], true) := by
  have hf : L.findIdx? (fun t => t.c.n == c.n) = none := by
    rw [List.findIdx?_eq_none_iff]
    unfold hasOf at h
    rw [List.find?_eq_none] at h
    intro x hx
    simpa using h x hx
  unfold putOf
  rw [if_neg (by rw [hm, hn]; simp), hf]
theorem putOf_old {L : List Td} {c : Cl} {t : Td} (hm : mayK c = true) (hn : nothingK c = false) (h : hasOf L c.n = some t) : ∃ k, L[k]? = some t ∧ t.c.n = c.n ∧ (∀ j, j < k → ∀ u, L[j]? = some u → u.c.n ≠ c.n) ∧ putOf L c = if 0 ≤ cmpK t.c c then (L, false) else (L.set k ⟨c, 0⟩, true) := by
  rcases find_ix L c.n with ⟨h0, _⟩ | ⟨k, t', h0, hk, hix, hn'⟩
  · rw [h0] at h; cases h
  · rw [h0] at h
    obtain rfl := Option.some.inj h
    cases hf : L.findIdx? (fun t => t.c.n == c.n) with
    | none => exfalso; simp [atIx, hf] at hix <;> omega
    | some k' =>
      have : k' = k := by simp [atIx, hf] at hix; omega
      subst this
      refine ⟨k', hk, hn', fun j hj u hu => ?_, ?_⟩
      · rw [List.findIdx?_eq_some_iff_getElem] at hf
        obtain ⟨hlt, h1, h2⟩ := hf
        obtain ⟨hjl, rfl⟩ := List.getElem?_eq_some_iff.1 hu
        simpa using h2 j hj
      · unfold putOf
        rw [if_neg (by rw [hm, hn]; simp), hf]
        simp only [hk]
theorem once_set {L : List Td} (h : Once L) {k : Nat} {t u : Td} (hk : L[k]? = some t) (hn : u.c.n = t.c.n) : Once (L.set k u) := by
  unfold Once at *
  rw [List.pairwise_iff_getElem] at *
  intro i j hi hj hij
  rw [List.length_set] at hi hj
  obtain ⟨hkl, hke⟩ := List.getElem?_eq_some_iff.1 hk
  have := h i j hi hj hij
  rw [List.getElem_set, List.getElem_set]
  split
  · rename_i e
    subst e
    split
    · omega
    · rw [hn, ← hke]; exact this
  · split
    · rename_i e
      subst e
      rw [hn, ← hke]; exact this
    · exact this
theorem Fine.put {often : Nat} {R : List Td} (h : Fine often R) (c : Cl) : Fine often (putOf R c).1 := by
  by_cases hbad : mayK c = false ∨ nothingK c = true
  · rw [putOf_bad hbad]; exact h
  · have hm : mayK c = true := by cases hm : mayK c <;> simp_all
    have hn : nothingK c = false := by cases hn : nothingK c <;> simp_all
    cases hf : hasOf R c.n with
    | none =>
      rw [putOf_new hm hn hf]
      refine ⟨?_, fun t ht => ?_, h.pos, h.le⟩
      · unfold Once
        rw [List.pairwise_append]
        refine ⟨h.once, by simp, fun a ha b hb => ?_⟩
        obtain rfl : b = ⟨c, 0⟩ := by simpa using hb
        unfold hasOf at hf
        rw [List.find?_eq_none] at hf
        simpa using hf a ha
      · rcases List.mem_append.1 ht with h1 | h1
        · exact h.good t h1
        · obtain rfl : t = ⟨c, 0⟩ := by simpa using h1
          exact ⟨hm, hn, h.pos⟩
    | some t =>
      obtain ⟨k, hk, hn', _, he⟩ := putOf_old hm hn hf
      rw [he]
      split
      · exact h
      · refine ⟨once_set h.once hk hn'.symm, fun u hu => ?_, h.pos, h.le⟩
        rcases List.mem_or_eq_of_mem_set hu with h1 | rfl
        · exact h.good u h1
        · exact ⟨hm, hn, h.pos⟩
theorem backOf_mem {often : Nat} {O : List Td} {t : Td} (h : t ∈ backOf often O) : t.n < often ∧ ∃ u ∈ O, t.c = u.c ∧ t.n = u.n + 1 := by
  unfold backOf at h
  rw [List.mem_filter, List.mem_map] at h
  obtain ⟨⟨u, hu, rfl⟩, h2⟩ := h
  exact ⟨by simpa using h2, u, hu, rfl, rfl⟩
theorem once_backOf {often : Nat} {O : List Td} (h : Once O) : Once (backOf often O) := by
  unfold backOf Once
  refine List.Pairwise.sublist List.filter_sublist ?_
  rw [List.pairwise_map]
  exact h
theorem Fine.take {often : Nat} {R O rem R' : List Td} (h : Fine often R) (hp : Picked R O rem) (hr : R'.Perm (rem ++ backOf often O)) : Fine often R' := by
  have ho := once_perm hp.perm.symm h.once
  unfold Once at ho
  rw [List.pairwise_append] at ho
  refine Fine.perm (R := rem ++ backOf often O) ⟨?_, fun t ht => ?_, h.pos, h.le⟩ hr.symm
  · unfold Once
    rw [List.pairwise_append]
    refine ⟨ho.2.1, once_backOf ho.1, fun a ha b hb => ?_⟩
    obtain ⟨_, u, hu, he, _⟩ := backOf_mem hb
    rw [he]
    exact fun e => ho.2.2 u hu a ha e.symm
  · rcases List.mem_append.1 ht with h1 | h1
    · exact h.good t (hp.perm.subset (List.mem_append_right _ h1))
    · obtain ⟨hlt, u, hu, he, _⟩ := backOf_mem h1
      have := h.good u (hp.perm.subset (List.mem_append_left _ hu))
      rw [he]
      exact ⟨this.1, this.2.1, hlt⟩

/-- A queue that a call has made itself: nothing that was there in W0 has turned; it does not reach the blocks of G. -/
def QS (W0 : World) (G : List Nat) (q often : Nat) (R : List Td) (W : World) : Prop :=
  ∃ F, RumQ q often R W F ∧ Below W0.heap.size W0 W ∧ (∀ k, F k → W0.heap.size ≤ k ∧ k ∉ G) ∧ (∀ k ∈ G, k < W.heap.size) ∧ IsHeap lessT R.length R ∧ Fine often R
def Keeps (G : List Nat) (W W' : World) : Prop := W.heap.size ≤ W'.heap.size ∧ ∀ k ∈ G, W'.heap[k]? = W.heap[k]?
theorem Keeps.cell {G : List Nat} {W W' : World} (h : Keeps G W W') {b : Nat} (hb : b ∈ G) (j : Nat) : W'.cell? ⟨b, j, none⟩ = W.cell? ⟨b, j, none⟩ := by simp [World.cell?, h.2 b hb]
theorem Keeps.frozen {G : List Nat} {W W' : World} (h : Keeps G W W') {b : Nat} (hb : b ∈ G) (j : Nat) : W'.frozen? ⟨b, j, none⟩ = W.frozen? ⟨b, j, none⟩ := by simp [World.frozen?, h.2 b hb]

section
variable {W0 : World} {G : List Nat} {q often : Nat} {R : List Td} {W : World}
theorem QS.below (h : QS W0 G q often R W) : Below W0.heap.size W0 W := by obtain ⟨F, _, hb, _⟩ := h; exact hb
theorem QS.fine (h : QS W0 G q often R W) : Fine often R := by obtain ⟨F, _, _, _, _, _, hf⟩ := h; exact hf
theorem QS.ge (h : QS W0 G q often R W) : W0.heap.size ≤ q ∧ q < W.heap.size ∧ q ∉ G := by
  obtain ⟨F, ⟨v, hq, hr, hF⟩, hb, hs, _⟩ := h
  exact ⟨(hs q ((hF q).2 (.inl rfl))).1, (Array.getElem?_eq_some_iff.1 hq).1, (hs q ((hF q).2 (.inl rfl))).2⟩
/-- New blocks alone; or blocks of G were written. -/
theorem QS.keep (h : QS W0 G q often R W) {W' : World} (hb : Below W0.heap.size W0 W') (hs : W.heap.size ≤ W'.heap.size) (hk : ∀ k, k < W.heap.size → k ∉ G → W'.heap[k]? = W.heap[k]?) : QS W0 G q often R W' := by
  obtain ⟨F, hr, _, hF, hG, hh, hf⟩ := h
  have hlt := (rumQ_owns q often R).lt W F hr
  exact ⟨F, (rumQ_owns q often R).kept W W' F hr hs fun k hk' => hk k (hlt k hk') (hF k hk').2, hb, hF, fun k hk' => Nat.lt_of_lt_of_le (hG k hk') hs, hh, hf⟩
theorem QS.later (h : QS W0 G q often R W) (x : Later W) : QS W0 G q often R x.w := h.keep (below_later h.below h.below.size x) x.below.size fun k hk _ => x.below.block k hk
theorem QS.wider (h : QS W0 G q often R W) {b : Nat} {W' : World} (hb : Below W.heap.size W W') (h1 : W.heap.size ≤ b) (h2 : b < W'.heap.size) : QS W0 (b :: G) q often R W' := by
  obtain ⟨F, hr, _, hF, hG, hh, hf⟩ := h.later ⟨W', hb⟩
  obtain ⟨F, hr0, hb0, hF, hG0, hh, hf⟩ := h
  have hlt := (rumQ_owns q often R).lt W F hr0
  refine ⟨F, (rumQ_owns q often R).kept W W' F hr0 hb.size fun k hk => hb.block k (hlt k hk), (hb0.trans (hb.mono hb0.size)), fun k hk => ⟨(hF k hk).1, ?_⟩, fun k hk => ?_, hh, hf⟩
  · rw [List.mem_cons]
    rintro (rfl | h)
    · have := hlt _ hk; omega
    · exact (hF k hk).2 h
  · rcases List.mem_cons.1 hk with rfl | h
    · exact h2
    · exact hG k h
theorem QS.narrower (h : QS W0 G q often R W) {G' : List Nat} (hg : ∀ b ∈ G', b ∈ G) : QS W0 G' q often R W := by
  obtain ⟨F, hr, hb, hF, hG, hh, hf⟩ := h
  exact ⟨F, hr, hb, fun k hk => ⟨(hF k hk).1, fun h => (hF k hk).2 (hg k h)⟩, fun k hk => hG k (hg k hk), hh, hf⟩

theorem qs_new (W0 : World) (G : List Nat) (x : Int) (k : Nat) (hk : min (max x 1) 20 = (k : Int)) (W : World) (hb : Below W0.heap.size W0 W) (hG : ∀ b ∈ G, b < W.heap.size) :
    Calls Try.prog 9 #[.int .i64 x] W fun e W' => e = .returned (.pointer (some ⟨W.heap.size, 0, none⟩)) ∧ QS W0 G W.heap.size k [] W' ∧ Below W.heap.size W W' :=
  (newR_any x W k hk).mono fun e W' ⟨he, hq, hb'⟩ => ⟨he, ⟨_, hq, hb.trans (hb'.mono hb.size), fun j hj => by subst hj; exact ⟨hb.size, fun h => by have := hG _ h; omega⟩, fun j hj => Nat.lt_of_lt_of_le (hG j hj) hb'.size, fun k hk hkn => by simp at hkn, Fine.nil (by omega) (by omega)⟩, hb'⟩
theorem qs_put (h : QS W0 G q often R W) (c : Cl) :
    Calls Try.prog 14 #[.pointer (some ⟨q, 0, none⟩), c.val] W fun e W' => ∃ R', e = .returned (.bool (putOf R c).2) ∧ R'.Perm (putOf R c).1 ∧ QS W0 G q often R' W' ∧ Keeps G W W' := by
  obtain ⟨F, hr, hb, hF, hG, hh, hf⟩ := h
  have hlt := (rumQ_owns q often R).lt W F hr
  have hlen := hf.len
  refine (putR_any q often R c W F hr hh (by omega)).mono ?_
  rintro e W' ⟨he, R', hp, hh', F', hr', hfr, hs⟩
  refine ⟨R', he, hp, ⟨F', hr', ?_, fun k hk => ?_, fun k hk => Nat.lt_of_lt_of_le (hG k hk) hfr.size, hh', (hf.put c).perm hp.symm⟩, hfr.size, fun k hk => hfr.block k (hG k hk) fun h => (hF k h).2 hk⟩
  · exact hb.trans (hfr.below hb.size fun j hj => (hF j hj).1)
  · rcases hs k hk with h1 | h1
    · exact hF k h1
    · exact ⟨Nat.le_trans hb.size h1, fun h => by have := hG k h; omega⟩
theorem qs_take (h : QS W0 G q often R W) (n : Int) :
    Calls Try.prog 12 #[.pointer (some ⟨q, 0, none⟩), .int .i64 n] W fun e W' => ∃ u O rem R', e = .returned u ∧ Picked R O rem ∧ (O.length : Int) = min (max n 0) R.length ∧ W'.ownsRow W.heap.size 28 3 u O.length (cellsOf (O.map (·.c))) ∧ R'.Perm (rem ++ backOf often O) ∧ QS W0 G q often R' W' ∧ Keeps G W W' := by
  obtain ⟨F, hr, hb, hF, hG, hh, hf⟩ := h
  have hlen := hf.len
  refine (takeR_any q often R n W F hr hh (by omega) hf.once (fun t ht => by have := (hf.good t ht).2.2; have := hf.le; omega)).mono ?_
  rintro e W' ⟨u, O, rem, R', F', he, hp, hc, hrow, _, hh', hpm, hr', hfr, hs⟩
  refine ⟨u, O, rem, R', he, hp, hc, hrow, hpm, ⟨F', hr', ?_, fun k hk => ?_, fun k hk => Nat.lt_of_lt_of_le (hG k hk) hfr.size, hh', hf.take hp hpm⟩, hfr.size, fun k hk => hfr.block k (hG k hk) fun h => (hF k h).2 hk⟩
  · exact hb.trans (hfr.below hb.size fun j hj => (hF j hj).1)
  · rcases hs k hk with h1 | h1
    · exact hF k h1
    · exact ⟨Nat.le_trans hb.size h1, fun h => by have := hG k h; omega⟩
theorem qs_len (h : QS W0 G q often R W) : Gives Try.prog 16 #[.pointer (some ⟨q, 0, none⟩)] W (.int .i64 R.length) := by
  obtain ⟨F, hr, _⟩ := h
  exact lenR_any q often R W F hr
theorem qs_has (h : QS W0 G q often R W) (n : Int) : Gives Try.prog 17 #[.pointer (some ⟨q, 0, none⟩), .int .i64 n] W (hasV (hasOf R n)) := by
  obtain ⟨F, hr, hb, hF, hG, hh, hf⟩ := h
  have hlen := hf.len
  exact hasR_any q often R n W F hr (by omega)
end
end Go.Proofs.Ytlcmehighgmoeaa
