/- Moments, without any program: kept sorted by moment and id, one of each id. -/
import Derived.WalkKit
namespace Go.Proofs.Ytcmidomgnbodiaa
open Go Go.RowKit

structure Mo where
  n : Int
  t : Int
def lessM (x y : Mo) : Bool := decide (x.t < y.t ∨ (x.t = y.t ∧ x.n < y.n))
theorem lessM_iff {x y : Mo} : lessM x y = true ↔ x.t < y.t ∨ (x.t = y.t ∧ x.n < y.n) := by simp [lessM]
theorem lessM_asym {x y : Mo} (h : lessM x y = true) : lessM y x = false := by
  rw [lessM_iff] at h
  simp only [lessM, decide_eq_false_iff_not]
  omega
theorem lessM_trans {x y z : Mo} (h : lessM x y = true) (k : lessM y z = true) : lessM x z = true := by
  rw [lessM_iff] at *
  omega
theorem lessM_total {x y : Mo} (h : x.n ≠ y.n) : lessM x y = true ∨ lessM y x = true := by
  rw [lessM_iff, lessM_iff]
  omega
theorem lessM_irrefl (x : Mo) : lessM x x = false := by simp [lessM]
def SortedM (L : List Mo) : Prop := L.Pairwise fun x y => lessM x y = true
def OnceM (L : List Mo) : Prop := L.Pairwise fun x y => x.n ≠ y.n
def okM (m : Mo) : Bool := decide ((0 ≤ m.n ∧ m.n ≤ 999) ∧ (0 ≤ m.t ∧ m.t ≤ 1099511627776))
structure FineM (L : List Mo) : Prop where
  sorted : SortedM L
  once : OnceM L
  ok : ∀ m ∈ L, okM m = true
def hasM (L : List Mo) (n : Int) : Option Mo := L.find? fun m => m.n == n
def cutM (L : List Mo) (n : Int) : List Mo := L.filter fun m => !(m.n == n)
def insM (L : List Mo) (m : Mo) : List Mo := L.takeWhile (fun x => lessM x m) ++ m :: L.dropWhile (fun x => lessM x m)
def setM (L : List Mo) (m : Mo) : List Mo := insM (cutM L m.n) m
def dueM (L : List Mo) (now : Int) : List Mo := L.filter fun m => decide (m.t ≤ now)
def restM (L : List Mo) (now : Int) : List Mo := L.filter fun m => decide (now < m.t)

theorem sorted_unique : ∀ {L M : List Mo}, SortedM L → SortedM M → L.Perm M → L = M
  | [], M, _, _, h => h.nil_eq
  | x :: L, [], _, _, h => by have := h.length_eq; simp at this
  | x :: L, y :: M, hL, hM, h => by
    have hx := List.pairwise_cons.1 hL
    have hy := List.pairwise_cons.1 hM
    have e : x = y := by
      rcases List.mem_cons.1 (h.subset (List.mem_cons_self)) with e | e
      · exact e
      · rcases List.mem_cons.1 (h.symm.subset (List.mem_cons_self)) with e' | e'
        · exact e'.symm
        · have h1 := hy.1 x e
          have h2 := hx.1 y e'
          rw [lessM_asym h1] at h2
          cases h2
    subst e
    rw [sorted_unique hx.2 hy.2 (List.Perm.cons_inv h)]
theorem FineM.nil : FineM [] := ⟨List.Pairwise.nil, List.Pairwise.nil, fun m h => by simp at h⟩
theorem FineM.sub {L M : List Mo} (h : FineM L) (hs : M.Sublist L) : FineM M := ⟨h.sorted.sublist hs, h.once.sublist hs, fun m hm => h.ok m (hs.subset hm)⟩
theorem FineM.cut {L : List Mo} (h : FineM L) (n : Int) : FineM (cutM L n) := h.sub List.filter_sublist
theorem FineM.rest {L : List Mo} (h : FineM L) (now : Int) : FineM (restM L now) := h.sub List.filter_sublist
theorem FineM.due {L : List Mo} (h : FineM L) (now : Int) : FineM (dueM L now) := h.sub List.filter_sublist
theorem insM_perm (L : List Mo) (m : Mo) : (insM L m).Perm (m :: L) := by
  unfold insM
  refine List.perm_middle.trans ?_
  rw [List.takeWhile_append_dropWhile]
theorem takeWhile_all {L : List Mo} {m x : Mo} (h : x ∈ L.takeWhile fun x => lessM x m) : lessM x m = true := List.all_eq_true.1 (List.all_takeWhile (p := fun x => lessM x m)) x h
theorem insM_sorted {L : List Mo} {m : Mo} (h : SortedM L) (hn : ∀ x ∈ L, x.n ≠ m.n) : SortedM (insM L m) := by
  unfold insM
  have h' := h
  unfold SortedM at *
  rw [← List.takeWhile_append_dropWhile (p := fun x => lessM x m) (l := L)] at h'
  rw [List.pairwise_append] at h' ⊢
  obtain ⟨h1, h2, h3⟩ := h'
  have hd : ∀ x ∈ L.dropWhile (fun x => lessM x m), lessM m x = true := by
    cases hdw : L.dropWhile (fun x => lessM x m) with
    | nil => intro x hx; simp at hx
    | cons y r =>
      have hy : lessM y m = false := by
        have := List.head?_dropWhile_not (p := fun x => lessM x m) L
        rw [hdw] at this
        simpa using this
      have hym : y ∈ L := (List.dropWhile_sublist (fun x => lessM x m)).subset (by rw [hdw]; exact List.mem_cons_self)
      have hmy : lessM m y = true := by
        rcases lessM_total (hn y hym) with h | h
        · rw [h] at hy; cases hy
        · exact h
      rw [hdw] at h2
      intro x hx
      rcases List.mem_cons.1 hx with rfl | hx
      · exact hmy
      · exact lessM_trans hmy ((List.pairwise_cons.1 h2).1 x hx)
  refine ⟨h1, List.pairwise_cons.2 ⟨hd, h2⟩, fun x hx y hy => ?_⟩
  rcases List.mem_cons.1 hy with rfl | hy
  · exact takeWhile_all hx
  · exact h3 x hx y hy
theorem cutM_ne {L : List Mo} {n : Int} {x : Mo} (h : x ∈ cutM L n) : x.n ≠ n := by
  unfold cutM at h
  rw [List.mem_filter] at h
  simpa using h.2
theorem once_perm' {L M : List Mo} (hp : L.Perm M) (h : OnceM L) : OnceM M := hp.pairwise (R := fun x y : Mo => x.n ≠ y.n) h (fun h => Ne.symm h)
theorem FineM.set {L : List Mo} (h : FineM L) {m : Mo} (hm : okM m = true) : FineM (setM L m) := by
  have hc := h.cut m.n
  have hp := insM_perm (cutM L m.n) m
  refine ⟨insM_sorted hc.sorted fun x hx => cutM_ne hx, once_perm' hp.symm (List.pairwise_cons.2 ⟨fun x hx => (cutM_ne hx).symm, hc.once⟩), fun x hx => ?_⟩
  rcases List.mem_cons.1 (hp.subset hx) with rfl | hx
  · exact hm
  · exact hc.ok x hx
theorem setM_perm (L : List Mo) (m : Mo) : (setM L m).Perm (m :: cutM L m.n) := insM_perm _ _
theorem cutM_perm {L M : List Mo} (h : L.Perm M) (n : Int) : (cutM L n).Perm (cutM M n) := h.filter _
theorem cut_none {L : List Mo} {n : Int} (h : hasM L n = none) : cutM L n = L := by
  unfold cutM
  rw [List.filter_eq_self]
  unfold hasM at h
  rw [List.find?_eq_none] at h
  intro x hx
  have := h x hx
  simpa using this
theorem hasM_mem {L : List Mo} {n : Int} {m : Mo} (h : hasM L n = some m) : m ∈ L ∧ m.n = n := ⟨List.mem_of_find?_eq_some h, by have := List.find?_some h; simpa using this⟩
theorem hasM_of {L : List Mo} (ho : OnceM L) {m : Mo} (hm : m ∈ L) : hasM L m.n = some m := by
  cases h : hasM L m.n with
  | none =>
    unfold hasM at h
    rw [List.find?_eq_none] at h
    have := h m hm
    simp at this
  | some u =>
    obtain ⟨hu, hn⟩ := hasM_mem h
    congr 1
    refine Classical.byContradiction fun e => ?_
    rw [OnceM, List.pairwise_iff_forall_sublist] at ho
    obtain ⟨i, hi, rfl⟩ := List.mem_iff_getElem.1 hu
    obtain ⟨j, hj, rfl⟩ := List.mem_iff_getElem.1 hm
    have ho' := List.pairwise_iff_forall_sublist.2 @ho
    rw [List.pairwise_iff_getElem] at ho'
    rcases Nat.lt_trichotomy i j with h1 | h1 | h1
    · exact ho' i j hi hj h1 hn
    · subst h1; exact e rfl
    · exact ho' j i hj hi h1 hn.symm
theorem hasM_perm {L M : List Mo} (hp : L.Perm M) (ho : OnceM L) (n : Int) : hasM L n = hasM M n := by
  cases h : hasM L n with
  | some m =>
    obtain ⟨hm, rfl⟩ := hasM_mem h
    exact (hasM_of (once_perm' hp ho) (hp.subset hm)).symm
  | none =>
    unfold hasM at h ⊢
    rw [List.find?_eq_none] at h
    symm
    rw [List.find?_eq_none]
    exact fun x hx => h x (hp.symm.subset hx)
/-- The one that is there, and the others. -/
theorem cut_split {L : List Mo} (ho : OnceM L) {n : Int} {m : Mo} (h : hasM L n = some m) : L.Perm (m :: cutM L n) := by
  obtain ⟨hm, rfl⟩ := hasM_mem h
  obtain ⟨s, t, rfl⟩ := List.append_of_mem hm
  have ho' := ho
  unfold OnceM at ho'
  rw [List.pairwise_append, List.pairwise_cons] at ho'
  obtain ⟨_, ⟨h2, _⟩, h3⟩ := ho'
  have e : cutM (s ++ m :: t) m.n = s ++ t := by
    unfold cutM
    rw [List.filter_append, List.filter_cons_of_neg (by simp)]
    congr 1
    · rw [List.filter_eq_self]
      intro x hx
      have := h3 x hx m List.mem_cons_self
      simpa using this
    · rw [List.filter_eq_self]
      intro x hx
      have := h2 x hx
      simpa using fun e => this e.symm
  rw [e]
  exact List.perm_middle
theorem nodup_le' {l m : List Nat} (h : l.Nodup) (hs : ∀ x ∈ l, x ∈ m) : l.length ≤ m.length := by
  induction l generalizing m with
  | nil => simp
  | cons x l ih =>
    have hx : x ∈ m := hs x (by simp)
    rw [List.nodup_cons] at h
    have := ih (m := m.erase x) h.2 (fun y hy => by
      have hne : y ≠ x := fun e => h.1 (e ▸ hy)
      exact (List.mem_erase_of_ne hne).2 (hs y (by simp [hy])))
    rw [List.length_erase_of_mem hx] at this
    have hp : 0 < m.length := List.length_pos_of_mem hx
    simp only [List.length_cons]
    omega
theorem FineM.len {L : List Mo} (h : FineM L) : L.length ≤ 1000 := by
  have hr : ∀ m ∈ L, 0 ≤ m.n ∧ m.n ≤ 999 := fun m hm => by have := h.ok m hm; simp only [okM, decide_eq_true_eq] at this; exact this.1
  have := nodup_le' (l := L.map fun m => m.n.toNat) (m := List.range 1000) (by
    rw [List.Nodup, List.pairwise_map]
    refine List.Pairwise.imp_of_mem ?_ h.once
    intro a b ha hb hab e
    have h1 := hr a ha
    have h2 := hr b hb
    exact hab (by omega)) (fun x hx => by
    rw [List.mem_map] at hx
    obtain ⟨m, hm, rfl⟩ := hx
    have := hr m hm
    rw [List.mem_range]
    omega)
  simpa using this

/-- The same state, by whatever way. -/
theorem FineM.eq {L M : List Mo} (h : FineM L) (k : FineM M) (hp : L.Perm M) : L = M := sorted_unique h.sorted k.sorted hp
theorem cut_cut (L : List Mo) (n : Int) : cutM (cutM L n) n = cutM L n := by unfold cutM; rw [List.filter_filter]; simp
theorem cut_comm (L : List Mo) (n k : Int) : cutM (cutM L n) k = cutM (cutM L k) n := by
  unfold cutM
  rw [List.filter_filter, List.filter_filter]
  congr 1
  funext m
  rw [Bool.and_comm]
theorem cut_cons_same (L : List Mo) (m : Mo) : cutM (m :: L) m.n = cutM L m.n := by unfold cutM; rw [List.filter_cons_of_neg (by simp)]
theorem cut_cons_other (L : List Mo) {m : Mo} {n : Int} (h : m.n ≠ n) : cutM (m :: L) n = m :: cutM L n := by unfold cutM; rw [List.filter_cons_of_pos (by simpa using h)]
theorem cut_set_same {L : List Mo} (h : FineM L) {m : Mo} (hm : okM m = true) : cutM (setM L m) m.n = cutM L m.n := by
  refine ((h.set hm).cut _).eq (h.cut _) ?_
  have := cutM_perm (setM_perm L m) m.n
  rw [cut_cons_same, cut_cut] at this
  exact this
theorem cut_set_other {L : List Mo} (h : FineM L) {m : Mo} (hm : okM m = true) {n : Int} (hn : m.n ≠ n) : cutM (setM L m) n = setM (cutM L n) m := by
  refine ((h.set hm).cut _).eq ((h.cut n).set hm) ?_
  have h1 := cutM_perm (setM_perm L m) n
  rw [cut_cons_other _ hn, cut_comm] at h1
  exact h1.trans (setM_perm (cutM L n) m).symm
theorem set_perm {L M : List Mo} (hp : L.Perm M) (m : Mo) : (m :: cutM L m.n).Perm (setM M m) := ((cutM_perm hp m.n).cons m).trans (setM_perm M m).symm

/-- Due in two steps is as at once. -/
theorem due_all {L : List Mo} (h : SortedM L) (now : Int) : L = dueM L now ++ restM L now := by
  unfold dueM restM
  induction L with
  | nil => rfl
  | cons x L ih =>
    have hx := List.pairwise_cons.1 h
    by_cases hn : x.t ≤ now
    · rw [List.filter_cons_of_pos (by simpa using hn), List.filter_cons_of_neg (by simpa using hn), List.cons_append, ← ih hx.2]
    · have hall : ∀ y ∈ x :: L, now < y.t := fun y hy => by
        rcases List.mem_cons.1 hy with rfl | hy
        · omega
        · have := lessM_iff.1 (hx.1 y hy); omega
      have e1 : (x :: L).filter (fun m => decide (m.t ≤ now)) = [] := by
        rw [List.filter_eq_nil_iff]
        intro y hy
        have := hall y hy
        simp
        omega
      have e2 : (x :: L).filter (fun m => decide (now < m.t)) = x :: L := by
        rw [List.filter_eq_self]
        intro y hy
        simpa using hall y hy
      rw [e1, e2, List.nil_append]
theorem due_due (L : List Mo) {now now' : Int} (hle : now ≤ now') : dueM (dueM L now') now = dueM L now := by
  unfold dueM
  rw [List.filter_filter]
  congr 1
  funext m
  by_cases h : m.t ≤ now
  · simp [h]; omega
  · simp [h]
theorem rest_due (L : List Mo) (now now' : Int) : restM (dueM L now') now = dueM (restM L now) now' := by
  unfold dueM restM
  rw [List.filter_filter, List.filter_filter]
  congr 1
  funext m
  rw [Bool.and_comm]
theorem due_step {L : List Mo} (h : SortedM L) {now now' : Int} (hle : now ≤ now') : dueM L now ++ dueM (restM L now) now' = dueM L now' := by
  have hs : SortedM (dueM L now') := h.sublist List.filter_sublist
  have := due_all hs now
  rw [due_due L hle, rest_due] at this
  exact this.symm
theorem rest_step (L : List Mo) {now now' : Int} (hle : now ≤ now') : restM (restM L now) now' = restM L now' := by
  unfold restM
  rw [List.filter_filter]
  congr 1
  funext m
  by_cases h : now' < m.t
  · simp [h]; omega
  · simp [h]
theorem due_len {L : List Mo} (h : SortedM L) (now : Int) : (dueM L now).length + (restM L now).length = L.length := by
  conv => rhs; rw [due_all h now]
  rw [List.length_append]
theorem due_top {L : List Mo} (h : FineM L) : dueM L 1099511627776 = L ∧ restM L 1099511627776 = [] := by
  have ht : ∀ m ∈ L, m.t ≤ 1099511627776 := fun m hm => by have := h.ok m hm; simp only [okM, decide_eq_true_eq] at this; exact this.2.2
  refine ⟨?_, ?_⟩
  · unfold dueM
    rw [List.filter_eq_self]
    intro m hm
    simpa using ht m hm
  · unfold restM
    rw [List.filter_eq_nil_iff]
    intro m hm
    have := ht m hm
    simp
    omega
/-- The first of a sorted list: whether it is due. -/
theorem due_cons {x : Mo} {L : List Mo} (h : SortedM (x :: L)) (now : Int) : (x.t ≤ now → dueM (x :: L) now = x :: dueM L now ∧ restM (x :: L) now = restM L now) ∧ (¬ x.t ≤ now → dueM (x :: L) now = [] ∧ restM (x :: L) now = x :: L) := by
  refine ⟨fun hn => ⟨List.filter_cons_of_pos (by simpa using hn), List.filter_cons_of_neg (by simpa using hn)⟩, fun hn => ?_⟩
  have hx := List.pairwise_cons.1 h
  have hall : ∀ y ∈ x :: L, now < y.t := fun y hy => by
    rcases List.mem_cons.1 hy with rfl | hy
    · omega
    · have := lessM_iff.1 (hx.1 y hy); omega
  refine ⟨?_, ?_⟩
  · unfold dueM
    rw [List.filter_eq_nil_iff]
    intro y hy
    have := hall y hy
    simp
    omega
  · unfold restM
    rw [List.filter_eq_self]
    intro y hy
    simpa using hall y hy
end Go.Proofs.Ytcmidomgnbodiaa
