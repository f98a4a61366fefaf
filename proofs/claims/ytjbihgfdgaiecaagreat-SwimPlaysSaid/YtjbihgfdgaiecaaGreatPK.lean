/- MClkRef: WatMath, RefClock, RefCut, RefSet, RefDue. -/
import Derived.Test.YtjbihgfdgaiecaaGreatPA
import Derived.Test.YtjbihgfdgaiecaaGreatProg
import Derived.Test.YtjbihgfdgaiecaaGreatPB
import Derived.WalkKit
import Derived.Deep.Cut
import Derived.LoopTactic
import Derived.BigRegion
import Derived.RegionTactic
import Derived.Deep.WholeRow
import Derived.Deep.RegionLaw
import Derived.Laws.OwnMore
namespace Go.Proofs.YtjbihgfdgaiecaaGreat
section
open Go Go.RowKit
structure Mo where
 n : Int
 t : Int
def lessM (x y : Mo) : Bool := decide (x.t < y.t ∨ (x.t = y.t ∧ x.n < y.n))
theorem lessM_iff {x y : Mo} : lessM x y = true ↔ x.t < y.t ∨ (x.t = y.t ∧ x.n < y.n) := by simp [lessM]
theorem lessM_asym {x y : Mo} (h : lessM x y = true) : lessM y x = false := by
 rw [lessM_iff] at h
 simp only [lessM, decide_eq_false_iff_not]
 omega
theorem lessM_trans {x y z : Mo} (h : lessM x y = true) (k : lessM y z = true) : lessM x z = true := by
 rw [lessM_iff] at *
 omega
theorem lessM_total {x y : Mo} (h : x.n ≠ y.n) : lessM x y = true ∨ lessM y x = true := by
 rw [lessM_iff, lessM_iff]
 omega
def SortedM (L : List Mo) : Prop := L.Pairwise fun x y => lessM x y = true
def OnceM (L : List Mo) : Prop := L.Pairwise fun x y => x.n ≠ y.n
def okM (m : Mo) : Bool := decide ((0 ≤ m.n ∧ m.n ≤ 999) ∧ (0 ≤ m.t ∧ m.t ≤ 1099511627776))
structure FineM (L : List Mo) : Prop where
 sorted : SortedM L
 once : OnceM L
 ok : ∀ m ∈ L, okM m = true
def hasM (L : List Mo) (n : Int) : Option Mo := L.find? fun m => m.n == n
def cutM (L : List Mo) (n : Int) : List Mo := L.filter fun m => !(m.n == n)
def insM (L : List Mo) (m : Mo) : List Mo := L.takeWhile (fun x => lessM x m) ++ m :: L.dropWhile (fun x => lessM x m)
def setM (L : List Mo) (m : Mo) : List Mo := insM (cutM L m.n) m
def dueM (L : List Mo) (now : Int) : List Mo := L.filter fun m => decide (m.t ≤ now)
def restM (L : List Mo) (now : Int) : List Mo := L.filter fun m => decide (now < m.t)
theorem FineM.nil : FineM [] := ⟨List.Pairwise.nil, List.Pairwise.nil, fun m h => by simp at h⟩
theorem FineM.sub {L M : List Mo} (h : FineM L) (hs : M.Sublist L) : FineM M := ⟨h.sorted.sublist hs, h.once.sublist hs, fun m hm => h.ok m (hs.subset hm)⟩
theorem FineM.cut {L : List Mo} (h : FineM L) (n : Int) : FineM (cutM L n) := h.sub List.filter_sublist
theorem FineM.rest {L : List Mo} (h : FineM L) (now : Int) : FineM (restM L now) := h.sub List.filter_sublist
theorem FineM.due {L : List Mo} (h : FineM L) (now : Int) : FineM (dueM L now) := h.sub List.filter_sublist
theorem insM_perm (L : List Mo) (m : Mo) : (insM L m).Perm (m :: L) := by
 unfold insM
 refine List.perm_middle.trans ?_
 rw [List.takeWhile_append_dropWhile]
theorem takeWhile_all {L : List Mo} {m x : Mo} (h : x ∈ L.takeWhile fun x => lessM x m) : lessM x m = true := List.all_eq_true.1 (List.all_takeWhile (p := fun x => lessM x m)) x h
theorem insM_sorted {L : List Mo} {m : Mo} (h : SortedM L) (hn : ∀ x ∈ L, x.n ≠ m.n) : SortedM (insM L m) := by
 unfold insM
 have h' := h
 unfold SortedM at *
 rw [← List.takeWhile_append_dropWhile (p := fun x => lessM x m) (l := L)] at h'
 rw [List.pairwise_append] at h' ⊢
 obtain ⟨h1, h2, h3⟩ := h'
 have hd : ∀ x ∈ L.dropWhile (fun x => lessM x m), lessM m x = true := by
  cases hdw : L.dropWhile (fun x => lessM x m) with
  | nil => intro x hx; simp at hx
  | cons y r =>
   have hy : lessM y m = false := by
    have := List.head?_dropWhile_not (p := fun x => lessM x m) L
    rw [hdw] at this
    simpa using this
   have hym : y ∈ L := (List.dropWhile_sublist (fun x => lessM x m)).subset (by rw [hdw]; exact List.mem_cons_self)
   have hmy : lessM m y = true := by
    rcases lessM_total (hn y hym) with h | h
    ·rw [h] at hy; cases hy
    ·exact h
   rw [hdw] at h2
   intro x hx
   rcases List.mem_cons.1 hx with rfl | hx
   ·exact hmy
   ·exact lessM_trans hmy ((List.pairwise_cons.1 h2).1 x hx)
 refine ⟨h1, List.pairwise_cons.2 ⟨hd, h2⟩, fun x hx y hy => ?_⟩
 rcases List.mem_cons.1 hy with rfl | hy
 ·exact takeWhile_all hx
 ·exact h3 x hx y hy
theorem cutM_ne {L : List Mo} {n : Int} {x : Mo} (h : x ∈ cutM L n) : x.n ≠ n := by
 unfold cutM at h
 rw [List.mem_filter] at h
 simpa using h.2
theorem once_perm' {L M : List Mo} (hp : L.Perm M) (h : OnceM L) : OnceM M := hp.pairwise (R := fun x y : Mo => x.n ≠ y.n) h (fun h => Ne.symm h)
theorem FineM.set {L : List Mo} (h : FineM L) {m : Mo} (hm : okM m = true) : FineM (setM L m) := by
 have hc := h.cut m.n
 have hp := insM_perm (cutM L m.n) m
 refine ⟨insM_sorted hc.sorted fun x hx => cutM_ne hx, once_perm' hp.symm (List.pairwise_cons.2 ⟨fun x hx => (cutM_ne hx).symm, hc.once⟩), fun x hx => ?_⟩
 rcases List.mem_cons.1 (hp.subset hx) with rfl | hx
 ·exact hm
 ·exact hc.ok x hx
theorem setM_perm (L : List Mo) (m : Mo) : (setM L m).Perm (m :: cutM L m.n) := insM_perm _ _
theorem cutM_perm {L M : List Mo} (h : L.Perm M) (n : Int) : (cutM L n).Perm (cutM M n) := h.filter _
theorem cut_none {L : List Mo} {n : Int} (h : hasM L n = none) : cutM L n = L := by
 unfold cutM
 rw [List.filter_eq_self]
 unfold hasM at h
 rw [List.find?_eq_none] at h
 intro x hx
 have := h x hx
 simpa using this
theorem hasM_mem {L : List Mo} {n : Int} {m : Mo} (h : hasM L n = some m) : m ∈ L ∧ m.n = n := ⟨List.mem_of_find?_eq_some h, by have := List.find?_some h; simpa using this⟩
theorem hasM_of {L : List Mo} (ho : OnceM L) {m : Mo} (hm : m ∈ L) : hasM L m.n = some m := by
 cases h : hasM L m.n with
 | none =>
  unfold hasM at h
  rw [List.find?_eq_none] at h
  have := h m hm
  simp at this
 | some u =>
  obtain ⟨hu, hn⟩ := hasM_mem h
  congr 1
  refine Classical.byContradiction fun e => ?_
  rw [OnceM, List.pairwise_iff_forall_sublist] at ho
  obtain ⟨i, hi, rfl⟩ := List.mem_iff_getElem.1 hu
  obtain ⟨j, hj, rfl⟩ := List.mem_iff_getElem.1 hm
  have ho' := List.pairwise_iff_forall_sublist.2 @ho
  rw [List.pairwise_iff_getElem] at ho'
  rcases Nat.lt_trichotomy i j with h1 | h1 | h1
  ·exact ho' i j hi hj h1 hn
  ·subst h1; exact e rfl
  ·exact ho' j i hj hi h1 hn.symm
theorem hasM_perm {L M : List Mo} (hp : L.Perm M) (ho : OnceM L) (n : Int) : hasM L n = hasM M n := by
 cases h : hasM L n with
 | some m =>
  obtain ⟨hm, rfl⟩ := hasM_mem h
  exact (hasM_of (once_perm' hp ho) (hp.subset hm)).symm
 | none =>
  unfold hasM at h ⊢
  rw [List.find?_eq_none] at h
  symm
  rw [List.find?_eq_none]
  exact fun x hx => h x (hp.symm.subset hx)
theorem cut_split {L : List Mo} (ho : OnceM L) {n : Int} {m : Mo} (h : hasM L n = some m) : L.Perm (m :: cutM L n) := by
 obtain ⟨hm, rfl⟩ := hasM_mem h
 obtain ⟨s, t, rfl⟩ := List.append_of_mem hm
 have ho' := ho
 unfold OnceM at ho'
 rw [List.pairwise_append, List.pairwise_cons] at ho'
 obtain ⟨_, ⟨h2, _⟩, h3⟩ := ho'
 have e : cutM (s ++ m :: t) m.n = s ++ t := by
  unfold cutM
  rw [List.filter_append, List.filter_cons_of_neg (by simp)]
  congr 1
  ·rw [List.filter_eq_self]
   intro x hx
   have := h3 x hx m List.mem_cons_self
   simpa using this
  ·rw [List.filter_eq_self]
   intro x hx
   have := h2 x hx
   simpa using fun e => this e.symm
 rw [e]
 exact List.perm_middle
theorem nodup_le' {l m : List Nat} (h : l.Nodup) (hs : ∀ x ∈ l, x ∈ m) : l.length ≤ m.length := by
 induction l generalizing m with
 | nil => simp
 | cons x l ih =>
  have hx : x ∈ m := hs x (by simp)
  rw [List.nodup_cons] at h
  have := ih (m := m.erase x) h.2 (fun y hy => by
   have hne : y ≠ x := fun e => h.1 (e ▸ hy)
   exact (List.mem_erase_of_ne hne).2 (hs y (by simp [hy])))
  rw [List.length_erase_of_mem hx] at this
  have hp : 0 < m.length := List.length_pos_of_mem hx
  simp only [List.length_cons]
  omega
theorem FineM.len {L : List Mo} (h : FineM L) : L.length ≤ 1000 := by
 have hr : ∀ m ∈ L, 0 ≤ m.n ∧ m.n ≤ 999 := fun m hm => by have := h.ok m hm; simp only [okM, decide_eq_true_eq] at this; exact this.1
 have := nodup_le' (l := L.map fun m => m.n.toNat) (m := List.range 1000) (by
  rw [List.Nodup, List.pairwise_map]
  refine List.Pairwise.imp_of_mem ?_ h.once
  intro a b ha hb hab e
  have h1 := hr a ha
  have h2 := hr b hb
  exact hab (by omega)) (fun x hx => by
  rw [List.mem_map] at hx
  obtain ⟨m, hm, rfl⟩ := hx
  have := hr m hm
  rw [List.mem_range]
  omega)
 simpa using this
theorem set_perm {L M : List Mo} (hp : L.Perm M) (m : Mo) : (m :: cutM L m.n).Perm (setM M m) := ((cutM_perm hp m.n).cons m).trans (setM_perm M m).symm
theorem due_all {L : List Mo} (h : SortedM L) (now : Int) : L = dueM L now ++ restM L now := by
 unfold dueM restM
 induction L with
 | nil => rfl
 | cons x L ih =>
  have hx := List.pairwise_cons.1 h
  by_cases hn : x.t ≤ now
  ·rw [List.filter_cons_of_pos (by simpa using hn), List.filter_cons_of_neg (by simpa using hn), List.cons_append, ← ih hx.2]
  ·have hall : ∀ y ∈ x :: L, now < y.t := fun y hy => by
    rcases List.mem_cons.1 hy with rfl | hy
    ·omega
    ·have := lessM_iff.1 (hx.1 y hy); omega
   have e1 : (x :: L).filter (fun m => decide (m.t ≤ now)) = [] := by
    rw [List.filter_eq_nil_iff]
    intro y hy
    have := hall y hy
    simp
    omega
   have e2 : (x :: L).filter (fun m => decide (now < m.t)) = x :: L := by
    rw [List.filter_eq_self]
    intro y hy
    simpa using hall y hy
   rw [e1, e2, List.nil_append]
theorem due_cons {x : Mo} {L : List Mo} (h : SortedM (x :: L)) (now : Int) : (x.t ≤ now → dueM (x :: L) now = x :: dueM L now ∧ restM (x :: L) now = restM L now) ∧ (¬ x.t ≤ now → dueM (x :: L) now = [] ∧ restM (x :: L) now = x :: L) := by
 refine ⟨fun hn => ⟨List.filter_cons_of_pos (by simpa using hn), List.filter_cons_of_neg (by simpa using hn)⟩, fun hn => ?_⟩
 have hx := List.pairwise_cons.1 h
 have hall : ∀ y ∈ x :: L, now < y.t := fun y hy => by
  rcases List.mem_cons.1 hy with rfl | hy
  ·omega
  ·have := lessM_iff.1 (hx.1 y hy); omega
 refine ⟨?_, ?_⟩
 ·unfold dueM
  rw [List.filter_eq_nil_iff]
  intro y hy
  have := hall y hy
  simp
  omega
 ·unfold restM
  rw [List.filter_eq_self]
  intro y hy
  simpa using hall y hy
end
section
open Go Go.RowKit Go.BigFrame
def elemMo : Elem Tryz.prog Mo where
 enc m := [.int .i64 m.n, .int .i64 m.t]
 k := 2
 pos := by decide
 len _ := rfl
 one _ u hu := by
  simp only [List.mem_cons, List.not_mem_nil, or_false] at hu
  rcases hu with rfl | rfl <;> rfl
 t := 131
 sl := 84
 under := Tryz.underlying84
 z := .agg #[.int .i64 0, .int .i64 0]
 bytes := 16
 bpos := by decide
 info := by kernel_rfl
 zs := by kernel_rfl
def RefC (m : Nat) (L : List Mo) (W : World) (H : Nat → Prop) : Prop :=
 ∃ v, W.heap[m]? = some (.cells #[v] 86 (0, 0)) ∧ SrcE elemMo W v L ∧ ∀ k, H k ↔ k = m ∨ (L ≠ [] ∧ ∃ o n c, v = .slice (some ⟨k, o, none⟩) n c)
theorem refC_owns (m : Nat) (L : List Mo) : Owns (RefC m L) where
 lt W H h k hk := by
  obtain ⟨v, hm, hr, hH⟩ := h
  rcases (hH k).1 hk with rfl | ⟨hne, o, n, c, hv⟩
  ·exact (Array.getElem?_eq_some_iff.1 hm).1
  ·exact hr.1.lt hne hv
 kept W W' H h hs hk := by
  obtain ⟨v, hm, hr, hH⟩ := h
  exact ⟨v, (hk m ((hH m).2 (.inl rfl))).trans hm, ⟨hr.1.kept hs fun b o n c hl hv => hk b ((hH b).2 (.inr ⟨hl, o, n, c, hv⟩)), hr.2⟩, hH⟩
def RCEnd (m : Nat) (L : List Mo) (H : Nat → Prop) (W W' : World) : Prop := ∃ H', RefC m L W' H' ∧ Fr (fun k => k = m) W W' ∧ ∀ k, H' k → H k ∨ W.heap.size ≤ k
theorem RefC.cells {m : Nat} {L : List Mo} {W : World} {H : Nat → Prop} (h : RefC m L W H) : ∃ p cap, m < W.heap.size ∧ W.heap[m]? = some (.cells #[.slice p L.length cap] 86 (0, 0)) ∧ SrcE elemMo W (.slice p L.length cap) L := by
 obtain ⟨v, hm, hr, _⟩ := h
 obtain ⟨p, cap, rfl, _⟩ := hr.1.form
 exact ⟨p, cap, (Array.getElem?_eq_some_iff.1 hm).1, hm, hr⟩
theorem hasM_up {L : List Mo} {k : Nat} {n : Int} {x : Mo} (hk : L[k]? = some x) : hasM (L.take (k + 1)) n = (hasM (L.take k) n).or (if x.n == n then some x else none) := by
 unfold hasM
 rw [List.take_add_one, hk, List.find?_append]
 cases h : x.n == n <;> simp [h]
theorem hasM_hit {L : List Mo} {k : Nat} {n : Int} {x : Mo} (hk : L[k]? = some x) (h0 : hasM (L.take k) n = none) (hx : (x.n == n) = true) : hasM L n = some x := by
 have h1 := hasM_up (n := n) hk
 rw [h0, hx] at h1
 simp only [if_true, Option.none_or] at h1
 unfold hasM at h1 ⊢
 rw [← List.take_append_drop (k + 1) L, List.find?_append, h1]
 rfl
end
section
open Go Go.RowKit Go.BigFrame
theorem cutM_at {L : List Mo} (ho : OnceM L) {k : Nat} {x : Mo} (hk : L[k]? = some x) : cutM L x.n = L.take k ++ L.drop (k + 1) := by
 obtain ⟨hlt, he⟩ := List.getElem?_eq_some_iff.1 hk
 have hsp : L = L.take k ++ x :: L.drop (k + 1) := by
  have := List.take_append_drop k L
  rw [List.drop_eq_getElem_cons hlt, he] at this
  exact this.symm
 have ho' := ho
 rw [hsp] at ho'
 unfold OnceM at ho'
 rw [List.pairwise_append, List.pairwise_cons] at ho'
 obtain ⟨_, ⟨h2, _⟩, h3⟩ := ho'
 conv => lhs; rw [hsp]
 unfold cutM
 rw [List.filter_append, List.filter_cons_of_neg (by simp)]
 congr 1
 ·rw [List.filter_eq_self]
  intro y hy
  have := h3 y hy x List.mem_cons_self
  simpa using this
 ·rw [List.filter_eq_self]
  intro y hy
  have := h2 y hy
  simpa using fun e => this e.symm
def WithoutEnd (m : Nat) (L : List Mo) (n : Int) (H : Nat → Prop) (W : World) (e : Ending) (W' : World) : Prop := e = .returned (.bool (hasM L n).isSome) ∧ RCEnd m (cutM L n) H W W'
theorem rc_done {m : Nat} {L M : List Mo} {H : Nat → Prop} {W D W' : World} {v u : Value} (h : RefC m L W H) (hD : Below W.heap.size W D) (hm : MadeE elemMo D W' v M) (hq : W'.heap[m]? = some (.cells #[u] 86 (0, 0))) : RCEnd m M H W (W'.setCell ⟨m, 0, none⟩ v) := by
 obtain ⟨v0, hm0, hr, hH⟩ := h
 have hlt := (Array.getElem?_eq_some_iff.1 hm0).1
 have hb : Below W.heap.size W W' := hD.trans (hm.2.mono hD.size)
 have hge : ∀ b, v.ownBlock = some b → b ≠ m := fun b hb => by
  have := (hm.1.lt b hb).1
  have := hD.size
  omega
 refine ⟨fun k => k = m ∨ (M ≠ [] ∧ ∃ o n c, v = .slice (some ⟨k, o, none⟩) n c), ⟨v, by rw [heap_setCell_same _ _ _ _ _ _ hq]; rfl, ?_, fun k => Iff.rfl⟩, (Fr.of_below hb).set m 0 _ (.inl rfl), fun k hk => ?_⟩
 ·refine ⟨hm.src.1.kept (by simp [World.setCell]) fun b o n c hl hv => Below.heap_setCell _ _ _ b (hge b (by rw [hv]; rfl)), hm.src.2⟩
 ·rcases hk with rfl | ⟨_, o, n, c, rfl⟩
  ·exact .inl ((hH k).2 (.inl rfl))
  ·exact .inr (Nat.le_trans hD.size (hm.1.lt k rfl).1)
set_option maxHeartbeats 4000000 in
set_option maxRecDepth 100000 in
theorem without_any (m : Nat) (L : List Mo) (n : Int) (w : World) (H : Nat → Prop) (h : RefC m L w H) (ho : OnceM L) (hL : L.length ≤ 10000) : Calls Tryz.prog 72 #[.pointer (some ⟨m, 0, none⟩), .int .i64 n] w (WithoutEnd m L n H w) := by
 have HO := Lib.hid h
 have HOn := Lib.hid ho
 obtain ⟨p, cap, hlt, hm, hs⟩ := h.cells
 have HM := Lib.hid hm
 have e0 : w.cell? ⟨m, 0, none⟩ = some (.slice p L.length cap) := by simp [World.cell?, hm]
 have HS := Lib.hid hs
 obtain ⟨p', cap', hv, hrow⟩ := hs.1.form
 obtain ⟨rfl, -, rfl⟩ := Value.slice.inj hv
 have HR := Lib.hid hrow
 have hcap : L.length ≤ cap := by
  obtain ⟨_, p', cap', e, h1, _⟩ := hs
  obtain ⟨_, _, rfl⟩ := Value.slice.inj e
  exact h1
 clear h hm hs hv hrow ho
 go_enter Tryz.func72, Tryz.ntmps72
 go_wp2_with fail
 go_loopw [12] (fun v12 wr => ∃ k : Nat, v12 = .int .i64 k ∧ k ≤ L.length ∧ Hid (hasM (L.take k) n = none) ∧ ∃ x : Later w, wr = x.w) (fun v12 _ => L.length - (intOf v12).toNat)
 case atStart => exact ⟨0, rfl, by omega, Lib.hid rfl, ⟨w, Below.refl _ _⟩, rfl⟩
 case round =>
  obtain ⟨k, rfl, hk, HN, x, rfl⟩ := hrel
  by_cases hkl : k < L.length
  ·obtain ⟨⟨cn, ct⟩, hkc⟩ : ∃ c, L[k]? = some c := ⟨_, List.getElem?_eq_getElem hkl⟩
   rcases HR.out with h0 | ⟨b, o, rfl, hbl, hc⟩
   ·rw [h0] at hkl; simp at hkl
   have a0 : x.w.cell? ⟨b, o + k * 2, none⟩ = some (.int .i64 cn) := (x.below.cell (p := ⟨b, _, none⟩) hbl).trans (hc k _ hkc 0 _ rfl)
   have a1 : x.w.cell? ⟨b, o + k * 2 + 1, none⟩ = some (.int .i64 ct) := (x.below.cell (p := ⟨b, _, none⟩) hbl).trans (hc k _ hkc 1 _ rfl)
   have hkd : decide ((k : Int) < (L.length : Int)) = true := by simp; omega
   have HK := Lib.hid hkc
   clear hc hkc
   cases hcn : (cn == n) with
   | false =>
    have HN' := Lib.hid (show hasM (L.take (k + 1)) n = none from by rw [hasM_up HK.out, HN.out, hcn]; rfl)
    go_wp2_with fail
    go_roundw
    case rel => exact ⟨k + 1, by go_num, by omega, HN', Later.ex (by repeat (first | exact ext_refl _ | refine ext_alloc ?_ _ | refine ext_later ?_ _ | refine ext_drew ?_ | refine ext_drewN ?_ _))⟩
    case measure => simp [intOf]; omega
   | true =>
    have HV : Hid (hasM L n = some ⟨cn, ct⟩) := Lib.hid (hasM_hit HK.out HN.out hcn)
    go_upto_region 5 with fail
    obtain ⟨D, hD⟩ : ∃ W, x.w.alloc (.cells #[.int .i64 cn, .int .i64 ct] 131) = W := ⟨_, rfl⟩
    have HD : Hid (Below w.heap.size w D.drew) := Lib.hid (by rw [← hD]; exact ext_drew (ext_alloc (ext_later (ext_refl w) x) _))
    rw [hD]
    have hd0 : D.cell? ⟨m, 0, none⟩ = some (.slice (some ⟨b, o, none⟩) L.length cap) := (HD.out.cell (p := ⟨m, 0, none⟩) hlt).trans e0
    have hml : m < D.heap.size := Nat.lt_of_lt_of_le hlt HD.out.size
    clear hD a0 a1
    have HTk := Lib.hid ((HS.out.below HD.out).take (m := k) hk)
    have HDr := Lib.hid ((HS.out.below HD.out).drop (m := k + 1) (by omega))
    have HLt : Hid ((L.take k).length = k) := Lib.hid (by rw [List.length_take]; omega)
    have HLd : Hid ((L.drop (k + 1)).length = L.length - (k + 1)) := Lib.hid List.length_drop
    have hk1 : k + 1 ≤ L.length := hkl
    rw [Option.map_some, addr_off] at HDr
    by_cases hck : cap = k + 1
    ·subst hck
     rw [if_pos rfl, Nat.sub_self, show L.length - (k + 1) = 0 from by omega] at HDr
     refine wp_region_taken [18] (fun k => k < D.heap.size) (by kernel_rfl) (n := 19) rfl (fresh := Array.replicate 19 false) rfl ?_
     refine wpT_batchK [0, 1, 2, 3, 4, 5, 6, 8, 9, 10, 11, 12, 13, 14] 5 rfl (by kernel_rfl) (by kernel_rfl) (by simp only [pickL, nthL, List.cons_append, List.nil_append]; rfl) ?_
     repeat (go_big_quiet_step (fail))
     refine wpQuiet_nil ?_
     refine wpT_append (E := elemMo) (i := 7) (d := some 28) (w0 := D.drew) (v := .slice none 0 0) (v2 := .slice (some ⟨b, o, none⟩) k (k + 1)) (xs := []) (l2 := L.take k) (by kernel_rfl) rfl (by rfl) rfl rfl rfl (madeE_nil (Below.refl _ _)) HTk.out (by rw [HLt.out]; show (0 + k) * 16 ≤ _; omega) (fun k hk => hk) rfl ?_
     intro v1 w1 hm1 hz1
     rw [List.nil_append] at hm1
     have HM1 := Lib.hid hm1
     have HD1 := Lib.hid (HDr.out.below hm1.2)
     clear hm1 hz1
     simp only [Act.put, List.setIfInBounds_toArray, List.set_cons_succ, List.set_cons_zero]
     refine wpT_append (E := elemMo) (i := 15) (d := some 36) (w0 := D.drew) (v := v1) (v2 := .slice (some ⟨b, o, none⟩) 0 0) (xs := L.take k) (l2 := L.drop (k + 1)) (by kernel_rfl) rfl (by rfl) rfl rfl rfl HM1.out HD1.out (by rw [HLt.out, HLd.out]; show (k + (L.length - (k + 1))) * 16 ≤ _; omega) (fun k hk => hk) rfl ?_
     intro v2 w2 hm2 hz2
     have HM2 := Lib.hid hm2
     have hq2 : w2.heap[m]? = some (.cells #[.slice (some ⟨b, o, none⟩) L.length (k + 1)] 86 (0, 0)) := ((HD.out.trans (hm2.2.mono HD.out.size)).block m hlt).trans HM.out
     have m1 : w2.cell? ⟨m, 0, none⟩ = some (.slice (some ⟨b, o, none⟩) L.length (k + 1)) := by simp [World.cell?, hq2]
     have m2 : w2.frozen? ⟨m, 0, none⟩ = false := by simp [World.frozen?, hq2]
     have HFin : Hid (WithoutEnd m L n H w (.returned (.bool true)) (w2.setCell ⟨m, 0, none⟩ v2)) := Lib.hid ⟨by rw [HV.out]; rfl, by
      have e : cutM L n = L.take k ++ L.drop (k + 1) := by
       have := cutM_at HOn.out HK.out
       rw [show (⟨cn, ct⟩ : Mo).n = n from eq_of_beq hcn] at this
       exact this
      rw [e]
      exact rc_done HO.out HD.out HM2.out hq2⟩
     clear hm2 hz2
     simp only [Act.put, List.setIfInBounds_toArray, List.set_cons_succ, List.set_cons_zero]
     refine wpT_batchK [16, 17] 1 rfl (by kernel_rfl) (by kernel_rfl) (by simp only [pickL, nthL, List.cons_append, List.nil_append]; rfl) ?_
     repeat (go_big_quiet_step (fail))
     refine wpQuiet_nil ?_
     obtain ⟨pv2, cv2, hv2, -⟩ := HM2.out.list.form
     refine wpT_store (i := 18) (w' := w2.setCell ⟨m, 0, none⟩ v2) (by kernel_rfl) rfl (by rfl) (by subst hv2; simp [execOp, go_sem, m1, m2]) (.inl rfl) rfl ?_
     refine wpT_end (by kernel_rfl) ?_
     go_wp2_with fail
     go_ret
     exact HFin.out
    ·rw [if_neg hck] at HDr
     refine wp_region_taken [18] (fun k => k < D.heap.size) (by kernel_rfl) (n := 19) rfl (fresh := Array.replicate 19 false) rfl ?_
     refine wpT_batchK [0, 1, 2, 3, 4, 5, 6, 8, 9, 10, 11, 12, 13, 14] 5 rfl (by kernel_rfl) (by kernel_rfl) (by simp only [pickL, nthL, List.cons_append, List.nil_append]; rfl) ?_
     repeat (go_big_quiet_step (fail))
     refine wpQuiet_nil ?_
     refine wpT_append (E := elemMo) (i := 7) (d := some 28) (w0 := D.drew) (v := .slice none 0 0) (v2 := .slice (some ⟨b, o, none⟩) k cap) (xs := []) (l2 := L.take k) (by kernel_rfl) rfl (by rfl) rfl rfl rfl (madeE_nil (Below.refl _ _)) HTk.out (by rw [HLt.out]; show (0 + k) * 16 ≤ _; omega) (fun k hk => hk) rfl ?_
     intro v1 w1 hm1 hz1
     rw [List.nil_append] at hm1
     have HM1 := Lib.hid hm1
     have HD1 := Lib.hid (HDr.out.below hm1.2)
     clear hm1 hz1
     simp only [Act.put, List.setIfInBounds_toArray, List.set_cons_succ, List.set_cons_zero]
     refine wpT_append (E := elemMo) (i := 15) (d := some 36) (w0 := D.drew) (v := v1) (v2 := .slice (some ⟨b, o + (k + 1) * 2, none⟩) (L.length - (k + 1)) (cap - (k + 1))) (xs := L.take k) (l2 := L.drop (k + 1)) (by kernel_rfl) rfl (by rfl) rfl rfl rfl HM1.out HD1.out (by rw [HLt.out, HLd.out]; show (k + (L.length - (k + 1))) * 16 ≤ _; omega) (fun k hk => hk) rfl ?_
     intro v2 w2 hm2 hz2
     have HM2 := Lib.hid hm2
     have hq2 : w2.heap[m]? = some (.cells #[.slice (some ⟨b, o, none⟩) L.length cap] 86 (0, 0)) := ((HD.out.trans (hm2.2.mono HD.out.size)).block m hlt).trans HM.out
     have m1 : w2.cell? ⟨m, 0, none⟩ = some (.slice (some ⟨b, o, none⟩) L.length cap) := by simp [World.cell?, hq2]
     have m2 : w2.frozen? ⟨m, 0, none⟩ = false := by simp [World.frozen?, hq2]
     have HFin : Hid (WithoutEnd m L n H w (.returned (.bool true)) (w2.setCell ⟨m, 0, none⟩ v2)) := Lib.hid ⟨by rw [HV.out]; rfl, by
      have e : cutM L n = L.take k ++ L.drop (k + 1) := by
       have := cutM_at HOn.out HK.out
       rw [show (⟨cn, ct⟩ : Mo).n = n from eq_of_beq hcn] at this
       exact this
      rw [e]
      exact rc_done HO.out HD.out HM2.out hq2⟩
     clear hm2 hz2
     simp only [Act.put, List.setIfInBounds_toArray, List.set_cons_succ, List.set_cons_zero]
     refine wpT_batchK [16, 17] 1 rfl (by kernel_rfl) (by kernel_rfl) (by simp only [pickL, nthL, List.cons_append, List.nil_append]; rfl) ?_
     repeat (go_big_quiet_step (fail))
     refine wpQuiet_nil ?_
     obtain ⟨pv2, cv2, hv2, -⟩ := HM2.out.list.form
     refine wpT_store (i := 18) (w' := w2.setCell ⟨m, 0, none⟩ v2) (by kernel_rfl) rfl (by rfl) (by subst hv2; simp [execOp, go_sem, m1, m2]) (.inl rfl) rfl ?_
     refine wpT_end (by kernel_rfl) ?_
     go_wp2_with fail
     go_ret
     exact HFin.out
  ·obtain rfl : k = L.length := by omega
   have hn : hasM L n = none := by have := HN.out; rw [List.take_length] at this; exact this
   have HV : Hid ((hasM L n).isSome = false) := Lib.hid (by rw [hn]; rfl)
   have HE := Lib.hid (show RCEnd m (cutM L n) H w x.w from by
    rw [cut_none hn]
    exact ⟨H, (refC_owns m L).kept w x.w H HO.out x.below.size fun k hk => x.below.block k ((refC_owns m L).lt w H HO.out k hk), Fr.of_below x.below, fun k hk => .inl hk⟩)
   go_wp2_with fail
   go_ret
   exact ⟨by rw [HV.out]; rfl, HE.out⟩
set_option maxHeartbeats 400000 in
theorem refCut_any (m : Nat) (L : List Mo) (n : Int) (w : World) (H : Nat → Prop) (h : RefC m L w H) (ho : OnceM L) (hL : L.length ≤ 10000) : Calls Tryz.prog 48 #[.pointer (some ⟨m, 0, none⟩), .int .i64 n] w (WithoutEnd m L n H w) := by
 have HW := Lib.hid (without_any m L n w H h ho hL)
 obtain ⟨B, hB⟩ : ∃ B, (hasM L n).isSome = B := ⟨_, rfl⟩
 have HB := Lib.hid hB
 clear h ho hB
 go_enter Tryz.func48, Tryz.ntmps48
 go_wp2_with fail
 refine HW.out.mono ?_
 rintro e w1 ⟨rfl, he⟩
 rw [HB.out]
 have HE := Lib.hid he
 clear he
 go_wp2_with fail
 go_ret
 exact ⟨by rw [HB.out]; rfl, HE.out⟩
end
section
open Go Go.RowKit Go.BigFrame
theorem takeWhile_at {p : Mo → Bool} : ∀ {L : List Mo} {i : Nat}, i ≤ L.length → (∀ x ∈ L.take i, p x = true) → (∀ x, L[i]? = some x → p x = false) → L.takeWhile p = L.take i ∧ L.dropWhile p = L.drop i
 | [], i, _, _, _ => by simp
 | x :: L, 0, _, _, h => by
  have := h x (by simp)
  simp [this]
 | x :: L, i + 1, hi, ht, h => by
  have hx : p x = true := ht x (by simp)
  obtain ⟨h1, h2⟩ := takeWhile_at (p := p) (L := L) (i := i) (by simpa using hi) (fun y hy => ht y (by simp [hy])) (fun y hy => h y (by simpa using hy))
  simp [hx, h1, h2]
theorem RCEnd.trans {m : Nat} {L M : List Mo} {H : Nat → Prop} {A B C : World} (h : RCEnd m L H A B) (k : ∀ H', RefC m L B H' → RCEnd m M H' B C) : RCEnd m M H A C := by
 obtain ⟨H1, hr, hf, hg⟩ := h
 obtain ⟨H2, hr2, hf2, hg2⟩ := k H1 hr
 refine ⟨H2, hr2, hf.trans hf2 (fun j hj => .inl hj), fun k hk => ?_⟩
 rcases hg2 k hk with h1 | h1
 ·exact hg k h1
 ·exact .inr (Nat.le_trans hf.size h1)
def SetEnd (m : Nat) (L : List Mo) (x : Mo) (H : Nat → Prop) (W : World) (e : Ending) (W' : World) : Prop :=
 e = .returned (.bool (okM x)) ∧ RCEnd m (if okM x then setM L x else L) H W W'
set_option maxHeartbeats 4000000 in
set_option maxRecDepth 100000 in
theorem refSet_any (m : Nat) (L : List Mo) (n t : Int) (w : World) (H : Nat → Prop) (h : RefC m L w H) (ho : OnceM L) (hL : L.length ≤ 1000) : Calls Tryz.prog 57 #[.pointer (some ⟨m, 0, none⟩), .int .i64 n, .int .i64 t] w (SetEnd m L ⟨n, t⟩ H w) := by
 by_cases hok : (0 ≤ n ∧ n ≤ 999) ∧ (0 ≤ t ∧ t ≤ 1099511627776)
 ·have HOk : Hid (okM ⟨n, t⟩ = true) := Lib.hid (by simp only [okM, decide_eq_true_eq]; exact hok)
  have HW := Lib.hid (without_any m L n w H h ho (by omega))
  obtain ⟨M, hM⟩ : ∃ M, cutM L n = M := ⟨_, rfl⟩
  have hMl : M.length ≤ 1000 := by rw [← hM]; exact Nat.le_trans (List.length_filter_le _ _) hL
  unfold WithoutEnd at HW
  rw [hM] at HW
  have HM := Lib.hid hM
  obtain ⟨⟨g1, g2⟩, g3, g4⟩ := hok
  have q1 : decide (n < 0) = false := by simpa using g1
  have q2 : decide ((999 : Int) < n) = false := by simpa using g2
  have q3 : decide (t < 0) = false := by simpa using g3
  have q4 : decide ((1099511627776 : Int) < t) = false := by simpa using g4
  clear h ho hM
  go_enter Tryz.func57, Tryz.ntmps57
  go_wp2_with fail
  refine HW.out.mono ?_
  rintro e w1 ⟨rfl, hrc⟩
  obtain ⟨H1, hr1, hf1, hg1⟩ := hrc
  have HRc := Lib.hid (show RCEnd m M H w w1 from ⟨H1, hr1, hf1, hg1⟩)
  have HO1 := Lib.hid hr1
  obtain ⟨p, cap, hlt, hm, hs⟩ := hr1.cells
  have HQ := Lib.hid hm
  have e0 : w1.cell? ⟨m, 0, none⟩ = some (.slice p M.length cap) := by simp [World.cell?, hm]
  have HS := Lib.hid hs
  obtain ⟨p', cap', hv, hrow⟩ := hs.1.form
  obtain ⟨rfl, -, rfl⟩ := Value.slice.inj hv
  have HR := Lib.hid hrow
  have hcap : M.length ≤ cap := by
   obtain ⟨_, p', cap', e, h1, _⟩ := hs
   obtain ⟨_, _, rfl⟩ := Value.slice.inj e
   exact h1
  clear hr1 hf1 hg1 hm hs hv hrow HW
  go_wp2_with fail
  go_loopw [7] (fun v7 wr => ∃ k : Nat, v7 = .int .i64 k ∧ k ≤ M.length ∧ Hid (∀ x ∈ M.take k, lessM x ⟨n, t⟩ = true) ∧ ∃ x : Later w1, wr = x.w) (fun v7 _ => M.length - (intOf v7).toNat)
  case atStart => exact ⟨0, rfl, by omega, Lib.hid (fun x hx => by simp at hx), ⟨w1, Below.refl _ _⟩, rfl⟩
  case round =>
   obtain ⟨k, rfl, hk, HN, x, rfl⟩ := hrel
   by_cases hkl : k < M.length
   ·obtain ⟨⟨cn, ct⟩, hkc⟩ : ∃ c, M[k]? = some c := ⟨_, List.getElem?_eq_getElem hkl⟩
    rcases HR.out with h0 | ⟨b, o, rfl, hbl, hc⟩
    ·rw [h0] at hkl; simp at hkl
    have a0 : x.w.cell? ⟨b, o + k * 2, none⟩ = some (.int .i64 cn) := (x.below.cell (p := ⟨b, _, none⟩) hbl).trans (hc k _ hkc 0 _ rfl)
    have a1 : x.w.cell? ⟨b, o + k * 2 + 1, none⟩ = some (.int .i64 ct) := (x.below.cell (p := ⟨b, _, none⟩) hbl).trans (hc k _ hkc 1 _ rfl)
    have hkd : decide ((k : Int) < (M.length : Int)) = true := by simp; omega
    have HK := Lib.hid hkc
    clear hc hkc
    have hkc2 : k < cap := by omega
    by_cases hless : lessM ⟨cn, ct⟩ ⟨n, t⟩ = true
    ·have HN' := Lib.hid (show ∀ x ∈ M.take (k + 1), lessM x ⟨n, t⟩ = true from fun x hx => by
      rw [List.take_add_one, HK.out] at hx
      rcases List.mem_append.1 hx with hx | hx
      ·exact HN.out x hx
      ·obtain rfl : x = ⟨cn, ct⟩ := by simpa using hx
       exact hless)
     rw [lessM_iff] at hless
     dsimp only at hless
     by_cases hlt2 : ct < t
     ·go_wp2_with fail
      go_roundw
      case rel => exact ⟨k + 1, by go_num, by omega, HN', Later.ex x.below⟩
      case measure => simp [intOf]; omega
     ·have h1 : (ct == t) = true := by rw [beq_iff_eq]; omega
      have h2 : cn < n := by omega
      go_wp2_with fail
      go_roundw
      case rel => exact ⟨k + 1, by go_num, by omega, HN', Later.ex x.below⟩
      case measure => simp [intOf]; omega
    ·have hstop : ∀ y, M[k]? = some y → lessM y ⟨n, t⟩ = false := fun y hy => by
      rw [HK.out] at hy
      obtain rfl := Option.some.inj hy
      simpa using hless
     rw [lessM_iff] at hless
     dsimp only at hless
     have z1 : decide (ct < t) = false := by rw [decide_eq_false_iff_not]; omega
     rcases (by omega : ¬ ct = t ∨ (ct = t ∧ ¬ cn < n)) with h1 | ⟨h1, h2⟩
     ·have z2 : (ct == t) = false := by rw [beq_eq_false_iff_ne]; exact h1
      have HEq : Hid (M.take k ++ [⟨n, t⟩] ++ M.drop k = setM L ⟨n, t⟩) := Lib.hid (by
       obtain ⟨h1, h2⟩ := takeWhile_at (p := fun x => lessM x ⟨n, t⟩) (L := M) (i := k) (by omega) HN.out hstop
       unfold setM insM
       rw [show cutM L (⟨n, t⟩ : Mo).n = M from HM.out, h1, h2, List.append_assoc]
       rfl)
      go_upto_region 7 with fail
      have HLt : Hid ((M.take k).length = k) := Lib.hid (by rw [List.length_take]; omega)
      have HLd : Hid ((M.drop k).length = M.length - k) := Lib.hid List.length_drop
      obtain ⟨D0, hD0⟩ : ∃ W, x.w = W := ⟨_, rfl⟩
      obtain ⟨D, hDD⟩ : ∃ W, D0.drew = W := ⟨_, rfl⟩
      have HD : Hid (Below w1.heap.size w1 D) := Lib.hid (by rw [← hDD, ← hD0]; exact ext_drew (ext_later (ext_refl w1) x))
      have HTk := Lib.hid ((HS.out.below HD.out).take (m := k) (by omega))
      have hdr := (HS.out.below HD.out).drop (m := k) (by omega)
      rw [if_neg (by omega), Option.map_some, addr_off] at hdr
      rw [show k * elemMo.k = k * 2 from rfl] at hdr
      have HDr := Lib.hid hdr
      have hd0 : D.cell? ⟨m, 0, none⟩ = some (.slice (some ⟨b, o, none⟩) M.length cap) := (HD.out.cell (p := ⟨m, 0, none⟩) hlt).trans e0
      have hml : m < D.heap.size := Nat.lt_of_lt_of_le hlt HD.out.size
      rw [hD0]
      refine wp_region_taken [22] (fun k => k < D.heap.size) (by kernel_rfl) (n := 23) rfl (fresh := Array.replicate 23 false) rfl ?_
      rw [hDD]
      clear hD0 hDD hdr
      refine wpT_batchK [0, 1, 2, 3, 4, 5, 6, 8, 9, 10, 13, 14, 15, 16, 17, 18] 7 rfl (by kernel_rfl) (by kernel_rfl) (by simp only [pickL, nthL, List.cons_append, List.nil_append]; rfl) ?_
      repeat (go_big_quiet_step (fail))
      refine wpQuiet_nil ?_
      refine wpT_two (i := 7) (j := 11) (by kernel_rfl) ?_ ?_
      ·refine opT_append (E := elemMo) (d := some 77) (w0 := D) (v := .slice none 0 0) (v2 := .slice (some ⟨b, o, none⟩) k cap) (xs := []) (l2 := M.take k) rfl (by rfl) rfl rfl rfl (madeE_nil (Below.refl _ _)) HTk.out (by rw [HLt.out]; show (0 + k) * 16 ≤ _; omega) (fun k hk => hk) rfl ?_
       intro v1 w2 hm2 hz2
       rw [List.nil_append] at hm2
       simp only [Act.put, List.setIfInBounds_toArray, List.set_cons_succ, List.set_cons_zero]
       refine wpT_just (i := 11) (by kernel_rfl) ?_
       refine opT_value (d := some 81) (v := .slice (some ⟨w2.heap.size, 0, none⟩) 1 1) (w' := w2.alloc (.cells #[.int .i64 n, .int .i64 t] 131)) rfl (by rfl) (by simp [execOp, Instr.buildSlice, go_sem]) (.inr (GK.of_below (ext_alloc (ext_refl w2) _) fun k hk => Nat.lt_of_lt_of_le hk hz2)) rfl ?_
       have HSrc := Lib.hid (srcE_one (E := elemMo) (x := ⟨n, t⟩) (heap_alloc_new w2 (.cells #[.int .i64 n, .int .i64 t] 131)) rfl)
       have HM2 := Lib.hid (hm2.later ⟨w2.alloc (.cells #[.int .i64 n, .int .i64 t] 131), ext_alloc (ext_refl w2) _⟩)
       dsimp only at HM2
       simp only [Act.put, List.setIfInBounds_toArray, List.set_cons_succ, List.set_cons_zero]
       obtain ⟨bn, hbn⟩ : ∃ b, w2.heap.size = b := ⟨_, rfl⟩
       rw [hbn] at HSrc ⊢
       clear hm2 hz2 hbn
       refine wpT_append (E := elemMo) (i := 12) (d := some 82) (w0 := D) (v := v1) (v2 := .slice (some ⟨bn, 0, none⟩) 1 1) (xs := M.take k) (l2 := [⟨n, t⟩]) (by kernel_rfl) rfl (by rfl) rfl rfl rfl HM2.out HSrc.out (by rw [HLt.out]; show (k + 1) * 16 ≤ _; omega) (fun k hk => hk) rfl ?_
       intro v3 w3 hm3 hz3
       have HM3 := Lib.hid hm3
       have HD3 := Lib.hid (HDr.out.below hm3.2)
       clear hm3 hz3
       simp only [Act.put, List.setIfInBounds_toArray, List.set_cons_succ, List.set_cons_zero]
       refine wpT_append (E := elemMo) (i := 19) (d := some 89) (w0 := D) (v := v3) (v2 := .slice (some ⟨b, o + k * 2, none⟩) (M.length - k) (cap - k)) (xs := M.take k ++ [⟨n, t⟩]) (l2 := M.drop k) (by kernel_rfl) rfl (by rfl) rfl rfl rfl HM3.out HD3.out (by rw [List.length_append, HLt.out, HLd.out]; show (k + 1 + (M.length - k)) * 16 ≤ _; omega) (fun k hk => hk) rfl ?_
       intro v4 w4 hm4 hz4
       have HM4 := Lib.hid hm4
       have hq4 : w4.heap[m]? = some (.cells #[.slice (some ⟨b, o, none⟩) M.length cap] 86 (0, 0)) := ((HD.out.trans (hm4.2.mono HD.out.size)).block m hlt).trans HQ.out
       have m1 : w4.cell? ⟨m, 0, none⟩ = some (.slice (some ⟨b, o, none⟩) M.length cap) := by simp [World.cell?, hq4]
       have m2 : w4.frozen? ⟨m, 0, none⟩ = false := by simp [World.frozen?, hq4]
       have HFin : Hid (SetEnd m L ⟨n, t⟩ H w (.returned (.bool true)) (w4.setCell ⟨m, 0, none⟩ v4)) := Lib.hid ⟨by rw [HOk.out], by
        rw [HOk.out, if_pos rfl]
        exact HRc.out.trans fun H' hr => by
         have := rc_done hr HD.out HM4.out hq4
         rw [HEq.out] at this
         exact this⟩
       clear hm4 hz4
       simp only [Act.put, List.setIfInBounds_toArray, List.set_cons_succ, List.set_cons_zero]
       refine wpT_batchK [20, 21] 1 rfl (by kernel_rfl) (by kernel_rfl) (by simp only [pickL, nthL, List.cons_append, List.nil_append]; rfl) ?_
       repeat (go_big_quiet_step (fail))
       refine wpQuiet_nil ?_
       obtain ⟨pv4, cv4, hv4, -⟩ := HM4.out.list.form
       refine wpT_store (i := 22) (w' := w4.setCell ⟨m, 0, none⟩ v4) (by kernel_rfl) rfl (by rfl) (by subst hv4; simp [execOp, go_sem, m1, m2]) (.inl rfl) rfl ?_
       clear hv4
       refine wpT_end (by kernel_rfl) ?_
       go_wp2_with fail
       go_ret
       exact HFin.out
      ·refine opT_value (d := some 81) (v := .slice (some ⟨D.heap.size, 0, none⟩) 1 1) (w' := D.alloc (.cells #[.int .i64 n, .int .i64 t] 131)) rfl (by rfl) (by simp [execOp, Instr.buildSlice, go_sem]) (.inr (GK.of_below (ext_alloc (ext_refl D) _) fun k hk => hk)) rfl ?_
       simp only [Act.put, List.setIfInBounds_toArray, List.set_cons_succ, List.set_cons_zero]
       refine wpT_just (i := 7) (by kernel_rfl) ?_
       refine opT_append (E := elemMo) (d := some 77) (w0 := D.alloc (.cells #[.int .i64 n, .int .i64 t] 131)) (v := .slice none 0 0) (v2 := .slice (some ⟨b, o, none⟩) k cap) (xs := []) (l2 := M.take k) rfl (by rfl) rfl rfl rfl (madeE_nil (Below.refl _ _)) (HTk.out.below (ext_alloc (ext_refl D) _)) (by rw [HLt.out]; show (0 + k) * 16 ≤ _; omega) (fun k hk => Nat.lt_of_lt_of_le hk (ext_alloc (ext_refl D) _).size) rfl ?_
       intro v1 w2 hm2 hz2
       rw [List.nil_append] at hm2
       have HSrc := Lib.hid ((srcE_one (E := elemMo) (x := ⟨n, t⟩) (heap_alloc_new D (.cells #[.int .i64 n, .int .i64 t] 131)) rfl).below hm2.2)
       have HM2 := Lib.hid (hm2.base (ext_alloc (ext_refl D) _))
       simp only [Act.put, List.setIfInBounds_toArray, List.set_cons_succ, List.set_cons_zero]
       clear hm2 hz2
       refine wpT_append (E := elemMo) (i := 12) (d := some 82) (w0 := D) (v := v1) (v2 := .slice (some ⟨D.heap.size, 0, none⟩) 1 1) (xs := M.take k) (l2 := [⟨n, t⟩]) (by kernel_rfl) rfl (by rfl) rfl rfl rfl HM2.out HSrc.out (by rw [HLt.out]; show (k + 1) * 16 ≤ _; omega) (fun k hk => hk) rfl ?_
       intro v3 w3 hm3 hz3
       have HM3 := Lib.hid hm3
       have HD3 := Lib.hid (HDr.out.below hm3.2)
       clear hm3 hz3
       simp only [Act.put, List.setIfInBounds_toArray, List.set_cons_succ, List.set_cons_zero]
       refine wpT_append (E := elemMo) (i := 19) (d := some 89) (w0 := D) (v := v3) (v2 := .slice (some ⟨b, o + k * 2, none⟩) (M.length - k) (cap - k)) (xs := M.take k ++ [⟨n, t⟩]) (l2 := M.drop k) (by kernel_rfl) rfl (by rfl) rfl rfl rfl HM3.out HD3.out (by rw [List.length_append, HLt.out, HLd.out]; show (k + 1 + (M.length - k)) * 16 ≤ _; omega) (fun k hk => hk) rfl ?_
       intro v4 w4 hm4 hz4
       have HM4 := Lib.hid hm4
       have hq4 : w4.heap[m]? = some (.cells #[.slice (some ⟨b, o, none⟩) M.length cap] 86 (0, 0)) := ((HD.out.trans (hm4.2.mono HD.out.size)).block m hlt).trans HQ.out
       have m1 : w4.cell? ⟨m, 0, none⟩ = some (.slice (some ⟨b, o, none⟩) M.length cap) := by simp [World.cell?, hq4]
       have m2 : w4.frozen? ⟨m, 0, none⟩ = false := by simp [World.frozen?, hq4]
       have HFin : Hid (SetEnd m L ⟨n, t⟩ H w (.returned (.bool true)) (w4.setCell ⟨m, 0, none⟩ v4)) := Lib.hid ⟨by rw [HOk.out], by
        rw [HOk.out, if_pos rfl]
        exact HRc.out.trans fun H' hr => by
         have := rc_done hr HD.out HM4.out hq4
         rw [HEq.out] at this
         exact this⟩
       clear hm4 hz4
       simp only [Act.put, List.setIfInBounds_toArray, List.set_cons_succ, List.set_cons_zero]
       refine wpT_batchK [20, 21] 1 rfl (by kernel_rfl) (by kernel_rfl) (by simp only [pickL, nthL, List.cons_append, List.nil_append]; rfl) ?_
       repeat (go_big_quiet_step (fail))
       refine wpQuiet_nil ?_
       obtain ⟨pv4, cv4, hv4, -⟩ := HM4.out.list.form
       refine wpT_store (i := 22) (w' := w4.setCell ⟨m, 0, none⟩ v4) (by kernel_rfl) rfl (by rfl) (by subst hv4; simp [execOp, go_sem, m1, m2]) (.inl rfl) rfl ?_
       clear hv4
       refine wpT_end (by kernel_rfl) ?_
       go_wp2_with fail
       go_ret
       exact HFin.out
     ·have z2 : (ct == t) = true := by rw [beq_iff_eq]; exact h1
      have z3 : decide (cn < n) = false := by rw [decide_eq_false_iff_not]; omega
      have HEq : Hid (M.take k ++ [⟨n, t⟩] ++ M.drop k = setM L ⟨n, t⟩) := Lib.hid (by
       obtain ⟨h1, h2⟩ := takeWhile_at (p := fun x => lessM x ⟨n, t⟩) (L := M) (i := k) (by omega) HN.out hstop
       unfold setM insM
       rw [show cutM L (⟨n, t⟩ : Mo).n = M from HM.out, h1, h2, List.append_assoc]
       rfl)
      go_upto_region 7 with fail
      have HLt : Hid ((M.take k).length = k) := Lib.hid (by rw [List.length_take]; omega)
      have HLd : Hid ((M.drop k).length = M.length - k) := Lib.hid List.length_drop
      obtain ⟨D0, hD0⟩ : ∃ W, x.w = W := ⟨_, rfl⟩
      obtain ⟨D, hDD⟩ : ∃ W, D0.drew = W := ⟨_, rfl⟩
      have HD : Hid (Below w1.heap.size w1 D) := Lib.hid (by rw [← hDD, ← hD0]; exact ext_drew (ext_later (ext_refl w1) x))
      have HTk := Lib.hid ((HS.out.below HD.out).take (m := k) (by omega))
      have hdr := (HS.out.below HD.out).drop (m := k) (by omega)
      rw [if_neg (by omega), Option.map_some, addr_off] at hdr
      rw [show k * elemMo.k = k * 2 from rfl] at hdr
      have HDr := Lib.hid hdr
      have hd0 : D.cell? ⟨m, 0, none⟩ = some (.slice (some ⟨b, o, none⟩) M.length cap) := (HD.out.cell (p := ⟨m, 0, none⟩) hlt).trans e0
      have hml : m < D.heap.size := Nat.lt_of_lt_of_le hlt HD.out.size
      rw [hD0]
      refine wp_region_taken [22] (fun k => k < D.heap.size) (by kernel_rfl) (n := 23) rfl (fresh := Array.replicate 23 false) rfl ?_
      rw [hDD]
      clear hD0 hDD hdr
      refine wpT_batchK [0, 1, 2, 3, 4, 5, 6, 8, 9, 10, 13, 14, 15, 16, 17, 18] 7 rfl (by kernel_rfl) (by kernel_rfl) (by simp only [pickL, nthL, List.cons_append, List.nil_append]; rfl) ?_
      repeat (go_big_quiet_step (fail))
      refine wpQuiet_nil ?_
      refine wpT_two (i := 7) (j := 11) (by kernel_rfl) ?_ ?_
      ·refine opT_append (E := elemMo) (d := some 77) (w0 := D) (v := .slice none 0 0) (v2 := .slice (some ⟨b, o, none⟩) k cap) (xs := []) (l2 := M.take k) rfl (by rfl) rfl rfl rfl (madeE_nil (Below.refl _ _)) HTk.out (by rw [HLt.out]; show (0 + k) * 16 ≤ _; omega) (fun k hk => hk) rfl ?_
       intro v1 w2 hm2 hz2
       rw [List.nil_append] at hm2
       simp only [Act.put, List.setIfInBounds_toArray, List.set_cons_succ, List.set_cons_zero]
       refine wpT_just (i := 11) (by kernel_rfl) ?_
       refine opT_value (d := some 81) (v := .slice (some ⟨w2.heap.size, 0, none⟩) 1 1) (w' := w2.alloc (.cells #[.int .i64 n, .int .i64 t] 131)) rfl (by rfl) (by simp [execOp, Instr.buildSlice, go_sem]) (.inr (GK.of_below (ext_alloc (ext_refl w2) _) fun k hk => Nat.lt_of_lt_of_le hk hz2)) rfl ?_
       have HSrc := Lib.hid (srcE_one (E := elemMo) (x := ⟨n, t⟩) (heap_alloc_new w2 (.cells #[.int .i64 n, .int .i64 t] 131)) rfl)
       have HM2 := Lib.hid (hm2.later ⟨w2.alloc (.cells #[.int .i64 n, .int .i64 t] 131), ext_alloc (ext_refl w2) _⟩)
       dsimp only at HM2
       simp only [Act.put, List.setIfInBounds_toArray, List.set_cons_succ, List.set_cons_zero]
       obtain ⟨bn, hbn⟩ : ∃ b, w2.heap.size = b := ⟨_, rfl⟩
       rw [hbn] at HSrc ⊢
       clear hm2 hz2 hbn
       refine wpT_append (E := elemMo) (i := 12) (d := some 82) (w0 := D) (v := v1) (v2 := .slice (some ⟨bn, 0, none⟩) 1 1) (xs := M.take k) (l2 := [⟨n, t⟩]) (by kernel_rfl) rfl (by rfl) rfl rfl rfl HM2.out HSrc.out (by rw [HLt.out]; show (k + 1) * 16 ≤ _; omega) (fun k hk => hk) rfl ?_
       intro v3 w3 hm3 hz3
       have HM3 := Lib.hid hm3
       have HD3 := Lib.hid (HDr.out.below hm3.2)
       clear hm3 hz3
       simp only [Act.put, List.setIfInBounds_toArray, List.set_cons_succ, List.set_cons_zero]
       refine wpT_append (E := elemMo) (i := 19) (d := some 89) (w0 := D) (v := v3) (v2 := .slice (some ⟨b, o + k * 2, none⟩) (M.length - k) (cap - k)) (xs := M.take k ++ [⟨n, t⟩]) (l2 := M.drop k) (by kernel_rfl) rfl (by rfl) rfl rfl rfl HM3.out HD3.out (by rw [List.length_append, HLt.out, HLd.out]; show (k + 1 + (M.length - k)) * 16 ≤ _; omega) (fun k hk => hk) rfl ?_
       intro v4 w4 hm4 hz4
       have HM4 := Lib.hid hm4
       have hq4 : w4.heap[m]? = some (.cells #[.slice (some ⟨b, o, none⟩) M.length cap] 86 (0, 0)) := ((HD.out.trans (hm4.2.mono HD.out.size)).block m hlt).trans HQ.out
       have m1 : w4.cell? ⟨m, 0, none⟩ = some (.slice (some ⟨b, o, none⟩) M.length cap) := by simp [World.cell?, hq4]
       have m2 : w4.frozen? ⟨m, 0, none⟩ = false := by simp [World.frozen?, hq4]
       have HFin : Hid (SetEnd m L ⟨n, t⟩ H w (.returned (.bool true)) (w4.setCell ⟨m, 0, none⟩ v4)) := Lib.hid ⟨by rw [HOk.out], by
        rw [HOk.out, if_pos rfl]
        exact HRc.out.trans fun H' hr => by
         have := rc_done hr HD.out HM4.out hq4
         rw [HEq.out] at this
         exact this⟩
       clear hm4 hz4
       simp only [Act.put, List.setIfInBounds_toArray, List.set_cons_succ, List.set_cons_zero]
       refine wpT_batchK [20, 21] 1 rfl (by kernel_rfl) (by kernel_rfl) (by simp only [pickL, nthL, List.cons_append, List.nil_append]; rfl) ?_
       repeat (go_big_quiet_step (fail))
       refine wpQuiet_nil ?_
       obtain ⟨pv4, cv4, hv4, -⟩ := HM4.out.list.form
       refine wpT_store (i := 22) (w' := w4.setCell ⟨m, 0, none⟩ v4) (by kernel_rfl) rfl (by rfl) (by subst hv4; simp [execOp, go_sem, m1, m2]) (.inl rfl) rfl ?_
       clear hv4
       refine wpT_end (by kernel_rfl) ?_
       go_wp2_with fail
       go_ret
       exact HFin.out
      ·refine opT_value (d := some 81) (v := .slice (some ⟨D.heap.size, 0, none⟩) 1 1) (w' := D.alloc (.cells #[.int .i64 n, .int .i64 t] 131)) rfl (by rfl) (by simp [execOp, Instr.buildSlice, go_sem]) (.inr (GK.of_below (ext_alloc (ext_refl D) _) fun k hk => hk)) rfl ?_
       simp only [Act.put, List.setIfInBounds_toArray, List.set_cons_succ, List.set_cons_zero]
       refine wpT_just (i := 7) (by kernel_rfl) ?_
       refine opT_append (E := elemMo) (d := some 77) (w0 := D.alloc (.cells #[.int .i64 n, .int .i64 t] 131)) (v := .slice none 0 0) (v2 := .slice (some ⟨b, o, none⟩) k cap) (xs := []) (l2 := M.take k) rfl (by rfl) rfl rfl rfl (madeE_nil (Below.refl _ _)) (HTk.out.below (ext_alloc (ext_refl D) _)) (by rw [HLt.out]; show (0 + k) * 16 ≤ _; omega) (fun k hk => Nat.lt_of_lt_of_le hk (ext_alloc (ext_refl D) _).size) rfl ?_
       intro v1 w2 hm2 hz2
       rw [List.nil_append] at hm2
       have HSrc := Lib.hid ((srcE_one (E := elemMo) (x := ⟨n, t⟩) (heap_alloc_new D (.cells #[.int .i64 n, .int .i64 t] 131)) rfl).below hm2.2)
       have HM2 := Lib.hid (hm2.base (ext_alloc (ext_refl D) _))
       simp only [Act.put, List.setIfInBounds_toArray, List.set_cons_succ, List.set_cons_zero]
       clear hm2 hz2
       refine wpT_append (E := elemMo) (i := 12) (d := some 82) (w0 := D) (v := v1) (v2 := .slice (some ⟨D.heap.size, 0, none⟩) 1 1) (xs := M.take k) (l2 := [⟨n, t⟩]) (by kernel_rfl) rfl (by rfl) rfl rfl rfl HM2.out HSrc.out (by rw [HLt.out]; show (k + 1) * 16 ≤ _; omega) (fun k hk => hk) rfl ?_
       intro v3 w3 hm3 hz3
       have HM3 := Lib.hid hm3
       have HD3 := Lib.hid (HDr.out.below hm3.2)
       clear hm3 hz3
       simp only [Act.put, List.setIfInBounds_toArray, List.set_cons_succ, List.set_cons_zero]
       refine wpT_append (E := elemMo) (i := 19) (d := some 89) (w0 := D) (v := v3) (v2 := .slice (some ⟨b, o + k * 2, none⟩) (M.length - k) (cap - k)) (xs := M.take k ++ [⟨n, t⟩]) (l2 := M.drop k) (by kernel_rfl) rfl (by rfl) rfl rfl rfl HM3.out HD3.out (by rw [List.length_append, HLt.out, HLd.out]; show (k + 1 + (M.length - k)) * 16 ≤ _; omega) (fun k hk => hk) rfl ?_
       intro v4 w4 hm4 hz4
       have HM4 := Lib.hid hm4
       have hq4 : w4.heap[m]? = some (.cells #[.slice (some ⟨b, o, none⟩) M.length cap] 86 (0, 0)) := ((HD.out.trans (hm4.2.mono HD.out.size)).block m hlt).trans HQ.out
       have m1 : w4.cell? ⟨m, 0, none⟩ = some (.slice (some ⟨b, o, none⟩) M.length cap) := by simp [World.cell?, hq4]
       have m2 : w4.frozen? ⟨m, 0, none⟩ = false := by simp [World.frozen?, hq4]
       have HFin : Hid (SetEnd m L ⟨n, t⟩ H w (.returned (.bool true)) (w4.setCell ⟨m, 0, none⟩ v4)) := Lib.hid ⟨by rw [HOk.out], by
        rw [HOk.out, if_pos rfl]
        exact HRc.out.trans fun H' hr => by
         have := rc_done hr HD.out HM4.out hq4
         rw [HEq.out] at this
         exact this⟩
       clear hm4 hz4
       simp only [Act.put, List.setIfInBounds_toArray, List.set_cons_succ, List.set_cons_zero]
       refine wpT_batchK [20, 21] 1 rfl (by kernel_rfl) (by kernel_rfl) (by simp only [pickL, nthL, List.cons_append, List.nil_append]; rfl) ?_
       repeat (go_big_quiet_step (fail))
       refine wpQuiet_nil ?_
       obtain ⟨pv4, cv4, hv4, -⟩ := HM4.out.list.form
       refine wpT_store (i := 22) (w' := w4.setCell ⟨m, 0, none⟩ v4) (by kernel_rfl) rfl (by rfl) (by subst hv4; simp [execOp, go_sem, m1, m2]) (.inl rfl) rfl ?_
       clear hv4
       refine wpT_end (by kernel_rfl) ?_
       go_wp2_with fail
       go_ret
       exact HFin.out
   ·have hkM : k = M.length := by omega
    have hstop : ∀ y, M[k]? = some y → lessM y ⟨n, t⟩ = false := fun y hy => by rw [hkM] at hy; simp at hy
    have HkM := Lib.hid hkM
    clear hkM
    have hkd : decide ((k : Int) < (M.length : Int)) = false := by simp; omega
    by_cases hM0 : M = []
    ·obtain rfl : k = 0 := by rw [hM0] at hk; simpa using hk
     subst hM0
     rw [List.length_nil] at e0 HS HQ hkd
     cases p with
     | none =>
      obtain rfl : cap = 0 := by
       obtain ⟨_, p', cap', e, _, h1⟩ := HS.out
       obtain ⟨rfl, _, rfl⟩ := Value.slice.inj e
       exact h1 rfl
      go_upto_region 7 with fail
      have HLt : Hid (([] : List Mo).length = 0) := Lib.hid rfl
      have HEq : Hid (([] : List Mo) ++ [⟨n, t⟩] ++ [] = setM L ⟨n, t⟩) := Lib.hid (by unfold setM; rw [show cutM L (⟨n, t⟩ : Mo).n = [] from HM.out]; rfl)
      obtain ⟨D0, hD0⟩ : ∃ W, x.w = W := ⟨_, rfl⟩
      obtain ⟨D, hDD⟩ : ∃ W, D0.drew = W := ⟨_, rfl⟩
      have HD : Hid (Below w1.heap.size w1 D) := Lib.hid (by rw [← hDD, ← hD0]; exact ext_drew (ext_later (ext_refl w1) x))
      have HTk : Hid (SrcE elemMo D (.slice none 0 0) []) := Lib.hid ⟨.inl ⟨rfl, _, _, rfl⟩, _, _, rfl, Nat.zero_le _, fun h => by cases h <;> rfl⟩
      have HDr : Hid (SrcE elemMo D (.slice none 0 0) []) := Lib.hid ⟨.inl ⟨rfl, _, _, rfl⟩, _, _, rfl, Nat.zero_le _, fun h => by cases h <;> rfl⟩
      have hd0 : D.cell? ⟨m, 0, none⟩ = some (.slice none 0 0) := (HD.out.cell (p := ⟨m, 0, none⟩) hlt).trans e0
      have hml : m < D.heap.size := Nat.lt_of_lt_of_le hlt HD.out.size
      rw [hD0]
      refine wp_region_taken [22] (fun k => k < D.heap.size) (by kernel_rfl) (n := 23) rfl (fresh := Array.replicate 23 false) rfl ?_
      rw [hDD]
      clear hD0 hDD
      refine wpT_batchK [0, 1, 2, 3, 4, 5, 6, 8, 9, 10, 13, 14, 15, 16, 17, 18] 7 rfl (by kernel_rfl) (by kernel_rfl) (by simp only [pickL, nthL, List.cons_append, List.nil_append]; rfl) ?_
      repeat (go_big_quiet_step (fail))
      refine wpQuiet_nil ?_
      refine wpT_two (i := 7) (j := 11) (by kernel_rfl) ?_ ?_
      ·refine opT_append (E := elemMo) (d := some 77) (w0 := D) (v := .slice none 0 0) (v2 := .slice none 0 0) (xs := []) (l2 := ([] : List Mo)) rfl (by rfl) rfl rfl rfl (madeE_nil (Below.refl _ _)) HTk.out (by rw [HLt.out]; show (0 + 0) * 16 ≤ _; omega) (fun k hk => hk) rfl ?_
       intro v1 w2 hm2 hz2
       rw [List.nil_append] at hm2
       simp only [Act.put, List.setIfInBounds_toArray, List.set_cons_succ, List.set_cons_zero]
       refine wpT_just (i := 11) (by kernel_rfl) ?_
       refine opT_value (d := some 81) (v := .slice (some ⟨w2.heap.size, 0, none⟩) 1 1) (w' := w2.alloc (.cells #[.int .i64 n, .int .i64 t] 131)) rfl (by rfl) (by simp [execOp, Instr.buildSlice, go_sem]) (.inr (GK.of_below (ext_alloc (ext_refl w2) _) fun k hk => Nat.lt_of_lt_of_le hk hz2)) rfl ?_
       have HSrc := Lib.hid (srcE_one (E := elemMo) (x := ⟨n, t⟩) (heap_alloc_new w2 (.cells #[.int .i64 n, .int .i64 t] 131)) rfl)
       have HM2 := Lib.hid (hm2.later ⟨w2.alloc (.cells #[.int .i64 n, .int .i64 t] 131), ext_alloc (ext_refl w2) _⟩)
       dsimp only at HM2
       simp only [Act.put, List.setIfInBounds_toArray, List.set_cons_succ, List.set_cons_zero]
       obtain ⟨bn, hbn⟩ : ∃ b, w2.heap.size = b := ⟨_, rfl⟩
       rw [hbn] at HSrc ⊢
       clear hm2 hz2 hbn
       refine wpT_append (E := elemMo) (i := 12) (d := some 82) (w0 := D) (v := v1) (v2 := .slice (some ⟨bn, 0, none⟩) 1 1) (xs := ([] : List Mo)) (l2 := [⟨n, t⟩]) (by kernel_rfl) rfl (by rfl) rfl rfl rfl HM2.out HSrc.out (by rw [HLt.out]; show (0 + 1) * 16 ≤ _; omega) (fun k hk => hk) rfl ?_
       intro v3 w3 hm3 hz3
       have HM3 := Lib.hid hm3
       have HD3 := Lib.hid (HDr.out.below hm3.2)
       clear hm3 hz3
       simp only [Act.put, List.setIfInBounds_toArray, List.set_cons_succ, List.set_cons_zero]
       refine wpT_append (E := elemMo) (i := 19) (d := some 89) (w0 := D) (v := v3) (v2 := .slice none 0 0) (xs := ([] : List Mo) ++ [⟨n, t⟩]) (l2 := ([] : List Mo)) (by kernel_rfl) rfl (by rfl) rfl rfl rfl HM3.out HD3.out (by rw [List.length_append, HLt.out]; show (0 + 1 + 0) * 16 ≤ _; omega) (fun k hk => hk) rfl ?_
       intro v4 w4 hm4 hz4
       have HM4 := Lib.hid hm4
       have hq4 : w4.heap[m]? = some (.cells #[.slice none 0 0] 86 (0, 0)) := ((HD.out.trans (hm4.2.mono HD.out.size)).block m hlt).trans HQ.out
       have m1 : w4.cell? ⟨m, 0, none⟩ = some (.slice none 0 0) := by simp [World.cell?, hq4]
       have m2 : w4.frozen? ⟨m, 0, none⟩ = false := by simp [World.frozen?, hq4]
       have HFin : Hid (SetEnd m L ⟨n, t⟩ H w (.returned (.bool true)) (w4.setCell ⟨m, 0, none⟩ v4)) := Lib.hid ⟨by rw [HOk.out], by
        rw [HOk.out, if_pos rfl]
        exact HRc.out.trans fun H' hr => by
         have := rc_done hr HD.out HM4.out hq4
         rw [HEq.out] at this
         exact this⟩
       clear hm4 hz4
       simp only [Act.put, List.setIfInBounds_toArray, List.set_cons_succ, List.set_cons_zero]
       refine wpT_batchK [20, 21] 1 rfl (by kernel_rfl) (by kernel_rfl) (by simp only [pickL, nthL, List.cons_append, List.nil_append]; rfl) ?_
       repeat (go_big_quiet_step (fail))
       refine wpQuiet_nil ?_
       obtain ⟨pv4, cv4, hv4, -⟩ := HM4.out.list.form
       refine wpT_store (i := 22) (w' := w4.setCell ⟨m, 0, none⟩ v4) (by kernel_rfl) rfl (by rfl) (by subst hv4; simp [execOp, go_sem, m1, m2]) (.inl rfl) rfl ?_
       clear hv4
       refine wpT_end (by kernel_rfl) ?_
       go_wp2_with fail
       go_ret
       exact HFin.out
      ·refine opT_value (d := some 81) (v := .slice (some ⟨D.heap.size, 0, none⟩) 1 1) (w' := D.alloc (.cells #[.int .i64 n, .int .i64 t] 131)) rfl (by rfl) (by simp [execOp, Instr.buildSlice, go_sem]) (.inr (GK.of_below (ext_alloc (ext_refl D) _) fun k hk => hk)) rfl ?_
       simp only [Act.put, List.setIfInBounds_toArray, List.set_cons_succ, List.set_cons_zero]
       refine wpT_just (i := 7) (by kernel_rfl) ?_
       refine opT_append (E := elemMo) (d := some 77) (w0 := D.alloc (.cells #[.int .i64 n, .int .i64 t] 131)) (v := .slice none 0 0) (v2 := .slice none 0 0) (xs := []) (l2 := ([] : List Mo)) rfl (by rfl) rfl rfl rfl (madeE_nil (Below.refl _ _)) (HTk.out.below (ext_alloc (ext_refl D) _)) (by rw [HLt.out]; show (0 + 0) * 16 ≤ _; omega) (fun k hk => Nat.lt_of_lt_of_le hk (ext_alloc (ext_refl D) _).size) rfl ?_
       intro v1 w2 hm2 hz2
       rw [List.nil_append] at hm2
       have HSrc := Lib.hid ((srcE_one (E := elemMo) (x := ⟨n, t⟩) (heap_alloc_new D (.cells #[.int .i64 n, .int .i64 t] 131)) rfl).below hm2.2)
       have HM2 := Lib.hid (hm2.base (ext_alloc (ext_refl D) _))
       simp only [Act.put, List.setIfInBounds_toArray, List.set_cons_succ, List.set_cons_zero]
       clear hm2 hz2
       refine wpT_append (E := elemMo) (i := 12) (d := some 82) (w0 := D) (v := v1) (v2 := .slice (some ⟨D.heap.size, 0, none⟩) 1 1) (xs := ([] : List Mo)) (l2 := [⟨n, t⟩]) (by kernel_rfl) rfl (by rfl) rfl rfl rfl HM2.out HSrc.out (by rw [HLt.out]; show (0 + 1) * 16 ≤ _; omega) (fun k hk => hk) rfl ?_
       intro v3 w3 hm3 hz3
       have HM3 := Lib.hid hm3
       have HD3 := Lib.hid (HDr.out.below hm3.2)
       clear hm3 hz3
       simp only [Act.put, List.setIfInBounds_toArray, List.set_cons_succ, List.set_cons_zero]
       refine wpT_append (E := elemMo) (i := 19) (d := some 89) (w0 := D) (v := v3) (v2 := .slice none 0 0) (xs := ([] : List Mo) ++ [⟨n, t⟩]) (l2 := ([] : List Mo)) (by kernel_rfl) rfl (by rfl) rfl rfl rfl HM3.out HD3.out (by rw [List.length_append, HLt.out]; show (0 + 1 + 0) * 16 ≤ _; omega) (fun k hk => hk) rfl ?_
       intro v4 w4 hm4 hz4
       have HM4 := Lib.hid hm4
       have hq4 : w4.heap[m]? = some (.cells #[.slice none 0 0] 86 (0, 0)) := ((HD.out.trans (hm4.2.mono HD.out.size)).block m hlt).trans HQ.out
       have m1 : w4.cell? ⟨m, 0, none⟩ = some (.slice none 0 0) := by simp [World.cell?, hq4]
       have m2 : w4.frozen? ⟨m, 0, none⟩ = false := by simp [World.frozen?, hq4]
       have HFin : Hid (SetEnd m L ⟨n, t⟩ H w (.returned (.bool true)) (w4.setCell ⟨m, 0, none⟩ v4)) := Lib.hid ⟨by rw [HOk.out], by
        rw [HOk.out, if_pos rfl]
        exact HRc.out.trans fun H' hr => by
         have := rc_done hr HD.out HM4.out hq4
         rw [HEq.out] at this
         exact this⟩
       clear hm4 hz4
       simp only [Act.put, List.setIfInBounds_toArray, List.set_cons_succ, List.set_cons_zero]
       refine wpT_batchK [20, 21] 1 rfl (by kernel_rfl) (by kernel_rfl) (by simp only [pickL, nthL, List.cons_append, List.nil_append]; rfl) ?_
       repeat (go_big_quiet_step (fail))
       refine wpQuiet_nil ?_
       obtain ⟨pv4, cv4, hv4, -⟩ := HM4.out.list.form
       refine wpT_store (i := 22) (w' := w4.setCell ⟨m, 0, none⟩ v4) (by kernel_rfl) rfl (by rfl) (by subst hv4; simp [execOp, go_sem, m1, m2]) (.inl rfl) rfl ?_
       clear hv4
       refine wpT_end (by kernel_rfl) ?_
       go_wp2_with fail
       go_ret
       exact HFin.out
     | some ad =>
      by_cases hkc2 : 0 < cap
      ·go_upto_region 7 with fail
       have HLt : Hid (([] : List Mo).length = 0) := Lib.hid rfl
       have HEq : Hid (([] : List Mo) ++ [⟨n, t⟩] ++ [] = setM L ⟨n, t⟩) := Lib.hid (by unfold setM; rw [show cutM L (⟨n, t⟩ : Mo).n = [] from HM.out]; rfl)
       obtain ⟨D0, hD0⟩ : ∃ W, x.w = W := ⟨_, rfl⟩
       obtain ⟨D, hDD⟩ : ∃ W, D0.drew = W := ⟨_, rfl⟩
       have HD : Hid (Below w1.heap.size w1 D) := Lib.hid (by rw [← hDD, ← hD0]; exact ext_drew (ext_later (ext_refl w1) x))
       have HTk : Hid (SrcE elemMo D (.slice (some ad) 0 cap) []) := Lib.hid ⟨.inl ⟨rfl, _, _, rfl⟩, _, _, rfl, Nat.zero_le _, fun h => by cases h <;> rfl⟩
       have HDr : Hid (SrcE elemMo D (.slice (some ad) 0 cap) []) := Lib.hid ⟨.inl ⟨rfl, _, _, rfl⟩, _, _, rfl, Nat.zero_le _, fun h => by cases h <;> rfl⟩
       have hd0 : D.cell? ⟨m, 0, none⟩ = some (.slice (some ad) 0 cap) := (HD.out.cell (p := ⟨m, 0, none⟩) hlt).trans e0
       have hml : m < D.heap.size := Nat.lt_of_lt_of_le hlt HD.out.size
       rw [hD0]
       refine wp_region_taken [22] (fun k => k < D.heap.size) (by kernel_rfl) (n := 23) rfl (fresh := Array.replicate 23 false) rfl ?_
       rw [hDD]
       clear hD0 hDD
       refine wpT_batchK [0, 1, 2, 3, 4, 5, 6, 8, 9, 10, 13, 14, 15, 16, 17, 18] 7 rfl (by kernel_rfl) (by kernel_rfl) (by simp only [pickL, nthL, List.cons_append, List.nil_append]; rfl) ?_
       repeat (go_big_quiet_step (fail))
       refine wpQuiet_nil ?_
       refine wpT_two (i := 7) (j := 11) (by kernel_rfl) ?_ ?_
       ·refine opT_append (E := elemMo) (d := some 77) (w0 := D) (v := .slice none 0 0) (v2 := .slice (some ad) 0 cap) (xs := []) (l2 := ([] : List Mo)) rfl (by rfl) rfl rfl rfl (madeE_nil (Below.refl _ _)) HTk.out (by rw [HLt.out]; show (0 + 0) * 16 ≤ _; omega) (fun k hk => hk) rfl ?_
        intro v1 w2 hm2 hz2
        rw [List.nil_append] at hm2
        simp only [Act.put, List.setIfInBounds_toArray, List.set_cons_succ, List.set_cons_zero]
        refine wpT_just (i := 11) (by kernel_rfl) ?_
        refine opT_value (d := some 81) (v := .slice (some ⟨w2.heap.size, 0, none⟩) 1 1) (w' := w2.alloc (.cells #[.int .i64 n, .int .i64 t] 131)) rfl (by rfl) (by simp [execOp, Instr.buildSlice, go_sem]) (.inr (GK.of_below (ext_alloc (ext_refl w2) _) fun k hk => Nat.lt_of_lt_of_le hk hz2)) rfl ?_
        have HSrc := Lib.hid (srcE_one (E := elemMo) (x := ⟨n, t⟩) (heap_alloc_new w2 (.cells #[.int .i64 n, .int .i64 t] 131)) rfl)
        have HM2 := Lib.hid (hm2.later ⟨w2.alloc (.cells #[.int .i64 n, .int .i64 t] 131), ext_alloc (ext_refl w2) _⟩)
        dsimp only at HM2
        simp only [Act.put, List.setIfInBounds_toArray, List.set_cons_succ, List.set_cons_zero]
        obtain ⟨bn, hbn⟩ : ∃ b, w2.heap.size = b := ⟨_, rfl⟩
        rw [hbn] at HSrc ⊢
        clear hm2 hz2 hbn
        refine wpT_append (E := elemMo) (i := 12) (d := some 82) (w0 := D) (v := v1) (v2 := .slice (some ⟨bn, 0, none⟩) 1 1) (xs := ([] : List Mo)) (l2 := [⟨n, t⟩]) (by kernel_rfl) rfl (by rfl) rfl rfl rfl HM2.out HSrc.out (by rw [HLt.out]; show (0 + 1) * 16 ≤ _; omega) (fun k hk => hk) rfl ?_
        intro v3 w3 hm3 hz3
        have HM3 := Lib.hid hm3
        have HD3 := Lib.hid (HDr.out.below hm3.2)
        clear hm3 hz3
        simp only [Act.put, List.setIfInBounds_toArray, List.set_cons_succ, List.set_cons_zero]
        refine wpT_append (E := elemMo) (i := 19) (d := some 89) (w0 := D) (v := v3) (v2 := .slice (some ad) 0 cap) (xs := ([] : List Mo) ++ [⟨n, t⟩]) (l2 := ([] : List Mo)) (by kernel_rfl) rfl (by rfl) rfl rfl rfl HM3.out HD3.out (by rw [List.length_append, HLt.out]; show (0 + 1 + 0) * 16 ≤ _; omega) (fun k hk => hk) rfl ?_
        intro v4 w4 hm4 hz4
        have HM4 := Lib.hid hm4
        have hq4 : w4.heap[m]? = some (.cells #[.slice (some ad) 0 cap] 86 (0, 0)) := ((HD.out.trans (hm4.2.mono HD.out.size)).block m hlt).trans HQ.out
        have m1 : w4.cell? ⟨m, 0, none⟩ = some (.slice (some ad) 0 cap) := by simp [World.cell?, hq4]
        have m2 : w4.frozen? ⟨m, 0, none⟩ = false := by simp [World.frozen?, hq4]
        have HFin : Hid (SetEnd m L ⟨n, t⟩ H w (.returned (.bool true)) (w4.setCell ⟨m, 0, none⟩ v4)) := Lib.hid ⟨by rw [HOk.out], by
         rw [HOk.out, if_pos rfl]
         exact HRc.out.trans fun H' hr => by
          have := rc_done hr HD.out HM4.out hq4
          rw [HEq.out] at this
          exact this⟩
        clear hm4 hz4
        simp only [Act.put, List.setIfInBounds_toArray, List.set_cons_succ, List.set_cons_zero]
        refine wpT_batchK [20, 21] 1 rfl (by kernel_rfl) (by kernel_rfl) (by simp only [pickL, nthL, List.cons_append, List.nil_append]; rfl) ?_
        repeat (go_big_quiet_step (fail))
        refine wpQuiet_nil ?_
        obtain ⟨pv4, cv4, hv4, -⟩ := HM4.out.list.form
        refine wpT_store (i := 22) (w' := w4.setCell ⟨m, 0, none⟩ v4) (by kernel_rfl) rfl (by rfl) (by subst hv4; simp [execOp, go_sem, m1, m2]) (.inl rfl) rfl ?_
        clear hv4
        refine wpT_end (by kernel_rfl) ?_
        go_wp2_with fail
        go_ret
        exact HFin.out
       ·refine opT_value (d := some 81) (v := .slice (some ⟨D.heap.size, 0, none⟩) 1 1) (w' := D.alloc (.cells #[.int .i64 n, .int .i64 t] 131)) rfl (by rfl) (by simp [execOp, Instr.buildSlice, go_sem]) (.inr (GK.of_below (ext_alloc (ext_refl D) _) fun k hk => hk)) rfl ?_
        simp only [Act.put, List.setIfInBounds_toArray, List.set_cons_succ, List.set_cons_zero]
        refine wpT_just (i := 7) (by kernel_rfl) ?_
        refine opT_append (E := elemMo) (d := some 77) (w0 := D.alloc (.cells #[.int .i64 n, .int .i64 t] 131)) (v := .slice none 0 0) (v2 := .slice (some ad) 0 cap) (xs := []) (l2 := ([] : List Mo)) rfl (by rfl) rfl rfl rfl (madeE_nil (Below.refl _ _)) (HTk.out.below (ext_alloc (ext_refl D) _)) (by rw [HLt.out]; show (0 + 0) * 16 ≤ _; omega) (fun k hk => Nat.lt_of_lt_of_le hk (ext_alloc (ext_refl D) _).size) rfl ?_
        intro v1 w2 hm2 hz2
        rw [List.nil_append] at hm2
        have HSrc := Lib.hid ((srcE_one (E := elemMo) (x := ⟨n, t⟩) (heap_alloc_new D (.cells #[.int .i64 n, .int .i64 t] 131)) rfl).below hm2.2)
        have HM2 := Lib.hid (hm2.base (ext_alloc (ext_refl D) _))
        simp only [Act.put, List.setIfInBounds_toArray, List.set_cons_succ, List.set_cons_zero]
        clear hm2 hz2
        refine wpT_append (E := elemMo) (i := 12) (d := some 82) (w0 := D) (v := v1) (v2 := .slice (some ⟨D.heap.size, 0, none⟩) 1 1) (xs := ([] : List Mo)) (l2 := [⟨n, t⟩]) (by kernel_rfl) rfl (by rfl) rfl rfl rfl HM2.out HSrc.out (by rw [HLt.out]; show (0 + 1) * 16 ≤ _; omega) (fun k hk => hk) rfl ?_
        intro v3 w3 hm3 hz3
        have HM3 := Lib.hid hm3
        have HD3 := Lib.hid (HDr.out.below hm3.2)
        clear hm3 hz3
        simp only [Act.put, List.setIfInBounds_toArray, List.set_cons_succ, List.set_cons_zero]
        refine wpT_append (E := elemMo) (i := 19) (d := some 89) (w0 := D) (v := v3) (v2 := .slice (some ad) 0 cap) (xs := ([] : List Mo) ++ [⟨n, t⟩]) (l2 := ([] : List Mo)) (by kernel_rfl) rfl (by rfl) rfl rfl rfl HM3.out HD3.out (by rw [List.length_append, HLt.out]; show (0 + 1 + 0) * 16 ≤ _; omega) (fun k hk => hk) rfl ?_
        intro v4 w4 hm4 hz4
        have HM4 := Lib.hid hm4
        have hq4 : w4.heap[m]? = some (.cells #[.slice (some ad) 0 cap] 86 (0, 0)) := ((HD.out.trans (hm4.2.mono HD.out.size)).block m hlt).trans HQ.out
        have m1 : w4.cell? ⟨m, 0, none⟩ = some (.slice (some ad) 0 cap) := by simp [World.cell?, hq4]
        have m2 : w4.frozen? ⟨m, 0, none⟩ = false := by simp [World.frozen?, hq4]
        have HFin : Hid (SetEnd m L ⟨n, t⟩ H w (.returned (.bool true)) (w4.setCell ⟨m, 0, none⟩ v4)) := Lib.hid ⟨by rw [HOk.out], by
         rw [HOk.out, if_pos rfl]
         exact HRc.out.trans fun H' hr => by
          have := rc_done hr HD.out HM4.out hq4
          rw [HEq.out] at this
          exact this⟩
        clear hm4 hz4
        simp only [Act.put, List.setIfInBounds_toArray, List.set_cons_succ, List.set_cons_zero]
        refine wpT_batchK [20, 21] 1 rfl (by kernel_rfl) (by kernel_rfl) (by simp only [pickL, nthL, List.cons_append, List.nil_append]; rfl) ?_
        repeat (go_big_quiet_step (fail))
        refine wpQuiet_nil ?_
        obtain ⟨pv4, cv4, hv4, -⟩ := HM4.out.list.form
        refine wpT_store (i := 22) (w' := w4.setCell ⟨m, 0, none⟩ v4) (by kernel_rfl) rfl (by rfl) (by subst hv4; simp [execOp, go_sem, m1, m2]) (.inl rfl) rfl ?_
        clear hv4
        refine wpT_end (by kernel_rfl) ?_
        go_wp2_with fail
        go_ret
        exact HFin.out
      ·obtain rfl : cap = 0 := by omega
       go_upto_region 7 with fail
       have HLt : Hid (([] : List Mo).length = 0) := Lib.hid rfl
       have HEq : Hid (([] : List Mo) ++ [⟨n, t⟩] ++ [] = setM L ⟨n, t⟩) := Lib.hid (by unfold setM; rw [show cutM L (⟨n, t⟩ : Mo).n = [] from HM.out]; rfl)
       obtain ⟨D0, hD0⟩ : ∃ W, x.w = W := ⟨_, rfl⟩
       obtain ⟨D, hDD⟩ : ∃ W, D0.drew = W := ⟨_, rfl⟩
       have HD : Hid (Below w1.heap.size w1 D) := Lib.hid (by rw [← hDD, ← hD0]; exact ext_drew (ext_later (ext_refl w1) x))
       have HTk : Hid (SrcE elemMo D (.slice (some ad) 0 0) []) := Lib.hid ⟨.inl ⟨rfl, _, _, rfl⟩, _, _, rfl, Nat.zero_le _, fun h => by cases h <;> rfl⟩
       have HDr : Hid (SrcE elemMo D (.slice (some ad) 0 0) []) := Lib.hid ⟨.inl ⟨rfl, _, _, rfl⟩, _, _, rfl, Nat.zero_le _, fun h => by cases h <;> rfl⟩
       have hd0 : D.cell? ⟨m, 0, none⟩ = some (.slice (some ad) 0 0) := (HD.out.cell (p := ⟨m, 0, none⟩) hlt).trans e0
       have hml : m < D.heap.size := Nat.lt_of_lt_of_le hlt HD.out.size
       rw [hD0]
       refine wp_region_taken [22] (fun k => k < D.heap.size) (by kernel_rfl) (n := 23) rfl (fresh := Array.replicate 23 false) rfl ?_
       rw [hDD]
       clear hD0 hDD
       refine wpT_batchK [0, 1, 2, 3, 4, 5, 6, 8, 9, 10, 13, 14, 15, 16, 17, 18] 7 rfl (by kernel_rfl) (by kernel_rfl) (by simp only [pickL, nthL, List.cons_append, List.nil_append]; rfl) ?_
       repeat (go_big_quiet_step (fail))
       refine wpQuiet_nil ?_
       refine wpT_two (i := 7) (j := 11) (by kernel_rfl) ?_ ?_
       ·refine opT_append (E := elemMo) (d := some 77) (w0 := D) (v := .slice none 0 0) (v2 := .slice (some ad) 0 0) (xs := []) (l2 := ([] : List Mo)) rfl (by rfl) rfl rfl rfl (madeE_nil (Below.refl _ _)) HTk.out (by rw [HLt.out]; show (0 + 0) * 16 ≤ _; omega) (fun k hk => hk) rfl ?_
        intro v1 w2 hm2 hz2
        rw [List.nil_append] at hm2
        simp only [Act.put, List.setIfInBounds_toArray, List.set_cons_succ, List.set_cons_zero]
        refine wpT_just (i := 11) (by kernel_rfl) ?_
        refine opT_value (d := some 81) (v := .slice (some ⟨w2.heap.size, 0, none⟩) 1 1) (w' := w2.alloc (.cells #[.int .i64 n, .int .i64 t] 131)) rfl (by rfl) (by simp [execOp, Instr.buildSlice, go_sem]) (.inr (GK.of_below (ext_alloc (ext_refl w2) _) fun k hk => Nat.lt_of_lt_of_le hk hz2)) rfl ?_
        have HSrc := Lib.hid (srcE_one (E := elemMo) (x := ⟨n, t⟩) (heap_alloc_new w2 (.cells #[.int .i64 n, .int .i64 t] 131)) rfl)
        have HM2 := Lib.hid (hm2.later ⟨w2.alloc (.cells #[.int .i64 n, .int .i64 t] 131), ext_alloc (ext_refl w2) _⟩)
        dsimp only at HM2
        simp only [Act.put, List.setIfInBounds_toArray, List.set_cons_succ, List.set_cons_zero]
        obtain ⟨bn, hbn⟩ : ∃ b, w2.heap.size = b := ⟨_, rfl⟩
        rw [hbn] at HSrc ⊢
        clear hm2 hz2 hbn
        refine wpT_append (E := elemMo) (i := 12) (d := some 82) (w0 := D) (v := v1) (v2 := .slice (some ⟨bn, 0, none⟩) 1 1) (xs := ([] : List Mo)) (l2 := [⟨n, t⟩]) (by kernel_rfl) rfl (by rfl) rfl rfl rfl HM2.out HSrc.out (by rw [HLt.out]; show (0 + 1) * 16 ≤ _; omega) (fun k hk => hk) rfl ?_
        intro v3 w3 hm3 hz3
        have HM3 := Lib.hid hm3
        have HD3 := Lib.hid (HDr.out.below hm3.2)
        clear hm3 hz3
        simp only [Act.put, List.setIfInBounds_toArray, List.set_cons_succ, List.set_cons_zero]
        refine wpT_append (E := elemMo) (i := 19) (d := some 89) (w0 := D) (v := v3) (v2 := .slice (some ad) 0 0) (xs := ([] : List Mo) ++ [⟨n, t⟩]) (l2 := ([] : List Mo)) (by kernel_rfl) rfl (by rfl) rfl rfl rfl HM3.out HD3.out (by rw [List.length_append, HLt.out]; show (0 + 1 + 0) * 16 ≤ _; omega) (fun k hk => hk) rfl ?_
        intro v4 w4 hm4 hz4
        have HM4 := Lib.hid hm4
        have hq4 : w4.heap[m]? = some (.cells #[.slice (some ad) 0 0] 86 (0, 0)) := ((HD.out.trans (hm4.2.mono HD.out.size)).block m hlt).trans HQ.out
        have m1 : w4.cell? ⟨m, 0, none⟩ = some (.slice (some ad) 0 0) := by simp [World.cell?, hq4]
        have m2 : w4.frozen? ⟨m, 0, none⟩ = false := by simp [World.frozen?, hq4]
        have HFin : Hid (SetEnd m L ⟨n, t⟩ H w (.returned (.bool true)) (w4.setCell ⟨m, 0, none⟩ v4)) := Lib.hid ⟨by rw [HOk.out], by
         rw [HOk.out, if_pos rfl]
         exact HRc.out.trans fun H' hr => by
          have := rc_done hr HD.out HM4.out hq4
          rw [HEq.out] at this
          exact this⟩
        clear hm4 hz4
        simp only [Act.put, List.setIfInBounds_toArray, List.set_cons_succ, List.set_cons_zero]
        refine wpT_batchK [20, 21] 1 rfl (by kernel_rfl) (by kernel_rfl) (by simp only [pickL, nthL, List.cons_append, List.nil_append]; rfl) ?_
        repeat (go_big_quiet_step (fail))
        refine wpQuiet_nil ?_
        obtain ⟨pv4, cv4, hv4, -⟩ := HM4.out.list.form
        refine wpT_store (i := 22) (w' := w4.setCell ⟨m, 0, none⟩ v4) (by kernel_rfl) rfl (by rfl) (by subst hv4; simp [execOp, go_sem, m1, m2]) (.inl rfl) rfl ?_
        clear hv4
        refine wpT_end (by kernel_rfl) ?_
        go_wp2_with fail
        go_ret
        exact HFin.out
       ·refine opT_value (d := some 81) (v := .slice (some ⟨D.heap.size, 0, none⟩) 1 1) (w' := D.alloc (.cells #[.int .i64 n, .int .i64 t] 131)) rfl (by rfl) (by simp [execOp, Instr.buildSlice, go_sem]) (.inr (GK.of_below (ext_alloc (ext_refl D) _) fun k hk => hk)) rfl ?_
        simp only [Act.put, List.setIfInBounds_toArray, List.set_cons_succ, List.set_cons_zero]
        refine wpT_just (i := 7) (by kernel_rfl) ?_
        refine opT_append (E := elemMo) (d := some 77) (w0 := D.alloc (.cells #[.int .i64 n, .int .i64 t] 131)) (v := .slice none 0 0) (v2 := .slice (some ad) 0 0) (xs := []) (l2 := ([] : List Mo)) rfl (by rfl) rfl rfl rfl (madeE_nil (Below.refl _ _)) (HTk.out.below (ext_alloc (ext_refl D) _)) (by rw [HLt.out]; show (0 + 0) * 16 ≤ _; omega) (fun k hk => Nat.lt_of_lt_of_le hk (ext_alloc (ext_refl D) _).size) rfl ?_
        intro v1 w2 hm2 hz2
        rw [List.nil_append] at hm2
        have HSrc := Lib.hid ((srcE_one (E := elemMo) (x := ⟨n, t⟩) (heap_alloc_new D (.cells #[.int .i64 n, .int .i64 t] 131)) rfl).below hm2.2)
        have HM2 := Lib.hid (hm2.base (ext_alloc (ext_refl D) _))
        simp only [Act.put, List.setIfInBounds_toArray, List.set_cons_succ, List.set_cons_zero]
        clear hm2 hz2
        refine wpT_append (E := elemMo) (i := 12) (d := some 82) (w0 := D) (v := v1) (v2 := .slice (some ⟨D.heap.size, 0, none⟩) 1 1) (xs := ([] : List Mo)) (l2 := [⟨n, t⟩]) (by kernel_rfl) rfl (by rfl) rfl rfl rfl HM2.out HSrc.out (by rw [HLt.out]; show (0 + 1) * 16 ≤ _; omega) (fun k hk => hk) rfl ?_
        intro v3 w3 hm3 hz3
        have HM3 := Lib.hid hm3
        have HD3 := Lib.hid (HDr.out.below hm3.2)
        clear hm3 hz3
        simp only [Act.put, List.setIfInBounds_toArray, List.set_cons_succ, List.set_cons_zero]
        refine wpT_append (E := elemMo) (i := 19) (d := some 89) (w0 := D) (v := v3) (v2 := .slice (some ad) 0 0) (xs := ([] : List Mo) ++ [⟨n, t⟩]) (l2 := ([] : List Mo)) (by kernel_rfl) rfl (by rfl) rfl rfl rfl HM3.out HD3.out (by rw [List.length_append, HLt.out]; show (0 + 1 + 0) * 16 ≤ _; omega) (fun k hk => hk) rfl ?_
        intro v4 w4 hm4 hz4
        have HM4 := Lib.hid hm4
        have hq4 : w4.heap[m]? = some (.cells #[.slice (some ad) 0 0] 86 (0, 0)) := ((HD.out.trans (hm4.2.mono HD.out.size)).block m hlt).trans HQ.out
        have m1 : w4.cell? ⟨m, 0, none⟩ = some (.slice (some ad) 0 0) := by simp [World.cell?, hq4]
        have m2 : w4.frozen? ⟨m, 0, none⟩ = false := by simp [World.frozen?, hq4]
        have HFin : Hid (SetEnd m L ⟨n, t⟩ H w (.returned (.bool true)) (w4.setCell ⟨m, 0, none⟩ v4)) := Lib.hid ⟨by rw [HOk.out], by
         rw [HOk.out, if_pos rfl]
         exact HRc.out.trans fun H' hr => by
          have := rc_done hr HD.out HM4.out hq4
          rw [HEq.out] at this
          exact this⟩
        clear hm4 hz4
        simp only [Act.put, List.setIfInBounds_toArray, List.set_cons_succ, List.set_cons_zero]
        refine wpT_batchK [20, 21] 1 rfl (by kernel_rfl) (by kernel_rfl) (by simp only [pickL, nthL, List.cons_append, List.nil_append]; rfl) ?_
        repeat (go_big_quiet_step (fail))
        refine wpQuiet_nil ?_
        obtain ⟨pv4, cv4, hv4, -⟩ := HM4.out.list.form
        refine wpT_store (i := 22) (w' := w4.setCell ⟨m, 0, none⟩ v4) (by kernel_rfl) rfl (by rfl) (by subst hv4; simp [execOp, go_sem, m1, m2]) (.inl rfl) rfl ?_
        clear hv4
        refine wpT_end (by kernel_rfl) ?_
        go_wp2_with fail
        go_ret
        exact HFin.out
    ·rcases HR.out with h0 | ⟨b, o, rfl, hbl, hc⟩
     ·exact absurd h0 hM0
     clear hc hM0
     by_cases hkc2 : k < cap
     ·have HEq : Hid (M.take k ++ [⟨n, t⟩] ++ M.drop k = setM L ⟨n, t⟩) := Lib.hid (by
       obtain ⟨h1, h2⟩ := takeWhile_at (p := fun x => lessM x ⟨n, t⟩) (L := M) (i := k) (by omega) HN.out hstop
       unfold setM insM
       rw [show cutM L (⟨n, t⟩ : Mo).n = M from HM.out, h1, h2, List.append_assoc]
       rfl)
      go_upto_region 7 with fail
      have HLt : Hid ((M.take k).length = k) := Lib.hid (by rw [List.length_take]; omega)
      have HLd : Hid ((M.drop k).length = M.length - k) := Lib.hid List.length_drop
      obtain ⟨D0, hD0⟩ : ∃ W, x.w = W := ⟨_, rfl⟩
      obtain ⟨D, hDD⟩ : ∃ W, D0.drew = W := ⟨_, rfl⟩
      have HD : Hid (Below w1.heap.size w1 D) := Lib.hid (by rw [← hDD, ← hD0]; exact ext_drew (ext_later (ext_refl w1) x))
      have HTk := Lib.hid ((HS.out.below HD.out).take (m := k) (by omega))
      have hdr := (HS.out.below HD.out).drop (m := k) (by omega)
      rw [if_neg (by omega), Option.map_some, addr_off] at hdr
      rw [show k * elemMo.k = k * 2 from rfl] at hdr
      have HDr := Lib.hid hdr
      have hd0 : D.cell? ⟨m, 0, none⟩ = some (.slice (some ⟨b, o, none⟩) M.length cap) := (HD.out.cell (p := ⟨m, 0, none⟩) hlt).trans e0
      have hml : m < D.heap.size := Nat.lt_of_lt_of_le hlt HD.out.size
      rw [hD0]
      refine wp_region_taken [22] (fun k => k < D.heap.size) (by kernel_rfl) (n := 23) rfl (fresh := Array.replicate 23 false) rfl ?_
      rw [hDD]
      clear hD0 hDD hdr
      refine wpT_batchK [0, 1, 2, 3, 4, 5, 6, 8, 9, 10, 13, 14, 15, 16, 17, 18] 7 rfl (by kernel_rfl) (by kernel_rfl) (by simp only [pickL, nthL, List.cons_append, List.nil_append]; rfl) ?_
      repeat (go_big_quiet_step (fail))
      refine wpQuiet_nil ?_
      refine wpT_two (i := 7) (j := 11) (by kernel_rfl) ?_ ?_
      ·refine opT_append (E := elemMo) (d := some 77) (w0 := D) (v := .slice none 0 0) (v2 := .slice (some ⟨b, o, none⟩) k cap) (xs := []) (l2 := M.take k) rfl (by rfl) rfl rfl rfl (madeE_nil (Below.refl _ _)) HTk.out (by rw [HLt.out]; show (0 + k) * 16 ≤ _; omega) (fun k hk => hk) rfl ?_
       intro v1 w2 hm2 hz2
       rw [List.nil_append] at hm2
       simp only [Act.put, List.setIfInBounds_toArray, List.set_cons_succ, List.set_cons_zero]
       refine wpT_just (i := 11) (by kernel_rfl) ?_
       refine opT_value (d := some 81) (v := .slice (some ⟨w2.heap.size, 0, none⟩) 1 1) (w' := w2.alloc (.cells #[.int .i64 n, .int .i64 t] 131)) rfl (by rfl) (by simp [execOp, Instr.buildSlice, go_sem]) (.inr (GK.of_below (ext_alloc (ext_refl w2) _) fun k hk => Nat.lt_of_lt_of_le hk hz2)) rfl ?_
       have HSrc := Lib.hid (srcE_one (E := elemMo) (x := ⟨n, t⟩) (heap_alloc_new w2 (.cells #[.int .i64 n, .int .i64 t] 131)) rfl)
       have HM2 := Lib.hid (hm2.later ⟨w2.alloc (.cells #[.int .i64 n, .int .i64 t] 131), ext_alloc (ext_refl w2) _⟩)
       dsimp only at HM2
       simp only [Act.put, List.setIfInBounds_toArray, List.set_cons_succ, List.set_cons_zero]
       obtain ⟨bn, hbn⟩ : ∃ b, w2.heap.size = b := ⟨_, rfl⟩
       rw [hbn] at HSrc ⊢
       clear hm2 hz2 hbn
       refine wpT_append (E := elemMo) (i := 12) (d := some 82) (w0 := D) (v := v1) (v2 := .slice (some ⟨bn, 0, none⟩) 1 1) (xs := M.take k) (l2 := [⟨n, t⟩]) (by kernel_rfl) rfl (by rfl) rfl rfl rfl HM2.out HSrc.out (by rw [HLt.out]; show (k + 1) * 16 ≤ _; omega) (fun k hk => hk) rfl ?_
       intro v3 w3 hm3 hz3
       have HM3 := Lib.hid hm3
       have HD3 := Lib.hid (HDr.out.below hm3.2)
       clear hm3 hz3
       simp only [Act.put, List.setIfInBounds_toArray, List.set_cons_succ, List.set_cons_zero]
       refine wpT_append (E := elemMo) (i := 19) (d := some 89) (w0 := D) (v := v3) (v2 := .slice (some ⟨b, o + k * 2, none⟩) (M.length - k) (cap - k)) (xs := M.take k ++ [⟨n, t⟩]) (l2 := M.drop k) (by kernel_rfl) rfl (by rfl) rfl rfl rfl HM3.out HD3.out (by rw [List.length_append, HLt.out, HLd.out]; show (k + 1 + (M.length - k)) * 16 ≤ _; omega) (fun k hk => hk) rfl ?_
       intro v4 w4 hm4 hz4
       have HM4 := Lib.hid hm4
       have hq4 : w4.heap[m]? = some (.cells #[.slice (some ⟨b, o, none⟩) M.length cap] 86 (0, 0)) := ((HD.out.trans (hm4.2.mono HD.out.size)).block m hlt).trans HQ.out
       have m1 : w4.cell? ⟨m, 0, none⟩ = some (.slice (some ⟨b, o, none⟩) M.length cap) := by simp [World.cell?, hq4]
       have m2 : w4.frozen? ⟨m, 0, none⟩ = false := by simp [World.frozen?, hq4]
       have HFin : Hid (SetEnd m L ⟨n, t⟩ H w (.returned (.bool true)) (w4.setCell ⟨m, 0, none⟩ v4)) := Lib.hid ⟨by rw [HOk.out], by
        rw [HOk.out, if_pos rfl]
        exact HRc.out.trans fun H' hr => by
         have := rc_done hr HD.out HM4.out hq4
         rw [HEq.out] at this
         exact this⟩
       clear hm4 hz4
       simp only [Act.put, List.setIfInBounds_toArray, List.set_cons_succ, List.set_cons_zero]
       refine wpT_batchK [20, 21] 1 rfl (by kernel_rfl) (by kernel_rfl) (by simp only [pickL, nthL, List.cons_append, List.nil_append]; rfl) ?_
       repeat (go_big_quiet_step (fail))
       refine wpQuiet_nil ?_
       obtain ⟨pv4, cv4, hv4, -⟩ := HM4.out.list.form
       refine wpT_store (i := 22) (w' := w4.setCell ⟨m, 0, none⟩ v4) (by kernel_rfl) rfl (by rfl) (by subst hv4; simp [execOp, go_sem, m1, m2]) (.inl rfl) rfl ?_
       clear hv4
       refine wpT_end (by kernel_rfl) ?_
       go_wp2_with fail
       go_ret
       exact HFin.out
      ·refine opT_value (d := some 81) (v := .slice (some ⟨D.heap.size, 0, none⟩) 1 1) (w' := D.alloc (.cells #[.int .i64 n, .int .i64 t] 131)) rfl (by rfl) (by simp [execOp, Instr.buildSlice, go_sem]) (.inr (GK.of_below (ext_alloc (ext_refl D) _) fun k hk => hk)) rfl ?_
       simp only [Act.put, List.setIfInBounds_toArray, List.set_cons_succ, List.set_cons_zero]
       refine wpT_just (i := 7) (by kernel_rfl) ?_
       refine opT_append (E := elemMo) (d := some 77) (w0 := D.alloc (.cells #[.int .i64 n, .int .i64 t] 131)) (v := .slice none 0 0) (v2 := .slice (some ⟨b, o, none⟩) k cap) (xs := []) (l2 := M.take k) rfl (by rfl) rfl rfl rfl (madeE_nil (Below.refl _ _)) (HTk.out.below (ext_alloc (ext_refl D) _)) (by rw [HLt.out]; show (0 + k) * 16 ≤ _; omega) (fun k hk => Nat.lt_of_lt_of_le hk (ext_alloc (ext_refl D) _).size) rfl ?_
       intro v1 w2 hm2 hz2
       rw [List.nil_append] at hm2
       have HSrc := Lib.hid ((srcE_one (E := elemMo) (x := ⟨n, t⟩) (heap_alloc_new D (.cells #[.int .i64 n, .int .i64 t] 131)) rfl).below hm2.2)
       have HM2 := Lib.hid (hm2.base (ext_alloc (ext_refl D) _))
       simp only [Act.put, List.setIfInBounds_toArray, List.set_cons_succ, List.set_cons_zero]
       clear hm2 hz2
       refine wpT_append (E := elemMo) (i := 12) (d := some 82) (w0 := D) (v := v1) (v2 := .slice (some ⟨D.heap.size, 0, none⟩) 1 1) (xs := M.take k) (l2 := [⟨n, t⟩]) (by kernel_rfl) rfl (by rfl) rfl rfl rfl HM2.out HSrc.out (by rw [HLt.out]; show (k + 1) * 16 ≤ _; omega) (fun k hk => hk) rfl ?_
       intro v3 w3 hm3 hz3
       have HM3 := Lib.hid hm3
       have HD3 := Lib.hid (HDr.out.below hm3.2)
       clear hm3 hz3
       simp only [Act.put, List.setIfInBounds_toArray, List.set_cons_succ, List.set_cons_zero]
       refine wpT_append (E := elemMo) (i := 19) (d := some 89) (w0 := D) (v := v3) (v2 := .slice (some ⟨b, o + k * 2, none⟩) (M.length - k) (cap - k)) (xs := M.take k ++ [⟨n, t⟩]) (l2 := M.drop k) (by kernel_rfl) rfl (by rfl) rfl rfl rfl HM3.out HD3.out (by rw [List.length_append, HLt.out, HLd.out]; show (k + 1 + (M.length - k)) * 16 ≤ _; omega) (fun k hk => hk) rfl ?_
       intro v4 w4 hm4 hz4
       have HM4 := Lib.hid hm4
       have hq4 : w4.heap[m]? = some (.cells #[.slice (some ⟨b, o, none⟩) M.length cap] 86 (0, 0)) := ((HD.out.trans (hm4.2.mono HD.out.size)).block m hlt).trans HQ.out
       have m1 : w4.cell? ⟨m, 0, none⟩ = some (.slice (some ⟨b, o, none⟩) M.length cap) := by simp [World.cell?, hq4]
       have m2 : w4.frozen? ⟨m, 0, none⟩ = false := by simp [World.frozen?, hq4]
       have HFin : Hid (SetEnd m L ⟨n, t⟩ H w (.returned (.bool true)) (w4.setCell ⟨m, 0, none⟩ v4)) := Lib.hid ⟨by rw [HOk.out], by
        rw [HOk.out, if_pos rfl]
        exact HRc.out.trans fun H' hr => by
         have := rc_done hr HD.out HM4.out hq4
         rw [HEq.out] at this
         exact this⟩
       clear hm4 hz4
       simp only [Act.put, List.setIfInBounds_toArray, List.set_cons_succ, List.set_cons_zero]
       refine wpT_batchK [20, 21] 1 rfl (by kernel_rfl) (by kernel_rfl) (by simp only [pickL, nthL, List.cons_append, List.nil_append]; rfl) ?_
       repeat (go_big_quiet_step (fail))
       refine wpQuiet_nil ?_
       obtain ⟨pv4, cv4, hv4, -⟩ := HM4.out.list.form
       refine wpT_store (i := 22) (w' := w4.setCell ⟨m, 0, none⟩ v4) (by kernel_rfl) rfl (by rfl) (by subst hv4; simp [execOp, go_sem, m1, m2]) (.inl rfl) rfl ?_
       clear hv4
       refine wpT_end (by kernel_rfl) ?_
       go_wp2_with fail
       go_ret
       exact HFin.out
     ·obtain rfl : k = cap := by have := HkM.out; omega
      have HEq : Hid (M.take k ++ [⟨n, t⟩] ++ M.drop k = setM L ⟨n, t⟩) := Lib.hid (by
       obtain ⟨h1, h2⟩ := takeWhile_at (p := fun x => lessM x ⟨n, t⟩) (L := M) (i := k) (by omega) HN.out hstop
       unfold setM insM
       rw [show cutM L (⟨n, t⟩ : Mo).n = M from HM.out, h1, h2, List.append_assoc]
       rfl)
      go_upto_region 7 with fail
      have HLt : Hid ((M.take k).length = k) := Lib.hid (by rw [List.length_take]; omega)
      have HLd : Hid ((M.drop k).length = M.length - k) := Lib.hid List.length_drop
      obtain ⟨D0, hD0⟩ : ∃ W, x.w = W := ⟨_, rfl⟩
      obtain ⟨D, hDD⟩ : ∃ W, D0.drew = W := ⟨_, rfl⟩
      have HD : Hid (Below w1.heap.size w1 D) := Lib.hid (by rw [← hDD, ← hD0]; exact ext_drew (ext_later (ext_refl w1) x))
      have HTk := Lib.hid ((HS.out.below HD.out).take (m := k) (by omega))
      have hdr := (HS.out.below HD.out).drop (m := k) (by omega)
      rw [if_pos rfl, Nat.sub_self, show M.length - k = 0 from by omega] at hdr
      have HDr := Lib.hid hdr
      have hd0 : D.cell? ⟨m, 0, none⟩ = some (.slice (some ⟨b, o, none⟩) M.length k) := (HD.out.cell (p := ⟨m, 0, none⟩) hlt).trans e0
      have hml : m < D.heap.size := Nat.lt_of_lt_of_le hlt HD.out.size
      rw [hD0]
      refine wp_region_taken [22] (fun k => k < D.heap.size) (by kernel_rfl) (n := 23) rfl (fresh := Array.replicate 23 false) rfl ?_
      rw [hDD]
      clear hD0 hDD hdr
      refine wpT_batchK [0, 1, 2, 3, 4, 5, 6, 8, 9, 10, 13, 14, 15, 16, 17, 18] 7 rfl (by kernel_rfl) (by kernel_rfl) (by simp only [pickL, nthL, List.cons_append, List.nil_append]; rfl) ?_
      repeat (go_big_quiet_step (fail))
      refine wpQuiet_nil ?_
      refine wpT_two (i := 7) (j := 11) (by kernel_rfl) ?_ ?_
      ·refine opT_append (E := elemMo) (d := some 77) (w0 := D) (v := .slice none 0 0) (v2 := .slice (some ⟨b, o, none⟩) k k) (xs := []) (l2 := M.take k) rfl (by rfl) rfl rfl rfl (madeE_nil (Below.refl _ _)) HTk.out (by rw [HLt.out]; show (0 + k) * 16 ≤ _; omega) (fun k hk => hk) rfl ?_
       intro v1 w2 hm2 hz2
       rw [List.nil_append] at hm2
       simp only [Act.put, List.setIfInBounds_toArray, List.set_cons_succ, List.set_cons_zero]
       refine wpT_just (i := 11) (by kernel_rfl) ?_
       refine opT_value (d := some 81) (v := .slice (some ⟨w2.heap.size, 0, none⟩) 1 1) (w' := w2.alloc (.cells #[.int .i64 n, .int .i64 t] 131)) rfl (by rfl) (by simp [execOp, Instr.buildSlice, go_sem]) (.inr (GK.of_below (ext_alloc (ext_refl w2) _) fun k hk => Nat.lt_of_lt_of_le hk hz2)) rfl ?_
       have HSrc := Lib.hid (srcE_one (E := elemMo) (x := ⟨n, t⟩) (heap_alloc_new w2 (.cells #[.int .i64 n, .int .i64 t] 131)) rfl)
       have HM2 := Lib.hid (hm2.later ⟨w2.alloc (.cells #[.int .i64 n, .int .i64 t] 131), ext_alloc (ext_refl w2) _⟩)
       dsimp only at HM2
       simp only [Act.put, List.setIfInBounds_toArray, List.set_cons_succ, List.set_cons_zero]
       obtain ⟨bn, hbn⟩ : ∃ b, w2.heap.size = b := ⟨_, rfl⟩
       rw [hbn] at HSrc ⊢
       clear hm2 hz2 hbn
       refine wpT_append (E := elemMo) (i := 12) (d := some 82) (w0 := D) (v := v1) (v2 := .slice (some ⟨bn, 0, none⟩) 1 1) (xs := M.take k) (l2 := [⟨n, t⟩]) (by kernel_rfl) rfl (by rfl) rfl rfl rfl HM2.out HSrc.out (by rw [HLt.out]; show (k + 1) * 16 ≤ _; omega) (fun k hk => hk) rfl ?_
       intro v3 w3 hm3 hz3
       have HM3 := Lib.hid hm3
       have HD3 := Lib.hid (HDr.out.below hm3.2)
       clear hm3 hz3
       simp only [Act.put, List.setIfInBounds_toArray, List.set_cons_succ, List.set_cons_zero]
       refine wpT_append (E := elemMo) (i := 19) (d := some 89) (w0 := D) (v := v3) (v2 := .slice (some ⟨b, o, none⟩) 0 0) (xs := M.take k ++ [⟨n, t⟩]) (l2 := M.drop k) (by kernel_rfl) rfl (by rfl) rfl rfl rfl HM3.out HD3.out (by rw [List.length_append, HLt.out, HLd.out]; show (k + 1 + (M.length - k)) * 16 ≤ _; omega) (fun k hk => hk) rfl ?_
       intro v4 w4 hm4 hz4
       have HM4 := Lib.hid hm4
       have hq4 : w4.heap[m]? = some (.cells #[.slice (some ⟨b, o, none⟩) M.length k] 86 (0, 0)) := ((HD.out.trans (hm4.2.mono HD.out.size)).block m hlt).trans HQ.out
       have m1 : w4.cell? ⟨m, 0, none⟩ = some (.slice (some ⟨b, o, none⟩) M.length k) := by simp [World.cell?, hq4]
       have m2 : w4.frozen? ⟨m, 0, none⟩ = false := by simp [World.frozen?, hq4]
       have HFin : Hid (SetEnd m L ⟨n, t⟩ H w (.returned (.bool true)) (w4.setCell ⟨m, 0, none⟩ v4)) := Lib.hid ⟨by rw [HOk.out], by
        rw [HOk.out, if_pos rfl]
        exact HRc.out.trans fun H' hr => by
         have := rc_done hr HD.out HM4.out hq4
         rw [HEq.out] at this
         exact this⟩
       clear hm4 hz4
       simp only [Act.put, List.setIfInBounds_toArray, List.set_cons_succ, List.set_cons_zero]
       refine wpT_batchK [20, 21] 1 rfl (by kernel_rfl) (by kernel_rfl) (by simp only [pickL, nthL, List.cons_append, List.nil_append]; rfl) ?_
       repeat (go_big_quiet_step (fail))
       refine wpQuiet_nil ?_
       obtain ⟨pv4, cv4, hv4, -⟩ := HM4.out.list.form
       refine wpT_store (i := 22) (w' := w4.setCell ⟨m, 0, none⟩ v4) (by kernel_rfl) rfl (by rfl) (by subst hv4; simp [execOp, go_sem, m1, m2]) (.inl rfl) rfl ?_
       clear hv4
       refine wpT_end (by kernel_rfl) ?_
       go_wp2_with fail
       go_ret
       exact HFin.out
      ·refine opT_value (d := some 81) (v := .slice (some ⟨D.heap.size, 0, none⟩) 1 1) (w' := D.alloc (.cells #[.int .i64 n, .int .i64 t] 131)) rfl (by rfl) (by simp [execOp, Instr.buildSlice, go_sem]) (.inr (GK.of_below (ext_alloc (ext_refl D) _) fun k hk => hk)) rfl ?_
       simp only [Act.put, List.setIfInBounds_toArray, List.set_cons_succ, List.set_cons_zero]
       refine wpT_just (i := 7) (by kernel_rfl) ?_
       refine opT_append (E := elemMo) (d := some 77) (w0 := D.alloc (.cells #[.int .i64 n, .int .i64 t] 131)) (v := .slice none 0 0) (v2 := .slice (some ⟨b, o, none⟩) k k) (xs := []) (l2 := M.take k) rfl (by rfl) rfl rfl rfl (madeE_nil (Below.refl _ _)) (HTk.out.below (ext_alloc (ext_refl D) _)) (by rw [HLt.out]; show (0 + k) * 16 ≤ _; omega) (fun k hk => Nat.lt_of_lt_of_le hk (ext_alloc (ext_refl D) _).size) rfl ?_
       intro v1 w2 hm2 hz2
       rw [List.nil_append] at hm2
       have HSrc := Lib.hid ((srcE_one (E := elemMo) (x := ⟨n, t⟩) (heap_alloc_new D (.cells #[.int .i64 n, .int .i64 t] 131)) rfl).below hm2.2)
       have HM2 := Lib.hid (hm2.base (ext_alloc (ext_refl D) _))
       simp only [Act.put, List.setIfInBounds_toArray, List.set_cons_succ, List.set_cons_zero]
       clear hm2 hz2
       refine wpT_append (E := elemMo) (i := 12) (d := some 82) (w0 := D) (v := v1) (v2 := .slice (some ⟨D.heap.size, 0, none⟩) 1 1) (xs := M.take k) (l2 := [⟨n, t⟩]) (by kernel_rfl) rfl (by rfl) rfl rfl rfl HM2.out HSrc.out (by rw [HLt.out]; show (k + 1) * 16 ≤ _; omega) (fun k hk => hk) rfl ?_
       intro v3 w3 hm3 hz3
       have HM3 := Lib.hid hm3
       have HD3 := Lib.hid (HDr.out.below hm3.2)
       clear hm3 hz3
       simp only [Act.put, List.setIfInBounds_toArray, List.set_cons_succ, List.set_cons_zero]
       refine wpT_append (E := elemMo) (i := 19) (d := some 89) (w0 := D) (v := v3) (v2 := .slice (some ⟨b, o, none⟩) 0 0) (xs := M.take k ++ [⟨n, t⟩]) (l2 := M.drop k) (by kernel_rfl) rfl (by rfl) rfl rfl rfl HM3.out HD3.out (by rw [List.length_append, HLt.out, HLd.out]; show (k + 1 + (M.length - k)) * 16 ≤ _; omega) (fun k hk => hk) rfl ?_
       intro v4 w4 hm4 hz4
       have HM4 := Lib.hid hm4
       have hq4 : w4.heap[m]? = some (.cells #[.slice (some ⟨b, o, none⟩) M.length k] 86 (0, 0)) := ((HD.out.trans (hm4.2.mono HD.out.size)).block m hlt).trans HQ.out
       have m1 : w4.cell? ⟨m, 0, none⟩ = some (.slice (some ⟨b, o, none⟩) M.length k) := by simp [World.cell?, hq4]
       have m2 : w4.frozen? ⟨m, 0, none⟩ = false := by simp [World.frozen?, hq4]
       have HFin : Hid (SetEnd m L ⟨n, t⟩ H w (.returned (.bool true)) (w4.setCell ⟨m, 0, none⟩ v4)) := Lib.hid ⟨by rw [HOk.out], by
        rw [HOk.out, if_pos rfl]
        exact HRc.out.trans fun H' hr => by
         have := rc_done hr HD.out HM4.out hq4
         rw [HEq.out] at this
         exact this⟩
       clear hm4 hz4
       simp only [Act.put, List.setIfInBounds_toArray, List.set_cons_succ, List.set_cons_zero]
       refine wpT_batchK [20, 21] 1 rfl (by kernel_rfl) (by kernel_rfl) (by simp only [pickL, nthL, List.cons_append, List.nil_append]; rfl) ?_
       repeat (go_big_quiet_step (fail))
       refine wpQuiet_nil ?_
       obtain ⟨pv4, cv4, hv4, -⟩ := HM4.out.list.form
       refine wpT_store (i := 22) (w' := w4.setCell ⟨m, 0, none⟩ v4) (by kernel_rfl) rfl (by rfl) (by subst hv4; simp [execOp, go_sem, m1, m2]) (.inl rfl) rfl ?_
       clear hv4
       refine wpT_end (by kernel_rfl) ?_
       go_wp2_with fail
       go_ret
       exact HFin.out
 ·have HOk : Hid (okM ⟨n, t⟩ = false) := Lib.hid (by simp only [okM, decide_eq_false_iff_not]; exact hok)
  have HE := Lib.hid (show RCEnd m L H w w from ⟨H, h, Fr.refl _ _, fun k hk => .inl hk⟩)
  have HFin : Hid (SetEnd m L ⟨n, t⟩ H w (.returned (.bool false)) w) := Lib.hid ⟨by rw [HOk.out], by rw [HOk.out, if_neg (by simp)]; exact HE.out⟩
  clear h ho HE
  rcases (by omega : n < 0 ∨ (0 ≤ n ∧ 999 < n) ∨ (0 ≤ n ∧ n ≤ 999 ∧ t < 0) ∨ (0 ≤ n ∧ n ≤ 999 ∧ 0 ≤ t ∧ 1099511627776 < t)) with g | ⟨g, g'⟩ | ⟨g, g', g''⟩ | ⟨g, g', g'', g3⟩
  all_goals
   clear hok
   go_enter Tryz.func57, Tryz.ntmps57
   go_wp2
   all_goals go_ret
   all_goals exact HFin.out
end
section
open Go Go.RowKit Go.BigFrame
def elemI : Elem Tryz.prog Int where
 enc x := [.int .i64 x]
 k := 1
 pos := by decide
 len _ := rfl
 one _ u hu := by
  simp only [List.mem_singleton] at hu
  subst hu
  rfl
 t := 3
 sl := 36
 under := Tryz.underlying36
 z := .int .i64 0
 bytes := 8
 bpos := by decide
 info := by kernel_rfl
 zs := by kernel_rfl
structure Dueing (w : World) (m : Nat) (L : List Mo) (now : Int) (H : Nat → Prop) (done cur : List Mo) (v : Value) (W : World) : Prop where
 all : L = done ++ cur
 due : ∀ x ∈ done, x.t ≤ now
 row : W.ownsRow w.heap.size 3 1 v done.length (elemI.cells (done.map Mo.n))
 clock : ∃ H', RefC m cur W H' ∧ ∀ k, H' k → H k
 fr : Fr (fun k => k = m) w W
def RDueEnd (m : Nat) (L : List Mo) (now : Int) (H : Nat → Prop) (w : World) (e : Ending) (W' : World) : Prop :=
 ∃ v, e = .returned v ∧ SrcE elemI W' v ((dueM L now).map Mo.n) ∧ W'.ownsRow w.heap.size 3 1 v ((dueM L now).map Mo.n).length (elemI.cells ((dueM L now).map Mo.n)) ∧ (∃ H', RefC m (restM L now) W' H' ∧ ∀ k, H' k → H k) ∧ Fr (fun k => k = m) w W'
theorem due_split {L done cur : List Mo} {now : Int} (hs : SortedM L) (ha : L = done ++ cur) (hd : ∀ x ∈ done, x.t ≤ now) (hc : ∀ x r, cur = x :: r → ¬ x.t ≤ now) : dueM L now = done ∧ restM L now = cur := by
 subst ha
 have hcur : SortedM cur := hs.sublist (List.sublist_append_right _ _)
 have h1 : dueM cur now = [] ∧ restM cur now = cur := by
  cases cur with
  | nil => exact ⟨rfl, rfl⟩
  | cons x r => exact (due_cons hcur now).2 (hc x r rfl)
 have h2 : dueM done now = done ∧ restM done now = [] := by
  unfold dueM restM
  refine ⟨?_, ?_⟩
  ·rw [List.filter_eq_self]
   intro x hx
   simpa using hd x hx
  ·rw [List.filter_eq_nil_iff]
   intro x hx
   have := hd x hx
   simp
   omega
 unfold dueM restM at *
 rw [List.filter_append, List.filter_append, h1.1, h1.2, h2.1, h2.2]
 simp
def lenAt (W : World) (m : Nat) : Nat := match W.cell? ⟨m, 0, none⟩ with | some (.slice _ n _) => n | _ => 0
theorem row_ne {m b o n c : Nat} {x : Mo} {r : List Mo} {W : World} (hm : W.heap[m]? = some (.cells #[.slice (some ⟨b, o, none⟩) n c] 86 (0, 0))) (hs : SrcE elemMo W (.slice (some ⟨b, o, none⟩) n c) (x :: r)) : b ≠ m := by
 rintro rfl
 rcases hs.1 with ⟨h0, _⟩ | ⟨b', o', cap, he, hlt, hc⟩
 ·cases h0
 ·obtain ⟨e1, _⟩ := Value.slice.inj he
  simp only [Option.some.injEq, Addr.mk.injEq, and_true] at e1
  obtain ⟨rfl, rfl⟩ := e1
  have h1 : W.cell? ⟨b, o, none⟩ = some (.int .i64 x.n) := hc 0 x rfl 0 _ rfl
  simp only [World.cell?, hm] at h1
  cases o with
  | zero => simp at h1
  | succ o => simp at h1
theorem rc_tail {m : Nat} {x : Mo} {r : List Mo} {H' : Nat → Prop} {W : World} {b o cap : Nat} (h : RefC m (x :: r) W H') (hm : W.heap[m]? = some (.cells #[.slice (some ⟨b, o, none⟩) (r.length + 1) cap] 86 (0, 0))) (hs : SrcE elemMo W (.slice (some ⟨b, o, none⟩) (r.length + 1) cap) (x :: r)) :
  ∃ H'', RefC m r (W.setCell ⟨m, 0, none⟩ (.slice (if cap = 1 then some ⟨b, o, none⟩ else some ⟨b, o + 2, none⟩) r.length (cap - 1))) H'' ∧ ∀ k, H'' k → H' k := by
 have hne := row_ne hm hs
 have hd := hs.drop (m := 1) (by simp)
 rw [Option.map_some, addr_off, Nat.add_sub_cancel, show 1 * elemMo.k = 2 from rfl, List.drop_one, List.tail_cons] at hd
 obtain ⟨v0, hm0, _, hH⟩ := h
 rw [hm] at hm0
 obtain rfl : Value.slice (some ⟨b, o, none⟩) (r.length + 1) cap = v0 := by simpa using hm0
 refine ⟨fun k => k = m ∨ (r ≠ [] ∧ k = b), ⟨_, by rw [heap_setCell_same _ _ _ _ _ _ hm]; rfl, ⟨hd.1.kept (by simp [World.setCell]) fun b' o' n c hl hv => Below.heap_setCell _ _ _ b' ?_, hd.2⟩, fun k => ?_⟩, fun k hk => ?_⟩
 ·obtain ⟨e1, _⟩ := Value.slice.inj hv
  show b' ≠ m
  split at e1
  ·simp only [Option.some.injEq, Addr.mk.injEq] at e1
   rw [← e1.1]; exact hne
  ·simp only [Option.some.injEq, Addr.mk.injEq] at e1
   rw [← e1.1]; exact hne
 ·refine or_congr Iff.rfl (and_congr_right fun hr => ⟨?_, ?_⟩)
  ·rintro rfl
   by_cases hc : cap = 1
   ·rw [if_pos hc]; exact ⟨_, _, _, rfl⟩
   ·rw [if_neg hc]; exact ⟨_, _, _, rfl⟩
  ·rintro ⟨o', n, c, hv⟩
   obtain ⟨e1, _⟩ := Value.slice.inj hv
   split at e1
   ·simp only [Option.some.injEq, Addr.mk.injEq] at e1; exact e1.1.symm
   ·simp only [Option.some.injEq, Addr.mk.injEq] at e1; exact e1.1.symm
 ·rcases hk with rfl | ⟨_, rfl⟩
  ·exact (hH k).2 (.inl rfl)
  ·exact (hH k).2 (.inr ⟨by simp, o, _, _, rfl⟩)
set_option maxHeartbeats 4000000 in
set_option maxRecDepth 100000 in
theorem refDue_any (m : Nat) (L : List Mo) (now : Int) (w : World) (H : Nat → Prop) (h : RefC m L w H) (hs : SortedM L) (hL : L.length ≤ 10000) : Calls Tryz.prog 53 #[.pointer (some ⟨m, 0, none⟩), .int .i64 now] w (RDueEnd m L now H w) := by
 have HSo := Lib.hid hs
 have HLt := Lib.hid (fun k hk => (refC_owns m L).lt w H h k hk)
 have H0 := Lib.hid (show Dueing w m L now H [] L (.slice none 0 0) w from ⟨rfl, fun x hx => by simp at hx, World.ownsRow_nil _ _ _ _, ⟨H, h, fun k hk => hk⟩, Fr.refl _ _⟩)
 have hmw : m < w.heap.size := by obtain ⟨_, _, hlt, _⟩ := h.cells; exact hlt
 clear h hs
 go_enter Tryz.func53, Tryz.ntmps53
 go_wp2_with fail
 go_loopw [5] (fun v5 wr => ∃ (done cur : List Mo), Hid (Dueing w m L now H done cur v5 wr) ∧ done.length + cur.length = L.length) (fun _ wr => lenAt wr m)
 case atStart => exact ⟨[], L, H0, by simp⟩
 case round =>
  clear H0
  obtain ⟨done, cur, HD, hlen⟩ := hrel
  obtain ⟨H', hrc, hH'⟩ := HD.out.clock
  have HRc := Lib.hid hrc
  obtain ⟨p, cap, hlt, hm, hsr⟩ := hrc.cells
  have HQ := Lib.hid hm
  have e0 : wr.cell? ⟨m, 0, none⟩ = some (.slice p cur.length cap) := by simp [World.cell?, hm]
  have e1 : wr.frozen? ⟨m, 0, none⟩ = false := by simp [World.frozen?, hm]
  obtain ⟨pv, cv, hv5, _⟩ := ownsRow_formE HD.out.row
  have hml : lenAt wr m = cur.length := by unfold lenAt; rw [e0]
  have HMl := Lib.hid hml
  have HEnd : Hid ((∀ y s, cur = y :: s → ¬ y.t ≤ now) → RDueEnd m L now H w (.returned (.slice pv done.length cv)) wr) := Lib.hid fun hc => by
   obtain ⟨e1, e2⟩ := due_split HSo.out HD.out.all HD.out.due hc
   have hrow := HD.out.row
   rw [hv5] at hrow
   have hrow' : wr.ownsRow w.heap.size elemI.t elemI.k (.slice pv done.length cv) (done.map Mo.n).length (elemI.cells (done.map Mo.n)) := by rw [List.length_map]; exact hrow
   refine ⟨_, rfl, by rw [e1]; exact ⟨rowAt_own hrow', ownsRow_formE hrow'⟩, by rw [e1]; exact hrow', by rw [e2]; exact ⟨H', HRc.out, hH'⟩, HD.out.fr⟩
  subst hv5
  cases cur with
  | nil =>
   have HR := Lib.hid (HEnd.out fun y s e => by cases e)
   rw [List.length_nil] at e0
   clear hrc hm hsr HEnd
   go_wp2_with fail
   go_ret
   exact HR.out
  | cons x r =>
   obtain ⟨xn, xt⟩ := x
   rcases hsr.1 with ⟨h0, _⟩ | ⟨b, o, cap', hv, hbl, hc⟩
   ·cases h0
   obtain ⟨rfl, -, rfl⟩ := Value.slice.inj hv
   have a0 : wr.cell? ⟨b, o, none⟩ = some (.int .i64 xn) := hc 0 _ rfl 0 _ rfl
   have a1 : wr.cell? ⟨b, o + 1, none⟩ = some (.int .i64 xt) := hc 0 _ rfl 1 _ rfl
   rw [List.length_cons] at e0 hm hsr
   have HS := Lib.hid hsr
   have hrl : r.length + 1 ≤ 10000 := by rw [List.length_cons] at hlen; omega
   have gr : decide ((0 : Int) < (r.length : Int) + 1) = true := by rw [decide_eq_true_eq]; omega
   by_cases hdue : xt ≤ now
   ·have gd : decide (xt ≤ now) = true := by simpa using hdue
    have hdl : done.length ≤ 10000 := by omega
    have HRow : Hid ((wr.alloc (.cells #[.int .i64 xn] 3)).ownsRow w.heap.size elemI.t elemI.k (.slice pv done.length cv) (done.map Mo.n).length (elemI.cells (done.map Mo.n))) := Lib.hid (by
     have := row_keepsE HD.out.row (W' := wr.alloc (.cells #[.int .i64 xn] 3)) fun g hg => (ext_alloc (ext_refl wr) _).block g (HD.out.row.lt g hg).2
     rw [List.length_map]
     exact this)
    have HSrc := Lib.hid (srcE_one (E := elemI) (x := xn) (heap_alloc_new wr (.cells #[.int .i64 xn] 3)) rfl)
    have HZ : Hid (w.heap.size ≤ (wr.alloc (.cells #[.int .i64 xn] 3)).heap.size) := Lib.hid (Nat.le_trans HD.out.fr.size (by simp))
    have HBd : Hid (((done.map Mo.n).length + [xn].length) * elemI.bytes ≤ 140737488355328) := Lib.hid (by rw [List.length_map]; show (done.length + 1) * 8 ≤ _; omega)
    clear hrc hm hsr hv hc HEnd
    go_upto_region 3 with fail
    go_wp2_with (at_builtin; refine wpListO_append (E := elemI) (xs := done.map Mo.n) (l2 := [xn]) rfl _ _ rfl rfl rfl HRow.out HZ.out HSrc.out HBd.out ?_; intro v' w2 hrow2 hgr; have HRow2 := Lib.hid hrow2; have HGr := Lib.hid hgr; clear hrow2 hgr; have hk2 : ∀ k, k < w.heap.size → w2.heap[k]? = wr.heap[k]? := (fun k hk => (HGr.out.block k (Nat.lt_of_lt_of_le (Nat.lt_of_lt_of_le hk HD.out.fr.size) (by simp)) (fun e => by have := (HRow.out.lt k e.symm).1; omega)).trans ((ext_alloc (ext_refl wr) _).block k (Nat.lt_of_lt_of_le hk HD.out.fr.size))); have hz2 : wr.heap.size ≤ w2.heap.size := Nat.le_trans (by simp) HGr.out.size; have HK2 := Lib.hid hk2; have hm2 := (hk2 m hmw).trans HQ.out; have f0 : w2.cell? ⟨m, 0, none⟩ = some (.slice (some ⟨b, o, none⟩) (r.length + 1) cap) := (by simp [World.cell?, hm2]); have f1 : w2.frozen? ⟨m, 0, none⟩ = false := (by simp [World.frozen?, hm2]); have hl2 : m < w2.heap.size := Nat.lt_of_lt_of_le hlt hz2; clear hk2 hm2)
    have hrc2 : RefC m (⟨xn, xt⟩ :: r) w2 H' := (refC_owns m _).kept wr w2 H' HRc.out hz2 fun k hk => HK2.out k (HLt.out k (hH' k hk))
    have hq2 := (HK2.out m hmw).trans HQ.out
    have hs2 : SrcE elemMo w2 (.slice (some ⟨b, o, none⟩) (r.length + 1) cap) (⟨xn, xt⟩ :: r) := by
     obtain ⟨p3, cap3, _, h3, h4⟩ := hrc2.cells
     rw [hq2] at h3
     have h5 : Value.slice (some ⟨b, o, none⟩) (r.length + 1) cap = .slice p3 (r.length + 1) cap3 := by simpa using h3
     rw [h5]
     exact h4
    obtain ⟨H2, hr3, hh3⟩ := rc_tail hrc2 hq2 hs2
    have hone : ∀ g, v'.ownBlock = some g → g ≠ m := fun g hg => by have := (HRow2.out.lt g hg).1; omega
    have hrow3 := row_keepsE HRow2.out (W' := w2.setCell ⟨m, 0, none⟩ (.slice (if cap = 1 then some ⟨b, o, none⟩ else some ⟨b, o + 2, none⟩) r.length (cap - 1))) fun g hg => Below.heap_setCell _ _ _ g (hone g hg)
    have hfr2 : Fr (fun k => k = m) w w2 := ((HD.out.fr.alloc _).trans (Fr.of_grownBy (F := fun k => w.heap.size ≤ k) HGr.out fun j hj => .inl (HRow.out.lt j hj).1) fun j hj => .inr hj)
    refine ⟨⟨done ++ [⟨xn, xt⟩], r, Lib.hid ⟨by rw [List.append_assoc]; exact HD.out.all, fun y hy => ?_, ?_, ⟨H2, hr3, fun k hk => hH' k (hh3 k hk)⟩, hfr2.set m 0 _ (.inl rfl)⟩, by rw [List.length_append]; simp only [List.length_cons, List.length_nil] at hlen ⊢; omega⟩, ?_⟩
    ·rcases List.mem_append.1 hy with hy | hy
     ·exact HD.out.due y hy
     ·obtain rfl : y = ⟨xn, xt⟩ := by simpa using hy
      exact hdue
    ·rw [List.map_append, List.length_append]
     rw [List.length_append, List.length_map] at hrow3
     exact hrow3
    ·rw [HMl.out]
     unfold lenAt
     rw [World.cell?_setCell_same _ _ _ f0]
     simp
   ·have gd : decide (xt ≤ now) = false := by simpa using hdue
    have HR := Lib.hid (HEnd.out fun y s e => by obtain ⟨rfl, _⟩ := List.cons.inj e; exact hdue)
    clear hrc hm hsr hv hc HEnd
    go_wp2_with fail
    go_ret
    exact HR.out
end
end Go.Proofs.YtjbihgfdgaiecaaGreat

/- MClk: WatC, Clk, ClkHeap, ClkSwap, ClkEnds, ClkOps, ClkDue, ClkC. -/
namespace Go.Proofs.YtjbihgfdgaiecaaGreat
section
open Go Go.RowKit
def WEnd (Own : Nat → List Mo → World → (Nat → Prop) → Prop) (m : Nat) (L : List Mo) (H : Nat → Prop) (W W' : World) : Prop := ∃ H', Own m L W' H' ∧ Fr H W W' ∧ ∀ k, H' k → H k ∨ W.heap.size ≤ k
section
variable {w W : World} {m : Nat} {L : List Mo}
end
end
section
open Go Go.RowKit
def elemW : Elem Tryz.prog Mo where
 enc m := [.int .i64 m.n, .int .i64 m.t]
 k := 2
 pos := by decide
 len _ := rfl
 one _ u hu := by
  simp only [List.mem_cons, List.not_mem_nil, or_false] at hu
  rcases hu with rfl | rfl <;> rfl
 t := 126
 sl := 111
 under := Tryz.underlying111
 z := .agg #[.int .i64 0, .int .i64 0]
 bytes := 16
 bpos := by decide
 info := by kernel_rfl
 zs := by kernel_rfl
def cellsW (L : List Mo) : List Value := elemW.cells L
theorem cellsW_len (L : List Mo) : (cellsW L).length = L.length * 2 := elemW.cells_len L
theorem cellsW_snoc (L : List Mo) (x : Mo) : cellsW (L ++ [x]) = cellsW L ++ [.int .i64 x.n, .int .i64 x.t] := by
 unfold cellsW
 rw [elemW.cells_append]
 rfl
theorem cellsW_at (L : List Mo) (k : Nat) (x : Mo) (h : L[k]? = some x) : (cellsW L)[k * 2]? = some (.int .i64 x.n) ∧ (cellsW L)[k * 2 + 1]? = some (.int .i64 x.t) :=
 ⟨elemW.cells_at L k x 0 _ h rfl, elemW.cells_at L k x 1 _ h rfl⟩
def ClkQ (q : Nat) (L : List Mo) (W : World) (F : Nat → Prop) : Prop :=
 ∃ v, W.heap[q]? = some (.cells #[v] 113 (0, 0)) ∧ W.ownsRow 0 126 2 v L.length (cellsW L) ∧ ∀ k, F k ↔ (k = q ∨ v.ownBlock = some k)
theorem clkQ_owns (q : Nat) (L : List Mo) : Owns (ClkQ q L) where
 lt W F h k hk := by
  obtain ⟨v, hq, hr, hF⟩ := h
  rcases (hF k).1 hk with rfl | h1
  ·exact (Array.getElem?_eq_some_iff.1 hq).1
  ·exact (hr.lt k h1).2
 kept W W' F h hs hk := by
  obtain ⟨v, hq, hr, hF⟩ := h
  refine ⟨v, (hk q ((hF q).2 (.inl rfl))).trans hq, ⟨hr.1, ?_⟩, hF⟩
  rcases hr.2 with h1 | ⟨g, cap, cur, rfl, hb, hg, rest⟩
  ·exact .inl h1
  ·exact .inr ⟨g, cap, cur, rfl, hb, (hk g ((hF g).2 (.inr rfl))).trans hg, rest⟩
structure ClkCells (W : World) (q : Nat) (L : List Mo) (p : Option Addr) (cap : Nat) : Prop where
 lt : q < W.heap.size
 h1 : W.cell? ⟨q, 0, none⟩ = some (.slice p L.length cap)
 f1 : W.frozen? ⟨q, 0, none⟩ = false
 row : L = [] ∨ ∃ g, p = some ⟨g, 0, none⟩ ∧ g < W.heap.size ∧ g ≠ q ∧ (∀ j, W.frozen? ⟨g, j, none⟩ = false) ∧ ∀ k t, L[k]? = some t → W.cell? ⟨g, k * 2, none⟩ = some (.int .i64 t.n) ∧ W.cell? ⟨g, k * 2 + 1, none⟩ = some (.int .i64 t.t)
theorem clk_apart {q : Nat} {L : List Mo} {W : World} {v : Value} (hq : W.heap[q]? = some (.cells #[v] 113 (0, 0))) (hr : W.ownsRow 0 126 2 v L.length (cellsW L)) : some q ≠ v.ownBlock := by
 intro e
 rcases hr.2 with ⟨rfl, _⟩ | ⟨g, cap, cur, rfl, _, hg, _⟩
 ·simp [Value.ownBlock] at e
 ·simp [Value.ownBlock] at e
  subst e
  rw [hq] at hg
  simp at hg
theorem ClkQ.cells {q : Nat} {L : List Mo} {W : World} {F : Nat → Prop} (h : ClkQ q L W F) : ∃ p cap, ClkCells W q L p cap := by
 obtain ⟨v, hq, hr, hF⟩ := h
 have hlt := (Array.getElem?_eq_some_iff.1 hq).1
 have e1 : W.cell? ⟨q, 0, none⟩ = some v := by simp [World.cell?, hq]
 have e2 : W.frozen? ⟨q, 0, none⟩ = false := by simp [World.frozen?, hq]
 have hc := fun g (hg : v.ownBlock = some g) => hr.cells hg
 have hl := hr.lt
 have hap := clk_apart hq hr
 rcases hr.2 with ⟨rfl, hn⟩ | ⟨g, cap, cur, rfl, hb, hg, _⟩
 ·exact ⟨none, 0, hlt, by rw [e1, hn], e2, .inl (List.eq_nil_of_length_eq_zero hn)⟩
 ·refine ⟨_, cap, hlt, e1, e2, .inr ⟨g, rfl, (hl g rfl).2, fun e => hap (by rw [e]; rfl), fun j => by simp [World.frozen?, hg], fun k t hk => ?_⟩⟩
  obtain ⟨a0, a1⟩ := cellsW_at L k t hk
  have := hc g rfl
  simp only [addr_off, Nat.zero_add] at this
  exact ⟨this _ _ a0, this _ _ a1⟩
theorem ClkCells.later {W : World} {q : Nat} {L : List Mo} {p : Option Addr} {cap : Nat} (h : ClkCells W q L p cap) {W' : World} (hb : Below W.heap.size W W') : ClkCells W' q L p cap := by
 refine ⟨Nat.lt_of_lt_of_le h.lt hb.size, (hb.cell (p := ⟨q, _, none⟩) h.lt).trans h.h1, (hb.frozen (p := ⟨q, _, none⟩) h.lt).trans h.f1, ?_⟩
 rcases h.row with h1 | ⟨g, hp, hlt, hne, hf, hc⟩
 ·exact .inl h1
 ·exact .inr ⟨g, hp, Nat.lt_of_lt_of_le hlt hb.size, hne, fun j => (hb.frozen (p := ⟨g, _, none⟩) hlt).trans (hf j), fun k t hk => by
   obtain ⟨a0, a1⟩ := hc k t hk
   exact ⟨(hb.cell (p := ⟨g, _, none⟩) hlt).trans a0, (hb.cell (p := ⟨g, _, none⟩) hlt).trans a1⟩⟩
theorem newClkQ (w : World) : ClkQ w.heap.size [] (w.alloc (.cells #[.slice none 0 0] 113)) (fun j => j = w.heap.size) :=
 ⟨.slice none 0 0, heap_alloc_new _ _, World.ownsRow_nil _ _ _ _, fun j => by simp [Value.ownBlock]⟩
set_option maxHeartbeats 1000000 in
set_option maxRecDepth 100000 in
theorem newK_any (w : World) : Calls Tryz.prog 29 #[] w fun e w' => e = .returned (.pointer (some ⟨w.heap.size, 0, none⟩)) ∧ ClkQ w.heap.size [] w' (fun j => j = w.heap.size) ∧ Below w.heap.size w w' := by
 go_enter Tryz.func29, Tryz.ntmps29
 go_wp2
 all_goals go_ret
 all_goals exact ⟨rfl, newClkQ _, (Below.refl _ _).alloc (Nat.le_refl _) _⟩
def ixM (L : List Mo) (n : Int) : Int := match L.findIdx? (fun t => t.n == n) with | some k => k | none => -1
theorem ixM_hit {L : List Mo} {n : Int} {k : Nat} {t : Mo} (hk : L[k]? = some t) (ht : t.n = n) (hb : ∀ j, j < k → ∀ u, L[j]? = some u → u.n ≠ n) : ixM L n = k := by
 obtain ⟨hlt, rfl⟩ := List.getElem?_eq_some_iff.1 hk
 have : L.findIdx? (fun t => t.n == n) = some k := by
  rw [List.findIdx?_eq_some_iff_getElem]
  exact ⟨hlt, by simp [ht], fun j hj => by simpa using hb j hj _ (List.getElem?_eq_getElem (by omega))⟩
 simp [ixM, this]
theorem ixM_none {L : List Mo} {n : Int} (hb : ∀ j, j < L.length → ∀ u, L[j]? = some u → u.n ≠ n) : ixM L n = -1 := by
 have : L.findIdx? (fun t => t.n == n) = none := by
  rw [List.findIdx?_eq_none_iff]
  intro x hx
  obtain ⟨j, hj, rfl⟩ := List.getElem_of_mem hx
  simpa using hb j hj _ (List.getElem?_eq_getElem hj)
 simp [ixM, this]
theorem ixM_find (L : List Mo) (n : Int) : (hasM L n = none ∧ ixM L n = -1) ∨ ∃ (k : Nat) (t : Mo), hasM L n = some t ∧ L[k]? = some t ∧ ixM L n = k ∧ t.n = n := by
 cases hf : L.findIdx? (fun t => t.n == n) with
 | none =>
  refine .inl ⟨?_, by simp [ixM, hf]⟩
  rw [List.findIdx?_eq_none_iff] at hf
  unfold hasM
  rw [List.find?_eq_none]
  intro x hx
  simpa using hf x hx
 | some k =>
  rw [List.findIdx?_eq_some_iff_getElem] at hf
  obtain ⟨hlt, h1, h2⟩ := hf
  refine .inr ⟨k, L[k], ?_, List.getElem?_eq_getElem hlt, ?_, by simpa using h1⟩
  ·unfold hasM
   rw [List.find?_eq_some_iff_getElem]
   exact ⟨h1, k, hlt, rfl, fun j hj => by simpa using h2 j hj⟩
  ·exact ixM_hit (List.getElem?_eq_getElem hlt) (by simpa using h1) fun j hj u hu => by
    obtain ⟨hjl, rfl⟩ := List.getElem?_eq_some_iff.1 hu
    simpa using h2 j hj
set_option maxHeartbeats 1000000 in
set_option maxRecDepth 100000 in
theorem isIdK_any (t : Mo) (b : Nat) (m : Int) (w : World) (hb : b < w.heap.size) (hc : w.cell? ⟨b, 0, none⟩ = some (.int .i64 m)) : Gives Tryz.prog 112 #[.agg #[.int .i64 t.n, .int .i64 t.t], .pointer (some ⟨b, 0, none⟩)] w (.bool (t.n == m)) := by
 unfold Gives
 have hne : b ≠ w.heap.size := by omega
 obtain ⟨n, k⟩ := t
 dsimp only
 go_enter Tryz.func112, Tryz.ntmps112
 go_wp2_with fail
 go_ret
 exact ⟨rfl, Later.ex (by repeat (first | exact ext_refl _ | refine ext_later ?_ _ | refine ext_alloc ?_ _ | refine ext_drew ?_ | refine ext_drewN ?_ _))⟩
set_option maxHeartbeats 1000000 in
set_option maxRecDepth 100000 in
theorem indexFuncK_any (q : Nat) (L : List Mo) (b : Nat) (n : Int) (p : Option Addr) (cap : Nat) (w : World) (hc : ClkCells w q L p cap) (hb : b < w.heap.size) (hn : w.cell? ⟨b, 0, none⟩ = some (.int .i64 n)) (hL : L.length ≤ 2000) : Gives Tryz.prog 111 #[.slice p L.length cap, .func (.func 112) #[] #[.pointer (some ⟨b, 0, none⟩)]] w (.int .i64 (ixM L n)) := by
 unfold Gives
 have HC := Lib.hid hc
 clear hc
 go_enter Tryz.func111, Tryz.ntmps111
 go_wp2_with fail
 go_loopw [5, 8] (fun _ i wr => ∃ k : Nat, k ≤ L.length ∧ i = .int .i64 k ∧ (∀ j, j < k → ∀ u, L[j]? = some u → u.n ≠ n) ∧ ∃ x : Later w, wr = x.w) (fun _ i _ => L.length - (intOf i).toNat)
 case atStart => exact ⟨0, by omega, rfl, fun j hj => by omega, ⟨w, Below.refl _ _⟩, rfl⟩
 case round =>
  obtain ⟨k, hk, rfl, hno, x, rfl⟩ := hrel
  have HN := Lib.hid hno
  clear hno
  by_cases hkl : k < L.length
  ·obtain ⟨t, hkc⟩ : ∃ t, L[k]? = some t := ⟨_, List.getElem?_eq_getElem hkl⟩
   rcases HC.out.row with h0 | ⟨g, rfl, hg, hgq, _, hcell⟩
   ·rw [h0] at hkl; simp at hkl
   have HI := Lib.hid (isIdK_any t b n x.w (Nat.lt_of_lt_of_le hb x.below.size) ((x.below.cell (p := ⟨b, _, none⟩) hb).trans hn))
   obtain ⟨m, t⟩ := t
   obtain ⟨a0, a1⟩ := hcell k _ hkc
   have hc0 : x.w.cell? ⟨g, k * 2, none⟩ = some (.int .i64 m) := (x.below.cell (p := ⟨g, _, none⟩) hg).trans a0
   have hc1 : x.w.cell? ⟨g, k * 2 + 1, none⟩ = some (.int .i64 t) := (x.below.cell (p := ⟨g, _, none⟩) hg).trans a1
   clear a0 a1 hcell
   have HK := Lib.hid hkc
   clear hkc
   dsimp only at HI
   cases hm : ((m : Int) == n) with
   | true =>
    rw [hm] at HI
    have HA : Hid (ixM L n = k) := Lib.hid (ixM_hit HK.out (by simpa using hm) HN.out)
    go_wp2_with fail
    refine Gives.on HI.out ?_
    intro x2
    go_wp2_with fail
    go_ret
    exact ⟨by rw [HA.out]; rfl, Later.ex (by repeat (first | exact ext_refl _ | refine ext_later ?_ _ | refine ext_alloc ?_ _ | refine ext_drew ?_ | refine ext_drewN ?_ _))⟩
   | false =>
    rw [hm] at HI
    have HM : Hid (m ≠ n) := Lib.hid (by simpa using hm)
    go_wp2_with fail
    refine Gives.on HI.out ?_
    intro x2
    go_wp2_with fail
    go_roundw
    case rel =>
     refine ⟨k + 1, by omega, by go_num, fun j hj u hu => ?_, x2, rfl⟩
     by_cases e : j = k
     ·subst e
      rw [HK.out] at hu
      obtain rfl := Option.some.inj hu
      exact HM.out
     ·exact HN.out j (by omega) u hu
    case measure => simp [intOf]; omega
  ·obtain rfl : k = L.length := by omega
   have HA : Hid (ixM L n = -1) := Lib.hid (ixM_none HN.out)
   go_wp2_with fail
   go_ret
   exact ⟨by rw [HA.out]; rfl, Later.ex (by repeat (first | exact ext_refl _ | refine ext_later ?_ _ | refine ext_alloc ?_ _ | refine ext_drew ?_ | refine ext_drewN ?_ _))⟩
set_option maxHeartbeats 1000000 in
set_option maxRecDepth 100000 in
theorem indexOfK_any (q : Nat) (L : List Mo) (n : Int) (p : Option Addr) (cap : Nat) (w : World) (hc : ClkCells w q L p cap) (hL : L.length ≤ 2000) : Gives Tryz.prog 93 #[.slice p L.length cap, .int .i64 n] w (.int .i64 (ixM L n)) := by
 unfold Gives
 have HI := Lib.hid (indexFuncK_any q L w.heap.size n p cap (w.alloc (.cells #[.int .i64 n] 3)) (hc.later (ext_alloc (ext_refl w) _)) (by simp) (by simp) hL)
 clear hc
 go_enter Tryz.func93, Tryz.ntmps93
 go_wp2_with fail
 refine Gives.mono' HI.out ?_
 intro x
 go_wp2_with fail
 go_ret
 exact ⟨rfl, Later.ex (by repeat (first | exact ext_refl _ | refine ext_later ?_ _ | refine ext_alloc ?_ _ | refine ext_drew ?_ | refine ext_drewN ?_ _))⟩
end
section
open Go Go.RowKit
theorem infoMoment : (Tryz.prog.info? 126).map (fun i => (i.zero, i.size, i.bytes)) = some (some (.agg #[.int .i64 0, .int .i64 0]), 2, 16) := by kernel_rfl
theorem lessM_ordered : Ordered lessM := ⟨fun x y h => lessM_asym h, fun x y z h1 h2 => by unfold lessM at *; simp only [decide_eq_false_iff_not] at *; omega⟩
def KEnd (q : Nat) (L : List Mo) (F : Nat → Prop) (W W' : World) : Prop := ∃ F', ClkQ q L W' F' ∧ Fr F W W' ∧ ∀ k, F' k → F k ∨ W.heap.size ≤ k
theorem kEnd_refl {q : Nat} {L : List Mo} {F : Nat → Prop} {W : World} (h : ClkQ q L W F) : KEnd q L F W W := ⟨F, h, Fr.refl _ _, fun _ hk => .inl hk⟩
theorem KEnd.step {q : Nat} {L' : List Mo} {F F1 : Nat → Prop} {W W1 W2 : World} (hf : Fr F W W1) (hs : ∀ k, F1 k → F k ∨ W.heap.size ≤ k) (h : KEnd q L' F1 W1 W2) : KEnd q L' F W W2 := by
 obtain ⟨F2, h1, h2, h3⟩ := h
 refine ⟨F2, h1, hf.trans h2 hs, fun k hk => ?_⟩
 rcases h3 k hk with h | h
 ·exact hs k h
 ·exact .inr (Nat.le_trans hf.size h)
theorem KEnd.later {q : Nat} {L : List Mo} {F : Nat → Prop} {W W1 : World} (h : KEnd q L F W W1) (x : Later W1) : KEnd q L F W x.w := by
 obtain ⟨F1, h1, h2, h3⟩ := h
 exact ⟨F1, (clkQ_owns q L).kept W1 x.w F1 h1 x.below.size (fun k hk => x.below.block k ((clkQ_owns q L).lt W1 F1 h1 k hk)), h2.later x, h3⟩
theorem KEnd.drew {q : Nat} {L : List Mo} {F : Nat → Prop} {W W1 : World} (h : KEnd q L F W W1) : KEnd q L F W W1.drew := h.later ⟨W1.drew, ext_drew (ext_refl W1)⟩
abbrev hpW (q : Nat) : Value := .iface 128 (.pointer (some ⟨q, 0, none⟩))
def encW (t : Mo) : Value := .iface 126 (.agg #[.int .i64 t.n, .int .i64 t.t])
theorem load_moments {q : Nat} {L : List Mo} {W : World} {p : Option Addr} {cap : Nat} (hc : ClkCells W q L p cap) : (loadVar 111 ⟨q, 0, none⟩).run Tryz.prog W = .ok (.slice p L.length cap) W := by
 have h1 := hc.h1
 simp [loadVar, isAgg, go_sem, h1]
set_option maxHeartbeats 1000000 in
set_option maxRecDepth 100000 in
theorem lenM_calls (p : Option Addr) (n cap : Nat) (w : World) : Gives Tryz.prog 139 #[.slice p n cap] w (.int .i64 n) := by
 unfold Gives
 go_enter Tryz.func139, Tryz.ntmps139
 go_wp2_with fail
 go_ret
 exact ⟨rfl, Later.ex (by repeat (first | exact ext_refl _ | refine ext_later ?_ _ | refine ext_alloc ?_ _ | refine ext_drew ?_ | refine ext_drewN ?_ _))⟩
theorem lessM_at {t u : Mo} (h : t.t ≠ u.t) : lessM t u = decide (t.t < u.t) := by
 unfold lessM
 rw [decide_eq_decide]
 omega
theorem lessM_id {t u : Mo} (h : t.t = u.t) : lessM t u = decide (t.n < u.n) := by
 unfold lessM
 rw [decide_eq_decide]
 omega
set_option maxHeartbeats 1000000 in
set_option maxRecDepth 100000 in
theorem lessK_calls (q : Nat) (L : List Mo) (p : Option Addr) (cap : Nat) (w : World) (hc : ClkCells w q L p cap) (i j : Nat) (x y : Mo) (hi : L[i]? = some x) (hj : L[j]? = some y) :
  Gives Tryz.prog 140 #[.slice p L.length cap, .int .i64 i, .int .i64 j] w (.bool (lessM x y)) := by
 unfold Gives
 have hil := (List.getElem?_eq_some_iff.1 hi).1
 have hjl := (List.getElem?_eq_some_iff.1 hj).1
 rcases hc.row with h0 | ⟨g, rfl, hg, hgq, _, hcell⟩
 ·rw [h0] at hil; simp at hil
 obtain ⟨a0, a1⟩ := hcell i _ hi
 obtain ⟨b0, b1⟩ := hcell j _ hj
 have HT := Lib.hid (@lessM_at x y)
 have HN := Lib.hid (@lessM_id x y)
 obtain ⟨m, T⟩ := x
 obtain ⟨n, U⟩ := y
 dsimp only at a0 a1 b0 b1 HT HN
 obtain ⟨N, hN⟩ : ∃ N : Nat, L.length = N := ⟨_, rfl⟩
 rw [hN] at hil hjl ⊢
 clear hcell hi hj hN hc
 by_cases e : T = U
 ·have e1 : (T != U) = false := by simpa using e
  have HV := Lib.hid (HN.out e)
  clear HT HN e
  go_enter Tryz.func140, Tryz.ntmps140
  go_wp2_with fail
  go_quiet (fail)
  go_wp2_with fail
  go_quiet (fail)
  go_wp2_with fail
  go_ret
  exact ⟨by rw [HV.out]; rfl, Later.ex (by repeat (first | exact ext_refl _ | refine ext_later ?_ _ | refine ext_alloc ?_ _ | refine ext_drew ?_ | refine ext_drewN ?_ _))⟩
 ·have e1 : (T != U) = true := by simpa using e
  have HV := Lib.hid (HT.out e)
  clear HT HN e
  go_enter Tryz.func140, Tryz.ntmps140
  go_wp2_with fail
  go_quiet (fail)
  go_wp2_with fail
  go_quiet (fail)
  go_wp2_with fail
  go_ret
  exact ⟨by rw [HV.out]; rfl, Later.ex (by repeat (first | exact ext_refl _ | refine ext_later ?_ _ | refine ext_alloc ?_ _ | refine ext_drew ?_ | refine ext_drewN ?_ _))⟩
end
section
open Go Go.RowKit
theorem row_setW {W : World} {g cap : Nat} {cur : Array Value} {T : TypeId} {L : List Mo} {k : Nat} (t : Mo) (hg : W.heap[g]? = some (.cells cur T (0, 0))) (hs : cur.size = cap * 2) (hc : L.length ≤ cap) (hk : k < L.length)
  (ht : cur.toList.take (L.length * 2) = cellsW L) :
  ∃ cur', ((W.setCell ⟨g, k * 2, none⟩ (.int .i64 t.n)).setCell ⟨g, k * 2 + 1, none⟩ (.int .i64 t.t)).heap[g]? = some (.cells cur' T (0, 0)) ∧
   cur'.size = cap * 2 ∧ cur'.toList.take ((L.set k t).length * 2) = cellsW (L.set k t) := by
 have h1 := heap_setCell_same W g (k * 2) _ _ (.int .i64 t.n) hg
 have h2 := heap_setCell_same _ g (k * 2 + 1) _ _ (.int .i64 t.t) h1
 refine ⟨_, h2, by simp [hs], ?_⟩
 apply List.ext_getElem?
 intro j
 rw [List.length_set]
 by_cases hj : j < L.length * 2
 ·obtain ⟨q, r, hr, rfl⟩ : ∃ q r, r < 2 ∧ j = q * 2 + r := ⟨j / 2, j % 2, by omega, by omega⟩
  have hq : q < L.length := by omega
  rw [List.getElem?_take_of_lt hj]
  have hold : cur.toList[q * 2 + r]? = (cellsW L)[q * 2 + r]? := by rw [← ht, List.getElem?_take_of_lt hj]
  have hold' : cur[q * 2 + r]? = (cellsW L)[q * 2 + r]? := by simpa using hold
  by_cases e : q = k
  ·subst e
   have hset : (L.set q t)[q]? = some t := by simp [hq]
   obtain ⟨a0, a1⟩ := cellsW_at _ q t hset
   rcases (by omega : r = 0 ∨ r = 1) with rfl | rfl
   ·simp only [Nat.add_zero]
    rw [a0]
    have hb : q * 2 < cur.size := by omega
    simp [hb]
   ·rw [a1]
    have hb : q * 2 + 1 < cur.size := by omega
    simp [hb]
  ·have hset : (L.set k t)[q]? = some L[q] := by rw [List.getElem?_set_ne (Ne.symm e)]; exact List.getElem?_eq_getElem hq
   obtain ⟨a0, a1⟩ := cellsW_at _ q _ hset
   obtain ⟨b0, b1⟩ := cellsW_at L q _ (List.getElem?_eq_getElem hq)
   have hne : ∀ j, j < 2 → (k * 2 + j) ≠ q * 2 + r := fun j hj => by omega
   have n0 := hne 0 (by omega)
   have n1 := hne 1 (by omega)
   have hl : (cellsW (L.set k t))[q * 2 + r]? = (cellsW L)[q * 2 + r]? := by
    rcases (by omega : r = 0 ∨ r = 1) with rfl | rfl
    ·exact a0.trans b0.symm
    ·exact a1.trans b1.symm
   rw [hl, ← hold']
   simp only [Nat.add_zero] at n0
   simp [n0, n1]
 ·rw [List.getElem?_eq_none (by simp; omega), List.getElem?_eq_none (by rw [cellsW_len, List.length_set]; omega)]
theorem swapK_done {q : Nat} {L : List Mo} {W : World} {F : Nat → Prop} {g cap i j : Nat} {x y : Mo} (h : ClkQ q L W F) (he : W.cell? ⟨q, 0, none⟩ = some (.slice (some ⟨g, 0, none⟩) L.length cap)) (hi : L[i]? = some x) (hj : L[j]? = some y) :
  KEnd q (swapL L i j) F W ((((W.setCell ⟨g, i * 2, none⟩ (.int .i64 y.n)).setCell ⟨g, i * 2 + 1, none⟩ (.int .i64 y.t)).setCell ⟨g, j * 2, none⟩ (.int .i64 x.n)).setCell ⟨g, j * 2 + 1, none⟩ (.int .i64 x.t)) := by
 obtain ⟨v, hq, hr, hF⟩ := h
 obtain rfl : v = .slice (some ⟨g, 0, none⟩) L.length cap := by simpa [World.cell?, hq] using he
 have hil := (List.getElem?_eq_some_iff.1 hi).1
 have hjl := (List.getElem?_eq_some_iff.1 hj).1
 have hFg : F g := (hF g).2 (.inr rfl)
 have hne : g ≠ q := fun e => clk_apart hq hr (by rw [e]; rfl)
 rcases hr.2 with ⟨h1, _⟩ | ⟨g', cap', cur, hv, _, hgo, hnc, hcm, hcs, htk⟩
 ·simp at h1
 obtain ⟨rfl, rfl⟩ : g = g' ∧ cap = cap' := by simpa using hv
 obtain ⟨cur1, hg1, hs1, ht1⟩ := row_setW y hgo hcs hnc hil htk
 have hjl' : j < (L.set i y).length := by simpa using hjl
 obtain ⟨cur2, hg2, hs2, ht2⟩ := row_setW x hg1 hs1 (by rw [List.length_set]; exact hnc) hjl' ht1
 rw [swapL_some hi hj]
 have hlen : ((L.set i y).set j x).length = L.length := by simp
 have hq2 := (Below.heap_setCell (((W.setCell ⟨g, i * 2, none⟩ (.int .i64 y.n)).setCell ⟨g, i * 2 + 1, none⟩ (.int .i64 y.t)).setCell ⟨g, j * 2, none⟩ (.int .i64 x.n)) ⟨g, j * 2 + 1, none⟩ (.int .i64 x.t) q hne.symm).trans ((Below.heap_setCell _ _ _ _ hne.symm).trans ((Below.heap_setCell _ _ _ _ hne.symm).trans ((Below.heap_setCell _ _ _ _ hne.symm).trans hq)))
 have f3 := ((((Fr.refl F W).set g (i * 2) (.int .i64 y.n) (.inl hFg)).set g (i * 2 + 1) (.int .i64 y.t) (.inl hFg)).set g (j * 2) (.int .i64 x.n) (.inl hFg)).set g (j * 2 + 1) (.int .i64 x.t) (.inl hFg)
 refine ⟨F, ⟨.slice (some ⟨g, 0, none⟩) L.length cap, hq2, ⟨?_, .inr ⟨g, cap, cur2, ?_, Nat.zero_le _, hg2, ?_, hcm, hs2, ht2⟩⟩, hF⟩, f3, fun k hk => .inl hk⟩
 ·rw [cellsW_len]
 ·rw [hlen]
 ·rw [hlen]; exact hnc
set_option maxHeartbeats 4000000 in
set_option maxRecDepth 100000 in
theorem swapK_self (q : Nat) (L : List Mo) (p : Option Addr) (cap : Nat) (w : World) (F : Nat → Prop) (h : ClkQ q L w F) (hc : ClkCells w q L p cap) (i : Nat) (x : Mo) (hi : L[i]? = some x) :
  Calls Tryz.prog 141 #[.slice p L.length cap, .int .i64 i, .int .i64 i] w fun e w' => (∃ v, e = .returned v) ∧ KEnd q (swapL L i i) F w w' := by
 have hil := (List.getElem?_eq_some_iff.1 hi).1
 have he := hc.h1
 rcases hc.row with h0 | ⟨g, rfl, hg, hgq, hfz, hcell⟩
 ·rw [h0] at hil; simp at hil
 obtain ⟨a0, a1⟩ := hcell i _ hi
 have f0 := hfz (i * 2)
 have f1 := hfz (i * 2 + 1)
 have HD := Lib.hid (KEnd.drew (@swapK_done q L w F g cap i i x x h he hi hi))
 obtain ⟨m, T⟩ := x
 dsimp only at a0 a1 HD
 obtain ⟨N, hN⟩ : ∃ N : Nat, L.length = N := ⟨_, rfl⟩
 rw [hN] at hil ⊢
 clear hfz hcell hi he hc h hN
 go_enter Tryz.func141, Tryz.ntmps141
 go_wp2_with fail
 go_region_law (fail)
 all_goals go_wp2_with fail
 all_goals go_end0
 all_goals exact ⟨⟨_, rfl⟩, HD.out⟩
set_option maxHeartbeats 4000000 in
set_option maxRecDepth 100000 in
theorem swapK_two (q : Nat) (L : List Mo) (p : Option Addr) (cap : Nat) (w : World) (F : Nat → Prop) (h : ClkQ q L w F) (hc : ClkCells w q L p cap) (i j : Nat) (x y : Mo) (hi : L[i]? = some x) (hj : L[j]? = some y) (hij : i ≠ j) :
  Calls Tryz.prog 141 #[.slice p L.length cap, .int .i64 i, .int .i64 j] w fun e w' => (∃ v, e = .returned v) ∧ KEnd q (swapL L i j) F w w' := by
 have hil := (List.getElem?_eq_some_iff.1 hi).1
 have hjl := (List.getElem?_eq_some_iff.1 hj).1
 have he := hc.h1
 rcases hc.row with h0 | ⟨g, rfl, hg, hgq, hfz, hcell⟩
 ·rw [h0] at hil; simp at hil
 obtain ⟨a0, a1⟩ := hcell i _ hi
 obtain ⟨b0, b1⟩ := hcell j _ hj
 have f0 := hfz (i * 2)
 have f1 := hfz (i * 2 + 1)
 have g0 := hfz (j * 2)
 have g1 := hfz (j * 2 + 1)
 have HD := Lib.hid (KEnd.drew (@swapK_done q L w F g cap i j x y h he hi hj))
 obtain ⟨m, T⟩ := x
 obtain ⟨n, U⟩ := y
 dsimp only at a0 a1 b0 b1 HD
 obtain ⟨N, hN⟩ : ∃ N : Nat, L.length = N := ⟨_, rfl⟩
 rw [hN] at hil hjl ⊢
 clear hfz hcell hi hj he hc h hN
 have n0 : ¬ j = i := fun e => hij e.symm
 have n1 : ¬ j * 2 = i * 2 + 1 := by omega
 have m1 : ¬ i * 2 = j * 2 + 1 := by omega
 have k1 : ¬ j * 2 + 1 = i * 2 := by omega
 go_enter Tryz.func141, Tryz.ntmps141
 go_wp2_with fail
 go_region_law (fail)
 all_goals go_wp2_with fail
 all_goals go_end0
 all_goals exact ⟨⟨_, rfl⟩, HD.out⟩
theorem swapK_calls (q : Nat) (L : List Mo) (p : Option Addr) (cap : Nat) (w : World) (F : Nat → Prop) (h : ClkQ q L w F) (hc : ClkCells w q L p cap) (i j : Nat) (x y : Mo) (hi : L[i]? = some x) (hj : L[j]? = some y) :
  Calls Tryz.prog 141 #[.slice p L.length cap, .int .i64 i, .int .i64 j] w fun e w' => (∃ v, e = .returned v) ∧ KEnd q (swapL L i j) F w w' := by
 by_cases hij : i = j
 ·subst hij
  exact swapK_self q L p cap w F h hc i x hi
 ·exact swapK_two q L p cap w F h hc i j x y hi hj hij
end
section
open Go Go.RowKit
@[simp, go_sem] theorem run_assert_moment (v : Value) (w : World) : (Instr.typeAssert (.iface 126 v) 20 126 false).run Tryz.prog w = .ok v w := by
 simp [Instr.typeAssert, go_sem]
theorem ownsRow_setW {W : World} {T : TypeId} {g cap m q o : Nat} {xs : List Value} (h : W.ownsRow 0 T 2 (.slice (some ⟨g, 0, none⟩) m cap) m xs) (hne : g ≠ q) (u : Value) : (W.setCell ⟨q, o, none⟩ u).ownsRow 0 T 2 (.slice (some ⟨g, 0, none⟩) m cap) m xs :=
 row_keepsE h fun g' hg' => Below.heap_setCell _ _ _ _ (by simp [Value.ownBlock] at hg'; subst hg'; exact hne)
theorem cell_two_new (W : World) (x y : Value) (t : TypeId) (j : Nat) (v : Value) (h : [x, y][j]? = some v) : (W.alloc (.cells #[x, y] t)).cell? ((⟨W.heap.size, 0, none⟩ : Addr).add j) = some v := by
 have hb := heap_alloc_new W (.cells #[x, y] t)
 rw [addr_off, Nat.zero_add]
 simp only [World.cell?, hb]
 simpa using h
theorem pushK_done (q : Nat) (L : List Mo) (t : Mo) {w w3 w4 : World} {F : Nat → Prop} {v : Value} {g cap : Nat} {ob : Obj} (hlt : q < w.heap.size) (hF : ∀ k, F k ↔ k = q ∨ v.ownBlock = some k) (hvq : some q ≠ v.ownBlock) (hb : Below w.heap.size w w3)
  (ho : w4.ownsRow 0 126 2 (.slice (some ⟨g, 0, none⟩) (L.length + 1) cap) (L.length + 1) (cellsW L ++ [.int .i64 t.n, .int .i64 t.t])) (hg : (w3.alloc ob).drew.grownBy w4 v.ownBlock)
  (hw : ∀ j, (Value.slice (some ⟨g, 0, none⟩) (L.length + 1) cap).ownBlock = some j → v.ownBlock = some j ∨ (w3.alloc ob).drew.heap.size ≤ j) (hd : w4.heap[q]? = some (.cells #[v] 113 (0, 0))) :
  KEnd q (L ++ [t]) F w (w4.setCell ⟨q, 0, none⟩ (.slice (some ⟨g, 0, none⟩) (L.length + 1) cap)) := by
 have hs := hb.size
 have hgw : v.ownBlock = some g ∨ w.heap.size ≤ g := by
  rcases hw g rfl with h | h
  ·exact .inl h
  ·have : w3.heap.size ≤ (w3.alloc ob).drew.heap.size := by simp
   exact .inr (by omega)
 have hne : g ≠ q := by
  rintro rfl
  rcases hgw with h | h
  ·exact hvq h.symm
  ·omega
 have f0 : Fr F w (w3.alloc ob).drew := ((Fr.of_below hb).alloc ob).drew
 have f1 : Fr F w w4 := f0.trans (G := F) (Fr.of_grownBy hg fun j hj => .inl ((hF j).2 (.inr hj))) fun _ h => .inl h
 refine ⟨fun j => j = q ∨ j = g, ⟨.slice (some ⟨g, 0, none⟩) (L.length + 1) cap, ?_, ?_, ?_⟩, f1.set q 0 _ (.inl ((hF q).2 (.inl rfl))), ?_⟩
 ·rw [heap_setCell_same _ _ _ _ _ _ hd]; rfl
 ·rw [List.length_append, cellsW_snoc]
  exact ownsRow_setW ho hne _
 ·intro k
  simp [Value.ownBlock, eq_comm]
 ·rintro k (rfl | rfl)
  ·exact .inl ((hF k).2 (.inl rfl))
  ·rcases hgw with h | h
   ·exact .inl ((hF k).2 (.inr h))
   ·exact .inr h
theorem ownsRow_succW {W : World} {T : TypeId} {v : Value} {m : Nat} {xs : List Value} (h : W.ownsRow 0 T 2 v (m + 1) xs) : ∃ g cap, v = .slice (some ⟨g, 0, none⟩) (m + 1) cap := by
 rcases h.2 with ⟨_, h1⟩ | ⟨g, cap, cur, rfl, _⟩
 ·simp at h1
 ·exact ⟨g, cap, rfl⟩
set_option maxHeartbeats 4000000 in
set_option maxRecDepth 100000 in
theorem pushK_calls (q : Nat) (L : List Mo) (w : World) (F : Nat → Prop) (h : ClkQ q L w F) (t : Mo) (hL : L.length ≤ 2000) :
  Calls Tryz.prog 143 #[.pointer (some ⟨q, 0, none⟩), encW t] w fun e w' => (∃ v, e = .returned v) ∧ KEnd q (L ++ [t]) F w w' := by
 obtain ⟨n, T⟩ := t
 unfold encW
 dsimp only
 obtain ⟨i0, hi, hz0, hz1, hz2⟩ := info_parts infoMoment
 obtain ⟨v, hq, hr, hF⟩ := h
 have hlt := (Array.getElem?_eq_some_iff.1 hq).1
 have e1 : w.cell? ⟨q, 0, none⟩ = some v := by simp [World.cell?, hq]
 have hvq := clk_apart hq hr
 have HQ := Lib.hid hq
 have HR := Lib.hid hr
 have HF := Lib.hid hF
 have hcn := cell_two_new w.drew (.int .i64 n) (.int .i64 T) 126
 have HCN := Lib.hid hcn
 clear hq hr hF hcn
 go_enter Tryz.func143, Tryz.ntmps143
 go_wp2_with fail
 go_region_law (refine step_append_where rfl _ _ 111 rfl 126 i0 (.agg #[.int .i64 0, .int .i64 0]) 2 16 Tryz.underlying111 hi hz0 hz1 hz2 rfl (by decide) v L.length (cellsW L) rfl (HR.out.alloc _) ⟨w.heap.size, 0, none⟩ 1 1 [.int .i64 n, .int .i64 T] rfl rfl HCN.out (by simp [Value.oneCell']) (by unfold maxLen; omega) (by omega) ?_; intro v' w4 hown hgrow hwh; obtain ⟨g', cap', rfl⟩ := ownsRow_succW hown; have hd1 : w4.heap[q]? = some (.cells #[v] 113 (0, 0)) := (hgrow.block q (by first | (simp; done) | (simp; omega)) hvq).trans ((Below.heap_alloc _ _ _ hlt).trans HQ.out); have hd2 : w4.cell? ⟨q, 0, none⟩ = some v := (by simp [World.cell?, hd1]); have hd3 : w4.frozen? ⟨q, 0, none⟩ = false := (by simp [World.frozen?, hd1]); have HD := Lib.hid hd1; have HO := Lib.hid hown; have HG := Lib.hid hgrow; have HW := Lib.hid hwh; clear hd1 hown hgrow hwh)
 all_goals go_wp2_with fail
 all_goals go_end0
 all_goals exact ⟨⟨_, rfl⟩, pushK_done q L ⟨n, T⟩ hlt HF.out hvq (ext_refl w) HO.out HG.out HW.out HD.out⟩
theorem cellsW_take (L : List Mo) (t : Mo) (cs : List Value) (h : cs.take ((L ++ [t]).length * 2) = cellsW (L ++ [t])) : cs.take (L.length * 2) = cellsW L := by
 have e : cs.take (L.length * 2) = (cs.take ((L ++ [t]).length * 2)).take (L.length * 2) := by rw [List.take_take]; congr 1; simp
 rw [e, h, cellsW_snoc, ← cellsW_len, List.take_left]
theorem popK_done {q : Nat} {L : List Mo} {t : Mo} {w w1 : World} {F : Nat → Prop} {p : Option Addr} {cap : Nat} (h : ClkQ q (L ++ [t]) w F) (he : w.cell? ⟨q, 0, none⟩ = some (.slice p (L.length + 1) cap)) (hb : Below w.heap.size w w1) :
  KEnd q L F w (w1.setCell ⟨q, 0, none⟩ (.slice p L.length cap)) := by
 obtain ⟨v, hq, hr, hF⟩ := h
 have hvq := clk_apart hq hr
 obtain rfl : v = .slice p (L.length + 1) cap := by simpa [World.cell?, hq] using he
 have hlt := (Array.getElem?_eq_some_iff.1 hq).1
 rcases hr.2 with ⟨h1, h2⟩ | ⟨g, cap', cur, hv, _, hgo, hnc, hcm, hcs, htk⟩
 ·simp at h2
 simp only [List.length_append, List.length_cons, List.length_nil, Value.slice.injEq] at hv
 obtain ⟨rfl, _, rfl⟩ := hv
 have hgq : g ≠ q := fun e => hvq (by rw [e]; rfl)
 have hg := (Array.getElem?_eq_some_iff.1 hgo).1
 have h1q := (hb.block q hlt).trans hq
 refine ⟨F, ⟨.slice (some ⟨g, 0, none⟩) L.length cap, ?_, ⟨?_, .inr ⟨g, cap, cur, rfl, Nat.zero_le _, ?_, ?_, hcm, hcs, ?_⟩⟩, ?_⟩, (Fr.of_below hb).set q 0 _ (.inl ((hF q).2 (.inl rfl))), fun k hk => .inl hk⟩
 ·rw [heap_setCell_same _ _ _ _ _ _ h1q]; rfl
 ·rw [cellsW_len]
 ·exact (Below.heap_setCell _ _ _ _ hgq).trans ((hb.block g hg).trans hgo)
 ·simp only [List.length_append, List.length_cons, List.length_nil] at hnc; omega
 ·exact cellsW_take L t _ htk
 ·intro k
  rw [hF k]
  simp [Value.ownBlock]
set_option maxHeartbeats 4000000 in
set_option maxRecDepth 100000 in
theorem popK_calls (q : Nat) (L : List Mo) (t : Mo) (w : World) (F : Nat → Prop) (h : ClkQ q (L ++ [t]) w F) (hL : L.length ≤ 2000) :
  Calls Tryz.prog 142 #[.pointer (some ⟨q, 0, none⟩)] w fun e w' => e = .returned (encW t) ∧ KEnd q L F w w' := by
 obtain ⟨p, cap, hc⟩ := h.cells
 have hlt := hc.lt
 have he : w.cell? ⟨q, 0, none⟩ = some (.slice p (L.length + 1) cap) := by have := hc.h1; rw [List.length_append] at this; exact this
 have hf1 := hc.f1
 rcases hc.row with h0 | ⟨g, rfl, hg, hgq, _, hcell⟩
 ·simp at h0
 obtain ⟨a0, a1⟩ := hcell L.length t (by simp)
 have HD : Hid (∀ ob, KEnd q L F w ((w.setCell ⟨q, 0, none⟩ (.slice (some ⟨g, 0, none⟩) L.length cap)).alloc ob)) := Lib.hid fun ob => (popK_done h he (ext_refl w)).later ⟨_, ext_alloc (ext_refl _) ob⟩
 have hcap : L.length + 1 ≤ cap := by
  obtain ⟨v, hq, hr, _⟩ := h
  obtain rfl : v = .slice (some ⟨g, 0, none⟩) (L.length + 1) cap := by simpa [World.cell?, hq] using he
  rcases hr.2 with ⟨_, h2⟩ | ⟨g', cap', cur, hv, _, _, hnc, _⟩
  ·simp at h2
  ·simp only [List.length_append, List.length_cons, List.length_nil, Value.slice.injEq] at hv hnc
   omega
 obtain ⟨n, T⟩ := t
 unfold encW
 dsimp only at a0 a1 ⊢
 obtain ⟨N, hN⟩ : ∃ N : Nat, L.length = N := ⟨_, rfl⟩
 rw [hN] at he a0 a1 hL hcap HD
 have hne : q ≠ w.heap.size := by omega
 clear hcell hc h hN
 go_enter Tryz.func142, Tryz.ntmps142
 go_wp2_with fail
 go_ret
 exact ⟨rfl, HD.out _⟩
def KAt (q : Nat) (F : Nat → Prop) (w : World) (xs : List Mo) (W : World) : Prop := KEnd q xs F w W ∧ xs.length ≤ 2000
theorem kheap (q : Nat) (F : Nat → Prop) (w : World) : HeapIf Tryz.prog (hpW q) lessM (KAt q F w) where
 size xs W h := by have := h.2; omega
 len xs W h := by
  obtain ⟨⟨F1, h1, h2, h3⟩, hl⟩ := h
  obtain ⟨p, cap, hc⟩ := h1.cells
  refine via_value (elem := 111) (f := 139) Tryz.underlying128 (by kernel_rfl) (load_moments hc) Tryz.call139 ?_
  exact (lenM_calls p xs.length cap W).mono fun e w' ⟨he, x, hx⟩ => ⟨he, by subst hx; exact ⟨(KEnd.step h2 h3 (kEnd_refl h1)).later x, hl⟩⟩
 less xs W i j x y h hi hj := by
  obtain ⟨⟨F1, h1, h2, h3⟩, hl⟩ := h
  obtain ⟨p, cap, hc⟩ := h1.cells
  refine via_value (elem := 111) (f := 140) Tryz.underlying128 (by kernel_rfl) (load_moments hc) Tryz.call140 ?_
  exact (lessK_calls q xs p cap W hc i j x y hi hj).mono fun e w' ⟨he, x, hx⟩ => ⟨he, by subst hx; exact ⟨(KEnd.step h2 h3 (kEnd_refl h1)).later x, hl⟩⟩
 swap xs W i j x y h hi hj := by
  obtain ⟨⟨F1, h1, h2, h3⟩, hl⟩ := h
  obtain ⟨p, cap, hc⟩ := h1.cells
  refine via_value (elem := 111) (f := 141) Tryz.underlying128 (by kernel_rfl) (load_moments hc) Tryz.call141 ?_
  exact (swapK_calls q xs p cap W F1 h1 hc i j x y hi hj).mono fun e w' ⟨he, hx⟩ => ⟨he, KEnd.step h2 h3 hx, by rw [swapL_len]; exact hl⟩
theorem kends (q : Nat) (F : Nat → Prop) (w : World) : HeapEnds Tryz.prog (hpW q) encW 2000 (KAt q F w) where
 push xs x W h hlt := by
  obtain ⟨⟨F1, h1, h2, h3⟩, hl⟩ := h
  refine via_pointer (n := Tryz.prog.types.size + Made.depth - 1 + 1) (by have : 0 < Made.depth := (by decide); omega) (method_pointer (f := 143) (elem := 111) Tryz.underlying128 (by kernel_rfl)) Tryz.call143 ?_
  exact (pushK_calls q xs W F1 h1 x hl).mono fun e w' ⟨he, hx⟩ => ⟨he, KEnd.step h2 h3 hx, by simp; omega⟩
 pop xs x W h := by
  obtain ⟨⟨F1, h1, h2, h3⟩, hl⟩ := h
  have hl' : xs.length ≤ 2000 := by simp at hl; omega
  refine via_pointer (n := Tryz.prog.types.size + Made.depth - 1 + 1) (by have : 0 < Made.depth := (by decide); omega) (method_pointer (f := 142) (elem := 111) Tryz.underlying128 (by kernel_rfl)) Tryz.call142 ?_
  exact (popK_calls q xs x W F1 h1 hl').mono fun e w' ⟨he, hx⟩ => ⟨he, KEnd.step h2 h3 hx, hl'⟩
end
section
open Go Go.RowKit
def KPut (q : Nat) (Y : List Mo) (F : Nat → Prop) (w w' : World) : Prop := ∃ K', K'.Perm Y ∧ IsHeap lessM K'.length K' ∧ KEnd q K' F w w'
theorem kPut_later {q : Nat} {L : List Mo} {F : Nat → Prop} {w : World} (h : ClkQ q L w F) (hh : IsHeap lessM L.length L) (x : Later w) : KPut q L F w x.w := ⟨L, List.Perm.refl _, hh, (kEnd_refl h).later x⟩
set_option maxHeartbeats 1000000 in
set_option maxRecDepth 100000 in
theorem setK_bad (q : Nat) (n t : Int) (w : World) (hm : okM ⟨n, t⟩ = false) : Gives Tryz.prog 80 #[.pointer (some ⟨q, 0, none⟩), .int .i64 n, .int .i64 t] w (.bool false) := by
 unfold Gives
 simp only [okM, decide_eq_false_iff_not] at hm
 have HM := Lib.hid hm
 clear hm
 by_cases h1 : n < 0
 ·have g1 : decide (n < 0) = true := decide_eq_true h1
  clear HM
  go_enter Tryz.func80, Tryz.ntmps80
  go_wp2_with fail
  go_ret
  exact ⟨rfl, Later.ex (by repeat (first | exact ext_refl _ | refine ext_later ?_ _ | refine ext_alloc ?_ _ | refine ext_drew ?_ | refine ext_drewN ?_ _))⟩
 by_cases h2 : 999 < n
 ·have g1 : decide (n < 0) = false := decide_eq_false h1
  have g2 : decide (999 < n) = true := decide_eq_true h2
  clear HM
  go_enter Tryz.func80, Tryz.ntmps80
  go_wp2_with fail
  go_ret
  exact ⟨rfl, Later.ex (by repeat (first | exact ext_refl _ | refine ext_later ?_ _ | refine ext_alloc ?_ _ | refine ext_drew ?_ | refine ext_drewN ?_ _))⟩
 by_cases h3 : t < 0
 ·have g1 : decide (n < 0) = false := decide_eq_false h1
  have g2 : decide (999 < n) = false := decide_eq_false h2
  have g3 : decide (t < 0) = true := decide_eq_true h3
  clear HM
  go_enter Tryz.func80, Tryz.ntmps80
  go_wp2_with fail
  go_ret
  exact ⟨rfl, Later.ex (by repeat (first | exact ext_refl _ | refine ext_later ?_ _ | refine ext_alloc ?_ _ | refine ext_drew ?_ | refine ext_drewN ?_ _))⟩
 ·have h4 : 1099511627776 < t := by have := HM.out; omega
  have g1 : decide (n < 0) = false := decide_eq_false h1
  have g2 : decide (999 < n) = false := decide_eq_false h2
  have g3 : decide (t < 0) = false := decide_eq_false h3
  have g4 : decide (1099511627776 < t) = true := decide_eq_true h4
  clear HM
  go_enter Tryz.func80, Tryz.ntmps80
  go_wp2_with fail
  go_ret
  exact ⟨rfl, Later.ex (by repeat (first | exact ext_refl _ | refine ext_later ?_ _ | refine ext_alloc ?_ _ | refine ext_drew ?_ | refine ext_drewN ?_ _))⟩
theorem okM_parts {n t : Int} (h : okM ⟨n, t⟩ = true) : (decide (n < 0) = false ∧ decide (999 < n) = false) ∧ decide (t < 0) = false ∧ decide (1099511627776 < t) = false := by
 simp only [okM, decide_eq_true_eq] at h
 refine ⟨⟨decide_eq_false ?_, decide_eq_false ?_⟩, decide_eq_false ?_, decide_eq_false ?_⟩ <;> omega
def KSet (q : Nat) (Y : List Mo) (F : Nat → Prop) (w : World) (e : Ending) (w' : World) : Prop := e = .returned (.bool true) ∧ KPut q Y F w w'
set_option maxHeartbeats 4000000 in
set_option maxRecDepth 100000 in
theorem setK_new (q : Nat) (L : List Mo) (n t : Int) (w : World) (F : Nat → Prop) (h : ClkQ q L w F) (hh : IsHeap lessM L.length L) (hL : L.length ≤ 1000) (hm : okM ⟨n, t⟩ = true) (ha : ixM L n = -1) :
  Calls Tryz.prog 80 #[.pointer (some ⟨q, 0, none⟩), .int .i64 n, .int .i64 t] w (KSet q (L ++ [⟨n, t⟩]) F w) := by
 obtain ⟨⟨g1, g2⟩, g3, g4⟩ := okM_parts hm
 obtain ⟨p, cap, hc⟩ := h.cells
 have HI : Hid (∀ x : Later w, Gives Tryz.prog 93 #[.slice p L.length cap, .int .i64 n] x.w (.int .i64 (-1))) := Lib.hid (fun x => (indexOfK_any q L n p cap x.w (hc.later x.below) (by omega)).cast (by rw [ha]))
 have HP : Hid (∀ x : Later w, Calls Tryz.prog 90 #[.iface 128 (.pointer (some ⟨q, 0, none⟩)), .iface 126 (.agg #[.int .i64 n, .int .i64 t])] x.w fun e w' => (∃ v, e = .returned v) ∧ Hid (KPut q (L ++ [⟨n, t⟩]) F w w')) := Lib.hid fun x => by
  have hr : KAt q F w L x.w := ⟨(kEnd_refl h).later x, by omega⟩
  exact (heapPush_any lessM_ordered (kheap q F w) (kends q F w) L ⟨n, t⟩ x.w hr hh (by omega)).mono fun e w' ⟨hv, xs', h1, h2, h3⟩ => ⟨hv, Lib.hid ⟨xs', h2, h3, h1.1⟩⟩
 have hlt := hc.lt
 have e1 := hc.h1
 clear hm ha h hh hc
 go_enter Tryz.func80, Tryz.ntmps80
 go_wp2_with fail
 refine Gives.on (HI.out ⟨_, by repeat (first | exact ext_refl _ | refine ext_later ?_ _ | refine ext_alloc ?_ _ | refine ext_drew ?_ | refine ext_drewN ?_ _)⟩) ?_
 intro x
 go_wp2_with fail
 refine (HP.out ⟨_, by repeat (first | exact ext_refl _ | refine ext_later ?_ _ | refine ext_alloc ?_ _ | refine ext_drew ?_ | refine ext_drewN ?_ _)⟩).mono ?_
 rintro e w4 ⟨⟨v, rfl⟩, HE⟩
 go_wp2_with fail
 go_ret
 exact ⟨rfl, HE.out⟩
theorem row_timeW {W : World} {g cap : Nat} {cur : Array Value} {T : TypeId} {L : List Mo} {k : Nat} (m : Mo) (t : Int) (hg : W.heap[g]? = some (.cells cur T (0, 0))) (hs : cur.size = cap * 2) (hc : L.length ≤ cap) (hk : L[k]? = some m)
  (ht : cur.toList.take (L.length * 2) = cellsW L) :
  ∃ cur', (W.setCell ⟨g, k * 2 + 1, none⟩ (.int .i64 t)).heap[g]? = some (.cells cur' T (0, 0)) ∧
   cur'.size = cap * 2 ∧ cur'.toList.take ((L.set k ⟨m.n, t⟩).length * 2) = cellsW (L.set k ⟨m.n, t⟩) := by
 have h1 := heap_setCell_same W g (k * 2 + 1) _ _ (.int .i64 t) hg
 have hkl := (List.getElem?_eq_some_iff.1 hk).1
 refine ⟨_, h1, by simp [hs], ?_⟩
 apply List.ext_getElem?
 intro j
 rw [List.length_set]
 by_cases hj : j < L.length * 2
 ·obtain ⟨q, r, hr, rfl⟩ : ∃ q r, r < 2 ∧ j = q * 2 + r := ⟨j / 2, j % 2, by omega, by omega⟩
  have hq : q < L.length := by omega
  rw [List.getElem?_take_of_lt hj]
  have hold : cur.toList[q * 2 + r]? = (cellsW L)[q * 2 + r]? := by rw [← ht, List.getElem?_take_of_lt hj]
  have hold' : cur[q * 2 + r]? = (cellsW L)[q * 2 + r]? := by simpa using hold
  by_cases e : q = k
  ·subst e
   have hset : (L.set q ⟨m.n, t⟩)[q]? = some ⟨m.n, t⟩ := by simp [hq]
   obtain ⟨a0, a1⟩ := cellsW_at _ q _ hset
   obtain ⟨b0, _⟩ := cellsW_at L q _ hk
   rcases (by omega : r = 0 ∨ r = 1) with rfl | rfl
   ·simp only [Nat.add_zero] at hold' ⊢
    rw [a0]
    rw [b0] at hold'
    have hne : q * 2 + 1 ≠ q * 2 := by omega
    simp [hold']
   ·rw [a1]
    have hb : q * 2 + 1 < cur.size := by omega
    simp [hb]
  ·have hset : (L.set k ⟨m.n, t⟩)[q]? = some L[q] := by rw [List.getElem?_set_ne (Ne.symm e)]; exact List.getElem?_eq_getElem hq
   obtain ⟨a0, a1⟩ := cellsW_at _ q _ hset
   obtain ⟨b0, b1⟩ := cellsW_at L q _ (List.getElem?_eq_getElem hq)
   have n1 : k * 2 + 1 ≠ q * 2 + r := by omega
   have hl : (cellsW (L.set k ⟨m.n, t⟩))[q * 2 + r]? = (cellsW L)[q * 2 + r]? := by
    rcases (by omega : r = 0 ∨ r = 1) with rfl | rfl
    ·exact a0.trans b0.symm
    ·exact a1.trans b1.symm
   rw [hl, ← hold']
   simp [n1]
 ·rw [List.getElem?_eq_none (by simp; omega), List.getElem?_eq_none (by rw [cellsW_len, List.length_set]; omega)]
theorem setK_done (q : Nat) (L : List Mo) (m : Mo) (t : Int) {w w9 : World} {F : Nat → Prop} {g cap k : Nat} (h : ClkQ q L w F) (he : w.cell? ⟨q, 0, none⟩ = some (.slice (some ⟨g, 0, none⟩) L.length cap)) (hk : L[k]? = some m) (hb : Below w.heap.size w w9) :
  KEnd q (L.set k ⟨m.n, t⟩) F w (w9.setCell ⟨g, k * 2 + 1, none⟩ (.int .i64 t)) := by
 obtain ⟨v, hq, hr, hF⟩ := h
 obtain rfl : v = .slice (some ⟨g, 0, none⟩) L.length cap := by simpa [World.cell?, hq] using he
 have hlt := (Array.getElem?_eq_some_iff.1 hq).1
 have hFg : F g := (hF g).2 (.inr rfl)
 have hg := (hr.lt g rfl).2
 have hne : g ≠ q := fun e => clk_apart hq hr (by rw [e]; rfl)
 rcases hr.2 with ⟨h1, _⟩ | ⟨g', cap', cur, hv, _, h1, hnc, hcm, hcs, htk⟩
 ·simp at h1
 obtain ⟨rfl, rfl⟩ : g = g' ∧ cap = cap' := by simpa using hv
 have h9 : w9.heap[g]? = _ := (hb.block g hg).trans h1
 obtain ⟨cur', hg9, hs9, ht9⟩ := row_timeW m t h9 hcs hnc hk htk
 refine ⟨F, ⟨.slice (some ⟨g, 0, none⟩) L.length cap, ?_, ⟨?_, .inr ⟨g, cap, cur', ?_, Nat.zero_le _, hg9, ?_, hcm, hs9, ht9⟩⟩, hF⟩, ?_, fun k hk => .inl hk⟩
 ·exact (Below.heap_setCell _ _ _ _ hne.symm).trans ((hb.block q hlt).trans hq)
 ·rw [cellsW_len]
 ·rw [List.length_set]
 ·rw [List.length_set]; exact hnc
 ·exact (Fr.of_below hb).set g _ _ (.inl hFg)
set_option maxHeartbeats 4000000 in
set_option maxRecDepth 100000 in
theorem setK_again (q : Nat) (L : List Mo) (n t : Int) (w : World) (F : Nat → Prop) (h : ClkQ q L w F) (hh : IsHeap lessM L.length L) (hL : L.length ≤ 1000) (hm : okM ⟨n, t⟩ = true) (k : Nat) (m : Mo) (hk : L[k]? = some m) (hmn : m.n = n) (ha : ixM L n = k) :
  Calls Tryz.prog 80 #[.pointer (some ⟨q, 0, none⟩), .int .i64 n, .int .i64 t] w (KSet q (L.set k ⟨n, t⟩) F w) := by
 obtain ⟨⟨g1, g2⟩, g3, g4⟩ := okM_parts hm
 obtain ⟨p, cap, hc⟩ := h.cells
 have HI : Hid (∀ x : Later w, Gives Tryz.prog 93 #[.slice p L.length cap, .int .i64 n] x.w (.int .i64 k)) := Lib.hid (fun x => (indexOfK_any q L n p cap x.w (hc.later x.below) (by omega)).cast (by rw [ha]))
 have hlt := hc.lt
 have e1 := hc.h1
 have hkl : k < L.length := (List.getElem?_eq_some_iff.1 hk).1
 rcases hc.row with h0 | ⟨g, rfl, hg, hgq, hfz, hcell⟩
 ·rw [h0] at hkl; simp at hkl
 obtain ⟨a0, a1⟩ := hcell k _ hk
 have f1 := hfz (k * 2 + 1)
 have HD : Hid (∀ w9, Below w.heap.size w w9 → KEnd q (L.set k ⟨n, t⟩) F w (w9.setCell ⟨g, k * 2 + 1, none⟩ (.int .i64 t))) := Lib.hid fun w9 hb => by
  have := setK_done q L m t h e1 hk hb
  rw [hmn] at this
  exact this
 have HX : Hid (∀ W, KEnd q (L.set k ⟨n, t⟩) F w W → Calls Tryz.prog 91 #[.iface 128 (.pointer (some ⟨q, 0, none⟩)), .int .i64 k] W fun e w' => (∃ v, e = .returned v) ∧ Hid (KPut q (L.set k ⟨n, t⟩) F w w')) := Lib.hid fun W hr => by
  have hl : (L.set k ⟨n, t⟩).length = L.length := by simp
  exact (heapFix_any lessM_ordered (kheap q F w) (L.set k ⟨n, t⟩) k W ⟨hr, by omega⟩ (fixPre_set lessM_ordered _ (by rw [hl]; exact hh) (by omega) (by omega)) (by omega)).mono fun e w' ⟨hv, xs', h1, h2, h3⟩ => ⟨hv, Lib.hid ⟨xs', h2, h3, h1.1⟩⟩
 obtain ⟨N, hN⟩ : ∃ N : Nat, L.length = N := ⟨_, rfl⟩
 rw [hN] at e1 hkl HI
 clear hm ha hcell hk hc h hh hfz hmn hN
 go_enter Tryz.func80, Tryz.ntmps80
 go_wp2_with fail
 refine Gives.on (HI.out ⟨_, by repeat (first | exact ext_refl _ | refine ext_later ?_ _ | refine ext_alloc ?_ _ | refine ext_drew ?_ | refine ext_drewN ?_ _)⟩) ?_
 intro x
 have c1 : x.w.cell? ⟨q, 0, none⟩ = _ := (x.below.cell (p := ⟨q, _, none⟩) hlt).trans e1
 have c2 : x.w.cell? ⟨g, k * 2 + 1, none⟩ = _ := (x.below.cell (p := ⟨g, _, none⟩) hg).trans a1
 have c3 : x.w.frozen? ⟨g, k * 2 + 1, none⟩ = _ := (x.below.frozen (p := ⟨g, _, none⟩) hg).trans f1
 have HK := Lib.hid (HD.out x.w x.below)
 clear HD
 go_wp2_with fail
 refine (HX.out _ HK.out).mono ?_
 rintro e w4 ⟨⟨v, rfl⟩, HE⟩
 go_wp2_with fail
 go_ret
 exact ⟨rfl, HE.out⟩
def KCut (q : Nat) (L : List Mo) (m : Mo) (F : Nat → Prop) (w : World) (e : Ending) (w' : World) : Prop := e = .returned (.bool true) ∧ ∃ K', (m :: K').Perm L ∧ IsHeap lessM K'.length K' ∧ KEnd q K' F w w'
set_option maxHeartbeats 4000000 in
set_option maxRecDepth 100000 in
theorem cutK_none (q : Nat) (L : List Mo) (n : Int) (w : World) (F : Nat → Prop) (h : ClkQ q L w F) (hL : L.length ≤ 1000) (ha : ixM L n = -1) :
  Gives Tryz.prog 71 #[.pointer (some ⟨q, 0, none⟩), .int .i64 n] w (.bool false) := by
 unfold Gives
 obtain ⟨p, cap, hc⟩ := h.cells
 have HI : Hid (∀ x : Later w, Gives Tryz.prog 93 #[.slice p L.length cap, .int .i64 n] x.w (.int .i64 (-1))) := Lib.hid (fun x => (indexOfK_any q L n p cap x.w (hc.later x.below) (by omega)).cast (by rw [ha]))
 have hlt := hc.lt
 have e1 := hc.h1
 clear ha h hc
 go_enter Tryz.func71, Tryz.ntmps71
 go_wp2_with fail
 refine Gives.on (HI.out ⟨_, by repeat (first | exact ext_refl _ | refine ext_later ?_ _ | refine ext_alloc ?_ _ | refine ext_drew ?_ | refine ext_drewN ?_ _)⟩) ?_
 intro x
 go_wp2_with fail
 go_ret
 exact ⟨rfl, Later.ex (by repeat (first | exact ext_refl _ | refine ext_later ?_ _ | refine ext_alloc ?_ _ | refine ext_drew ?_ | refine ext_drewN ?_ _))⟩
set_option maxHeartbeats 4000000 in
set_option maxRecDepth 100000 in
theorem cutK_one (q : Nat) (L : List Mo) (n : Int) (w : World) (F : Nat → Prop) (h : ClkQ q L w F) (hh : IsHeap lessM L.length L) (hL : L.length ≤ 1000) (k : Nat) (m : Mo) (hk : L[k]? = some m) (ha : ixM L n = k) :
  Calls Tryz.prog 71 #[.pointer (some ⟨q, 0, none⟩), .int .i64 n] w (KCut q L m F w) := by
 obtain ⟨p, cap, hc⟩ := h.cells
 have HI : Hid (∀ x : Later w, Gives Tryz.prog 93 #[.slice p L.length cap, .int .i64 n] x.w (.int .i64 k)) := Lib.hid (fun x => (indexOfK_any q L n p cap x.w (hc.later x.below) (by omega)).cast (by rw [ha]))
 have HX : Hid (∀ x : Later w, Calls Tryz.prog 94 #[.iface 128 (.pointer (some ⟨q, 0, none⟩)), .int .i64 k] x.w fun e w' => (∃ v, e = .returned v) ∧ Hid (∃ K', (m :: K').Perm L ∧ IsHeap lessM K'.length K' ∧ KEnd q K' F w w')) := Lib.hid fun x =>
  (heapRemove_any lessM_ordered (kheap q F w) (kends q F w) L k m x.w ⟨(kEnd_refl h).later x, by omega⟩ hh hk).mono fun e w' ⟨he, xs', h1, h2, h3⟩ => ⟨⟨_, he⟩, Lib.hid ⟨xs', h2, h3, h1.1⟩⟩
 have hlt := hc.lt
 have e1 := hc.h1
 clear hk ha hc h hh
 go_enter Tryz.func71, Tryz.ntmps71
 go_wp2_with fail
 refine Gives.on (HI.out ⟨_, by repeat (first | exact ext_refl _ | refine ext_later ?_ _ | refine ext_alloc ?_ _ | refine ext_drew ?_ | refine ext_drewN ?_ _)⟩) ?_
 intro x
 go_wp2_with fail
 refine (HX.out _).mono ?_
 rintro e w4 ⟨⟨v, rfl⟩, HE⟩
 go_wp2_with fail
 go_ret
 exact ⟨rfl, HE.out⟩
end
section
open Go Go.RowKit
theorem least_is {K r : List Mo} {x y : Mo} (hs : SortedM (x :: r)) (hp : K.Perm (x :: r)) (hy : y ∈ K) (hm : ∀ z ∈ K, Le lessM y z) : y = x := by
 have hx : x ∈ K := hp.symm.subset List.mem_cons_self
 rcases List.mem_cons.1 (hp.subset hy) with e | h
 ·exact e
 ·have h1 := (List.pairwise_cons.1 hs).1 y h
  have h2 : lessM x y = false := hm x hx
  rw [h1] at h2
  cases h2
theorem head_is {K r : List Mo} {x : Mo} (hs : SortedM (x :: r)) (hp : K.Perm (x :: r)) (hh : IsHeap lessM K.length K) : K[0]? = some x := by
 have hl : 0 < K.length := by rw [hp.length_eq]; simp
 have h0 : K[0]? = some K[0] := List.getElem?_eq_getElem hl
 rw [h0]
 congr 1
 refine least_is hs hp (List.getElem_mem hl) fun z hz => ?_
 obtain ⟨k, hk, rfl⟩ := List.getElem_of_mem hz
 exact hh.first lessM_ordered (Nat.le_refl _) h0 k _ hk (List.getElem?_eq_getElem hk)
theorem row_rebase {W : World} {e : TypeId} {size n base : Nat} {v : Value} {xs : List Value} (h : W.ownsRow 0 e size v n xs) (hb : ∀ b, v.ownBlock = some b → base ≤ b) : W.ownsRow base e size v n xs := by
 refine ⟨h.1, ?_⟩
 rcases h.2 with h2 | ⟨g, cap, cur, rfl, _, rest⟩
 ·exact .inl h2
 ·exact .inr ⟨g, cap, cur, rfl, hb g rfl, rest⟩
structure KDueing (w : World) (q : Nat) (L : List Mo) (now : Int) (H : Nat → Prop) (done cur : List Mo) (v : Value) (W : World) (K : List Mo) (H' : Nat → Prop) : Prop where
 all : L = done ++ cur
 due : ∀ x ∈ done, x.t ≤ now
 row : W.ownsRow 0 3 1 v done.length (elemI.cells (done.map Mo.n))
 clock : ClkQ q K W H'
 perm : K.Perm cur
 heap : IsHeap lessM K.length K
 sub : ∀ k, H' k → H k ∨ w.heap.size ≤ k
 own : ∀ b, v.ownBlock = some b → w.heap.size ≤ b ∧ ¬ H' b
 fr : Fr H w W
def KDueEnd (q : Nat) (L : List Mo) (now : Int) (H : Nat → Prop) (w : World) (e : Ending) (W' : World) : Prop :=
 ∃ v done K H', e = .returned v ∧ done = dueM L now ∧ KDueing w q L now H done (restM L now) v W' K H'
theorem KDueing.pop {w : World} {q : Nat} {L : List Mo} {now : Int} {H : Nat → Prop} {done r : List Mo} {x : Mo} {v : Value} {W : World} {K : List Mo} {H' : Nat → Prop} (h : KDueing w q L now H done (x :: r) v W K H') (hs : SortedM L) (hL : L.length ≤ 1000) :
  Calls Tryz.prog 74 #[.iface 128 (.pointer (some ⟨q, 0, none⟩))] W fun e W' => e = .returned (encW x) ∧ Hid (∃ K2 H2, ClkQ q K2 W' H2 ∧ K2.Perm r ∧ IsHeap lessM K2.length K2 ∧ (∀ k, H2 k → H k ∨ w.heap.size ≤ k) ∧ (∀ b, v.ownBlock = some b → w.heap.size ≤ b ∧ ¬ H2 b) ∧ Fr H w W' ∧
   W'.ownsRow 0 3 1 v done.length (elemI.cells (done.map Mo.n))) := by
 have hlen : K.length ≤ 2000 := by rw [h.perm.length_eq]; have := congrArg List.length h.all; rw [List.length_append] at this; omega
 have hpos : 0 < K.length := by rw [h.perm.length_eq]; simp
 have hsc : SortedM (x :: r) := hs.sublist (by rw [h.all]; exact List.sublist_append_right _ _)
 refine (heapPop_any lessM_ordered (kheap q H' W) (kends q H' W) K W ⟨kEnd_refl h.clock, hlen⟩ h.heap hpos).mono ?_
 rintro e W' ⟨y, K2, he, ⟨⟨H2, h1, h2, h3⟩, _⟩, hp, hm, hi⟩
 have hlt := fun b hb => (h.row.lt b hb).2
 obtain rfl : y = x := least_is hsc h.perm (hp.subset List.mem_cons_self) hm
 refine ⟨he, Lib.hid ⟨K2, H2, h1, List.Perm.cons_inv (hp.trans h.perm), hi, fun k hk => ?_, fun b hb => ⟨(h.own b hb).1, fun hk => ?_⟩, h.fr.trans h2 h.sub, row_keepsE h.row fun g hg => h2.block g (hlt g hg) (h.own g hg).2⟩⟩
 ·rcases h3 k hk with h4 | h4
  ·exact h.sub k h4
  ·exact .inr (Nat.le_trans h.fr.size h4)
 ·rcases h3 b hk with h4 | h4
  ·exact (h.own b hb).2 h4
  ·have := hlt b hb; omega
theorem kdue_append {w : World} {q : Nat} {L : List Mo} {now : Int} {H : Nat → Prop} {done r : List Mo} {x : Mo} {v v' : Value} {W W' : World} {K2 : List Mo} {H2 : Nat → Prop} {ob : Obj} (hall : L = done ++ x :: r) (hd : ∀ x ∈ done, x.t ≤ now) (hx : x.t ≤ now)
  (hq : ClkQ q K2 W H2) (hp : K2.Perm r) (hi : IsHeap lessM K2.length K2) (hs : ∀ k, H2 k → H k ∨ w.heap.size ≤ k) (hb : ∀ b, v.ownBlock = some b → w.heap.size ≤ b ∧ ¬ H2 b) (hfr : Fr H w W)
  (hown : W'.ownsRow 0 3 1 v' (done.length + 1) (elemI.cells (done.map Mo.n) ++ [.int .i64 x.n])) (hg : (W.alloc ob).grownBy W' v.ownBlock) (hw : ∀ g, v'.ownBlock = some g → v.ownBlock = some g ∨ (W.alloc ob).heap.size ≤ g) :
  KDueing w q L now H (done ++ [x]) r v' W' K2 H2 := by
 have hlt := (clkQ_owns q K2).lt W H2 hq
 have h1 : W.heap.size ≤ (W.alloc ob).heap.size := by simp
 refine ⟨by rw [List.append_assoc]; exact hall, fun y hy => ?_, ?_, (clkQ_owns q K2).kept W W' H2 hq (Nat.le_trans h1 hg.size) fun k hk => ?_, hp, hi, hs, fun b hb' => ?_, ?_⟩
 ·rcases List.mem_append.1 hy with hy | hy
  ·exact hd y hy
  ·obtain rfl : y = x := by simpa using hy
   exact hx
 ·rw [List.length_append, List.map_append, elemI.cells_append]
  exact hown
 ·refine (hg.block k (Nat.lt_of_lt_of_le (hlt k hk) h1) fun e => ?_).trans (Below.heap_alloc _ _ _ (hlt k hk))
  exact (hb k e.symm).2 hk
 ·rcases hw b hb' with h | h
  ·exact hb b h
  ·exact ⟨Nat.le_trans hfr.size (Nat.le_trans h1 h), fun hk => by have := hlt b hk; omega⟩
 ·exact (hfr.alloc ob).trans (G := fun j => w.heap.size ≤ j) (Fr.of_grownBy hg fun j hj => .inl (hb j hj).1) fun j hj => .inr hj
theorem field_idW (n t : Int) (w : World) : (Instr.field 126 (.agg #[.int .i64 n, .int .i64 t]) 0).run Tryz.prog w = .ok (.int .i64 n) w := by kernel_rfl
def lenAtK (W : World) (m : Nat) : Nat := match W.cell? ⟨m, 0, none⟩ with | some (.slice _ n _) => n | _ => 0
theorem cell_one_new (W : World) (x : Value) (t : TypeId) (j : Nat) (v : Value) (h : [x][j]? = some v) : (W.alloc (.cells #[x] t)).cell? ((⟨W.heap.size, 0, none⟩ : Addr).add j) = some v := by
 have hb := heap_alloc_new W (.cells #[x] t)
 rw [addr_off, Nat.zero_add]
 simp only [World.cell?, hb]
 simpa using h
set_option maxHeartbeats 4000000 in
set_option maxRecDepth 100000 in
theorem dueK_any (q : Nat) (L : List Mo) (now : Int) (w : World) (H : Nat → Prop) (K : List Mo) (h : ClkQ q K w H) (hp : K.Perm L) (hh : IsHeap lessM K.length K) (hs : SortedM L) (hL : L.length ≤ 1000) :
  Calls Tryz.prog 50 #[.pointer (some ⟨q, 0, none⟩), .int .i64 now] w (KDueEnd q L now H w) := by
 obtain ⟨i0, hi, hz0, hz1, hz2⟩ := info_parts elemI.info
 have HSo := Lib.hid hs
 have H0 := Lib.hid (show KDueing w q L now H [] L (.slice none 0 0) w K H from ⟨rfl, fun x hx => by simp at hx, World.ownsRow_nil _ _ _ _, h, hp, hh, fun k hk => .inl hk, fun b hb => by simp [Value.ownBlock] at hb, Fr.refl _ _⟩)
 clear h hs hp hh
 go_enter Tryz.func50, Tryz.ntmps50
 go_wp2_with fail
 go_loopw [5] (fun v5 wr => ∃ (done cur K : List Mo) (H' : Nat → Prop), Hid (KDueing w q L now H done cur v5 wr K H') ∧ done.length + cur.length = L.length) (fun _ wr => lenAtK wr q)
 case atStart => exact ⟨[], L, K, H, H0, by simp⟩
 case round =>
  clear H0
  obtain ⟨done, cur, K, H', HD, hlen⟩ := hrel
  obtain ⟨p, cap, hc⟩ := HD.out.clock.cells
  have hlt := hc.lt
  have e0 : wr.cell? ⟨q, 0, none⟩ = some (.slice p K.length cap) := hc.h1
  obtain ⟨pv, cv, hv5, _⟩ := ownsRow_formE HD.out.row
  have hkl : K.length = cur.length := HD.out.perm.length_eq
  have hml : lenAtK wr q = cur.length := by unfold lenAtK; rw [e0]; exact hkl
  have HMl := Lib.hid hml
  have HEnd : Hid ((∀ y s, cur = y :: s → ¬ y.t ≤ now) → KDueEnd q L now H w (.returned (.slice pv done.length cv)) wr) := Lib.hid fun hcc => by
   obtain ⟨e1, e2⟩ := due_split HSo.out HD.out.all HD.out.due hcc
   have := HD.out
   rw [hv5] at this
   exact ⟨_, done, K, H', rfl, e1.symm, by rw [e2]; exact this⟩
  subst hv5
  rw [hkl] at e0
  cases cur with
  | nil =>
   have HR := Lib.hid (HEnd.out fun y s e => by cases e)
   rw [List.length_nil] at e0
   clear hc HEnd hkl hml
   go_wp2_with fail
   go_ret
   exact HR.out
  | cons x r =>
   have hsc : SortedM (x :: r) := HSo.out.sublist (by rw [HD.out.all]; exact List.sublist_append_right _ _)
   have hhd := head_is hsc HD.out.perm HD.out.heap
   rcases hc.row with h0 | ⟨g, rfl, hg, hgq, hfz, hcell⟩
   ·rw [h0] at hkl; simp at hkl
   obtain ⟨a0, a1⟩ := hcell 0 x hhd
   rw [Nat.zero_mul] at a0 a1
   rw [Nat.zero_add] at a1
   have HP := Lib.hid (HD.out.pop HSo.out hL)
   obtain ⟨xn, xt⟩ := x
   dsimp only at a0 a1
   rw [List.length_cons] at e0
   have hrl : r.length + 1 ≤ 1000 := by rw [List.length_cons] at hlen; omega
   have hdl : done.length ≤ 1000 := by omega
   have gr : decide ((0 : Int) < (r.length : Int) + 1) = true := by rw [decide_eq_true_eq]; omega
   by_cases hdue : xt ≤ now
   ·have gd : decide (xt ≤ now) = true := by simpa using hdue
    unfold encW at HP
    have hfi := field_idW xn xt
    dsimp only at HP
    obtain ⟨N, hN⟩ : ∃ N : Nat, done.length = N := ⟨_, rfl⟩
    have HN := Lib.hid hN
    have HA := Lib.hid (And.intro HD.out.all HD.out.due)
    obtain ⟨v5, hv5⟩ : ∃ v, Value.slice pv done.length cv = v := ⟨_, rfl⟩
    rw [hv5] at HP ⊢
    have HV5 := Lib.hid hv5
    clear hv5 hc hsc hhd hcell hfz HEnd hkl hml HD hN
    go_wp2_with fail
    refine HP.out.mono ?_
    rintro e w1 ⟨rfl, HZ⟩
    obtain ⟨K2, H2, hq2, hp2, hi2, hs2, hb2, hf2, hr2⟩ := HZ.out
    have HR := Lib.hid hr2
    have HAll := Lib.hid (And.intro hq2 (And.intro hp2 (And.intro hi2 (And.intro hs2 (And.intro hb2 hf2)))))
    have HCN := Lib.hid (cell_one_new w1 (.int .i64 xn) 3)
    clear HZ hq2 hp2 hi2 hs2 hb2 hf2 hr2 HP
    go_wp2_with (at_builtin; refine wpList_append_where rfl _ _ 36 rfl 3 i0 (.int .i64 0) 1 8 Tryz.underlying36 hi hz0 hz1 hz2 rfl (by decide) v5 done.length (elemI.cells (done.map Mo.n)) rfl (HR.out.alloc _) ⟨w1.heap.size, 0, none⟩ 1 1 [.int .i64 xn] rfl rfl HCN.out (by simp [Value.oneCell']) (by have := hdl; unfold maxLen; omega) (by have := hdl; omega) ?_; intro v' w5 hown' hgrow hwh; have HO1 := Lib.hid hown'; have HG := Lib.hid hgrow; have HW := Lib.hid hwh; clear hown' hgrow hwh)
    have hnew : KDueing w q L now H (done ++ [⟨xn, xt⟩]) r v' w5 K2 H2 := by
     obtain ⟨hq2, hp2, hi2, hs2, hb2, hf2⟩ := HAll.out
     exact kdue_append (x := ⟨xn, xt⟩) HA.out.1 HA.out.2 hdue hq2 hp2 hi2 hs2 hb2 hf2 HO1.out HG.out HW.out
    refine ⟨⟨done ++ [⟨xn, xt⟩], r, K2, H2, Lib.hid hnew, by rw [List.length_append]; simp only [List.length_cons, List.length_nil] at hlen ⊢; omega⟩, ?_⟩
    rw [HMl.out]
    obtain ⟨p2, cap2, hc2⟩ := hnew.clock.cells
    unfold lenAtK
    rw [hc2.h1]
    simp only [List.length_cons]
    rw [hnew.perm.length_eq]
    omega
   ·have gd : decide (xt ≤ now) = false := by simpa using hdue
    have HR := Lib.hid (HEnd.out fun y s e => by obtain ⟨rfl, _⟩ := List.cons.inj e; exact hdue)
    clear hc hsc hhd hcell hfz HEnd hkl hml HD HP
    go_wp2_with fail
    go_ret
    exact HR.out
end
section
open Go Go.RowKit
def ClkOwn (m : Nat) (L : List Mo) (W : World) (H : Nat → Prop) : Prop := ∃ K, ClkQ m K W H ∧ K.Perm L ∧ IsHeap lessM K.length K
theorem clkOwn_end {m : Nat} {L Y : List Mo} {H : Nat → Prop} {W W' : World} (h : KPut m Y H W W') (hp : Y.Perm L) : WEnd ClkOwn m L H W W' := by
 obtain ⟨K', h1, h2, F', h3, h4, h5⟩ := h
 exact ⟨F', ⟨K', h3, h1.trans hp, h2⟩, h4, h5⟩
theorem clkOwn_later {m : Nat} {L : List Mo} {H : Nat → Prop} {W : World} (h : ClkOwn m L W H) (x : Later W) : WEnd ClkOwn m L H W x.w := by
 obtain ⟨K, h1, h2, h3⟩ := h
 exact clkOwn_end (kPut_later h1 h3 x) h2
theorem set_at {K : List Mo} (ho : OnceM K) {k : Nat} {m : Mo} (hk : K[k]? = some m) (t : Int) : (K.set k ⟨m.n, t⟩).Perm (⟨m.n, t⟩ :: cutM K m.n) := by
 rw [cutM_at ho hk]
 have hl := (List.getElem?_eq_some_iff.1 hk).1
 rw [List.set_eq_take_append_cons_drop, if_pos hl]
 exact List.perm_middle
theorem ix_of {K L : List Mo} (hp : K.Perm L) (ho : OnceM K) (n : Int) : (hasM L n = none ∧ ixM K n = -1) ∨ ∃ (k : Nat) (t : Mo), hasM L n = some t ∧ K[k]? = some t ∧ ixM K n = k ∧ t.n = n := by
 rw [← hasM_perm hp ho n]
 exact ixM_find K n
end
end Go.Proofs.YtjbihgfdgaiecaaGreat
