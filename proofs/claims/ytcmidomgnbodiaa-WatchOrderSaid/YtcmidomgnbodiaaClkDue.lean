/- The landed clock: Due. -/
import Derived.Test.YtcmidomgnbodiaaClkOps
namespace Go.Proofs.Ytcmidomgnbodiaa
open Go Go.RowKit

theorem least_is {K r : List Mo} {x y : Mo} (hs : SortedM (x :: r)) (hp : K.Perm (x :: r)) (hy : y ∈ K) (hm : ∀ z ∈ K, Le lessM y z) : y = x := by
  have hx : x ∈ K := hp.symm.subset List.mem_cons_self
  rcases List.mem_cons.1 (hp.subset hy) with e | h
  · exact e
  · have h1 := (List.pairwise_cons.1 hs).1 y h
    have h2 : lessM x y = false := hm x hx
    rw [h1] at h2
    cases h2
theorem head_is {K r : List Mo} {x : Mo} (hs : SortedM (x :: r)) (hp : K.Perm (x :: r)) (hh : IsHeap lessM K.length K) : K[0]? = some x := by
  have hl : 0 < K.length := by rw [hp.length_eq]; simp
  have h0 : K[0]? = some K[0] := List.getElem?_eq_getElem hl
  rw [h0]
  congr 1
  refine least_is hs hp (List.getElem_mem hl) fun z hz => ?_
  obtain ⟨k, hk, rfl⟩ := List.getElem_of_mem hz
  exact hh.first lessM_ordered (Nat.le_refl _) h0 k _ hk (List.getElem?_eq_getElem hk)
theorem row_rebase {W : World} {e : TypeId} {size n base : Nat} {v : Value} {xs : List Value} (h : W.ownsRow 0 e size v n xs) (hb : ∀ b, v.ownBlock = some b → base ≤ b) : W.ownsRow base e size v n xs := by
  refine ⟨h.1, ?_⟩
  rcases h.2 with h2 | ⟨g, cap, cur, rfl, _, rest⟩
  · exact .inl h2
  · exact .inr ⟨g, cap, cur, rfl, hb g rfl, rest⟩

/-- While moments are due. -/
structure KDueing (w : World) (q : Nat) (L : List Mo) (now : Int) (H : Nat → Prop) (done cur : List Mo) (v : Value) (W : World) (K : List Mo) (H' : Nat → Prop) : Prop where
  all : L = done ++ cur
  due : ∀ x ∈ done, x.t ≤ now
  row : W.ownsRow 0 3 1 v done.length (elemI.cells (done.map Mo.n))
  clock : ClkQ q K W H'
  perm : K.Perm cur
  heap : IsHeap lessM K.length K
  sub : ∀ k, H' k → H k ∨ w.heap.size ≤ k
  own : ∀ b, v.ownBlock = some b → w.heap.size ≤ b ∧ ¬ H' b
  fr : Fr H w W
def KDueEnd (q : Nat) (L : List Mo) (now : Int) (H : Nat → Prop) (w : World) (e : Ending) (W' : World) : Prop :=
  ∃ v done K H', e = .returned v ∧ done = dueM L now ∧ KDueing w q L now H done (restM L now) v W' K H'

theorem KDueing.pop {w : World} {q : Nat} {L : List Mo} {now : Int} {H : Nat → Prop} {done r : List Mo} {x : Mo} {v : Value} {W : World} {K : List Mo} {H' : Nat → Prop} (h : KDueing w q L now H done (x :: r) v W K H') (hs : SortedM L) (hL : L.length ≤ 1000) :
    Calls Try.prog 24 #[.iface 53 (.pointer (some ⟨q, 0, none⟩))] W fun e W' => e = .returned (encW x) ∧ Hid (∃ K2 H2, ClkQ q K2 W' H2 ∧ K2.Perm r ∧ IsHeap lessM K2.length K2 ∧ (∀ k, H2 k → H k ∨ w.heap.size ≤ k) ∧ (∀ b, v.ownBlock = some b → w.heap.size ≤ b ∧ ¬ H2 b) ∧ Fr H w W' ∧
      W'.ownsRow 0 3 1 v done.length (elemI.cells (done.map Mo.n))) := by
  have hlen : K.length ≤ 2000 := by rw [h.perm.length_eq]; have := congrArg List.length h.all; rw [List.length_append] at this; omega
  have hpos : 0 < K.length := by rw [h.perm.length_eq]; simp
  have hsc : SortedM (x :: r) := hs.sublist (by rw [h.all]; exact List.sublist_append_right _ _)
  refine (heapPop_any lessM_ordered (kheap q H' W) (kends q H' W) K W ⟨kEnd_refl h.clock, hlen⟩ h.heap hpos).mono ?_
  rintro e W' ⟨y, K2, he, ⟨⟨H2, h1, h2, h3⟩, _⟩, hp, hm, hi⟩
  have hlt := fun b hb => (h.row.lt b hb).2
  obtain rfl : y = x := least_is hsc h.perm (hp.subset List.mem_cons_self) hm
  refine ⟨he, Lib.hid ⟨K2, H2, h1, List.Perm.cons_inv (hp.trans h.perm), hi, fun k hk => ?_, fun b hb => ⟨(h.own b hb).1, fun hk => ?_⟩, h.fr.trans h2 h.sub, row_keepsE h.row fun g hg => h2.block g (hlt g hg) (h.own g hg).2⟩⟩
  · rcases h3 k hk with h4 | h4
    · exact h.sub k h4
    · exact .inr (Nat.le_trans h.fr.size h4)
  · rcases h3 b hk with h4 | h4
    · exact (h.own b hb).2 h4
    · have := hlt b hb; omega

theorem kdue_append {w : World} {q : Nat} {L : List Mo} {now : Int} {H : Nat → Prop} {done r : List Mo} {x : Mo} {v v' : Value} {W W' : World} {K2 : List Mo} {H2 : Nat → Prop} {ob : Obj} (hall : L = done ++ x :: r) (hd : ∀ x ∈ done, x.t ≤ now) (hx : x.t ≤ now)
    (hq : ClkQ q K2 W H2) (hp : K2.Perm r) (hi : IsHeap lessM K2.length K2) (hs : ∀ k, H2 k → H k ∨ w.heap.size ≤ k) (hb : ∀ b, v.ownBlock = some b → w.heap.size ≤ b ∧ ¬ H2 b) (hfr : Fr H w W)
    (hown : W'.ownsRow 0 3 1 v' (done.length + 1) (elemI.cells (done.map Mo.n) ++ [.int .i64 x.n])) (hg : (W.alloc ob).grownBy W' v.ownBlock) (hw : ∀ g, v'.ownBlock = some g → v.ownBlock = some g ∨ (W.alloc ob).heap.size ≤ g) :
    KDueing w q L now H (done ++ [x]) r v' W' K2 H2 := by
  have hlt := (clkQ_owns q K2).lt W H2 hq
  have h1 : W.heap.size ≤ (W.alloc ob).heap.size := by simp
  refine ⟨by rw [List.append_assoc]; exact hall, fun y hy => ?_, ?_, (clkQ_owns q K2).kept W W' H2 hq (Nat.le_trans h1 hg.size) fun k hk => ?_, hp, hi, hs, fun b hb' => ?_, ?_⟩
  · rcases List.mem_append.1 hy with hy | hy
    · exact hd y hy
    · obtain rfl : y = x := by simpa using hy
      exact hx
  · rw [List.length_append, List.map_append, elemI.cells_append]
    exact hown
  · refine (hg.block k (Nat.lt_of_lt_of_le (hlt k hk) h1) fun e => ?_).trans (Below.heap_alloc _ _ _ (hlt k hk))
    exact (hb k e.symm).2 hk
  · rcases hw b hb' with h | h
    · exact hb b h
    · exact ⟨Nat.le_trans hfr.size (Nat.le_trans h1 h), fun hk => by have := hlt b hk; omega⟩
  · exact (hfr.alloc ob).trans (G := fun j => w.heap.size ≤ j) (Fr.of_grownBy hg fun j hj => .inl (hb j hj).1) fun j hj => .inr hj

theorem field_idW (n t : Int) (w : World) : (Instr.field 55 (.agg #[.int .i64 n, .int .i64 t]) 0).run Try.prog w = .ok (.int .i64 n) w := by kernel_rfl

def lenAtK (W : World) (m : Nat) : Nat := match W.cell? ⟨m, 0, none⟩ with | some (.slice _ n _) => n | _ => 0
theorem cell_one_new (W : World) (x : Value) (t : TypeId) (j : Nat) (v : Value) (h : [x][j]? = some v) : (W.alloc (.cells #[x] t)).cell? ((⟨W.heap.size, 0, none⟩ : Addr).add j) = some v := by
  have hb := heap_alloc_new W (.cells #[x] t)
  rw [addr_off, Nat.zero_add]
  simp only [World.cell?, hb]
  simpa using h

set_option maxHeartbeats 4000000 in
set_option maxRecDepth 100000 in
theorem dueK_any (q : Nat) (L : List Mo) (now : Int) (w : World) (H : Nat → Prop) (K : List Mo) (h : ClkQ q K w H) (hp : K.Perm L) (hh : IsHeap lessM K.length K) (hs : SortedM L) (hL : L.length ≤ 1000) :
    Calls Try.prog 13 #[.pointer (some ⟨q, 0, none⟩), .int .i64 now] w (KDueEnd q L now H w) := by
  obtain ⟨i0, hi, hz0, hz1, hz2⟩ := info_parts elemI.info
  have HSo := Lib.hid hs
  have H0 := Lib.hid (show KDueing w q L now H [] L (.slice none 0 0) w K H from ⟨rfl, fun x hx => by simp at hx, World.ownsRow_nil _ _ _ _, h, hp, hh, fun k hk => .inl hk, fun b hb => by simp [Value.ownBlock] at hb, Fr.refl _ _⟩)
  clear h hs hp hh
  go_enter Try.func13, Try.ntmps13
  go_wp2_with fail
  go_loopw [5] (fun v5 wr => ∃ (done cur K : List Mo) (H' : Nat → Prop), Hid (KDueing w q L now H done cur v5 wr K H') ∧ done.length + cur.length = L.length) (fun _ wr => lenAtK wr q)
  case atStart => exact ⟨[], L, K, H, H0, by simp⟩
  case round =>
    clear H0
    obtain ⟨done, cur, K, H', HD, hlen⟩ := hrel
    obtain ⟨p, cap, hc⟩ := HD.out.clock.cells
    have hlt := hc.lt
    have e0 : wr.cell? ⟨q, 0, none⟩ = some (.slice p K.length cap) := hc.h1
    obtain ⟨pv, cv, hv5, _⟩ := ownsRow_formE HD.out.row
    have hkl : K.length = cur.length := HD.out.perm.length_eq
    have hml : lenAtK wr q = cur.length := by unfold lenAtK; rw [e0]; exact hkl
    have HMl := Lib.hid hml
    have HEnd : Hid ((∀ y s, cur = y :: s → ¬ y.t ≤ now) → KDueEnd q L now H w (.returned (.slice pv done.length cv)) wr) := Lib.hid fun hcc => by
      obtain ⟨e1, e2⟩ := due_split HSo.out HD.out.all HD.out.due hcc
      have := HD.out
      rw [hv5] at this
      exact ⟨_, done, K, H', rfl, e1.symm, by rw [e2]; exact this⟩
    subst hv5
    rw [hkl] at e0
    cases cur with
    | nil =>
      have HR := Lib.hid (HEnd.out fun y s e => by cases e)
      rw [List.length_nil] at e0
      clear hc HEnd hkl hml
      go_wp2_with fail
      go_ret
      exact HR.out
    | cons x r =>
      have hsc : SortedM (x :: r) := HSo.out.sublist (by rw [HD.out.all]; exact List.sublist_append_right _ _)
      have hhd := head_is hsc HD.out.perm HD.out.heap
      rcases hc.row with h0 | ⟨g, rfl, hg, hgq, hfz, hcell⟩
      · rw [h0] at hkl; simp at hkl
      obtain ⟨a0, a1⟩ := hcell 0 x hhd
      rw [Nat.zero_mul] at a0 a1
      rw [Nat.zero_add] at a1
      have HP := Lib.hid (HD.out.pop HSo.out hL)
      obtain ⟨xn, xt⟩ := x
      dsimp only at a0 a1
      rw [List.length_cons] at e0
      have hrl : r.length + 1 ≤ 1000 := by rw [List.length_cons] at hlen; omega
      have hdl : done.length ≤ 1000 := by omega
      have gr : decide ((0 : Int) < (r.length : Int) + 1) = true := by rw [decide_eq_true_eq]; omega
      by_cases hdue : xt ≤ now
      · have gd : decide (xt ≤ now) = true := by simpa using hdue
        unfold encW at HP
        have hfi := field_idW xn xt
        dsimp only at HP
        obtain ⟨N, hN⟩ : ∃ N : Nat, done.length = N := ⟨_, rfl⟩
        have HN := Lib.hid hN
        have HA := Lib.hid (And.intro HD.out.all HD.out.due)
        obtain ⟨v5, hv5⟩ : ∃ v, Value.slice pv done.length cv = v := ⟨_, rfl⟩
        rw [hv5] at HP ⊢
        have HV5 := Lib.hid hv5
        clear hv5 hc hsc hhd hcell hfz HEnd hkl hml HD hN
        go_wp2_with fail
        refine HP.out.mono ?_
        rintro e w1 ⟨rfl, HZ⟩
        obtain ⟨K2, H2, hq2, hp2, hi2, hs2, hb2, hf2, hr2⟩ := HZ.out
        have HR := Lib.hid hr2
        have HAll := Lib.hid (And.intro hq2 (And.intro hp2 (And.intro hi2 (And.intro hs2 (And.intro hb2 hf2)))))
        have HCN := Lib.hid (cell_one_new w1 (.int .i64 xn) 3)
        clear HZ hq2 hp2 hi2 hs2 hb2 hf2 hr2 HP
        go_wp2_with (at_builtin; refine wpList_append_where rfl _ _ 33 rfl 3 i0 (.int .i64 0) 1 8 Try.underlying33 hi hz0 hz1 hz2 rfl (by decide) v5 done.length (elemI.cells (done.map Mo.n)) rfl (HR.out.alloc _) ⟨w1.heap.size, 0, none⟩ 1 1 [.int .i64 xn] rfl rfl HCN.out (by simp [Value.oneCell']) (by have := hdl; unfold maxLen; omega) (by have := hdl; omega) ?_; intro v' w5 hown' hgrow hwh; have HO1 := Lib.hid hown'; have HG := Lib.hid hgrow; have HW := Lib.hid hwh; clear hown' hgrow hwh)
        have hnew : KDueing w q L now H (done ++ [⟨xn, xt⟩]) r v' w5 K2 H2 := by
          obtain ⟨hq2, hp2, hi2, hs2, hb2, hf2⟩ := HAll.out
          exact kdue_append (x := ⟨xn, xt⟩) HA.out.1 HA.out.2 hdue hq2 hp2 hi2 hs2 hb2 hf2 HO1.out HG.out HW.out
        refine ⟨⟨done ++ [⟨xn, xt⟩], r, K2, H2, Lib.hid hnew, by rw [List.length_append]; simp only [List.length_cons, List.length_nil] at hlen ⊢; omega⟩, ?_⟩
        rw [HMl.out]
        obtain ⟨p2, cap2, hc2⟩ := hnew.clock.cells
        unfold lenAtK
        rw [hc2.h1]
        simp only [List.length_cons]
        rw [hnew.perm.length_eq]
        omega
      · have gd : decide (xt ≤ now) = false := by simpa using hdue
        have HR := Lib.hid (HEnd.out fun y s e => by obtain ⟨rfl, _⟩ := List.cons.inj e; exact hdue)
        clear hc hsc hhd hcell hfz HEnd hkl hml HD HP
        go_wp2_with fail
        go_ret
        exact HR.out
end Go.Proofs.Ytcmidomgnbodiaa
