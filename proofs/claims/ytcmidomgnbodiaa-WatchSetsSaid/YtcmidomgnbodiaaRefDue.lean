/- The reference's clock: Due. -/
import Derived.Test.YtcmidomgnbodiaaRefClock
namespace Go.Proofs.Ytcmidomgnbodiaa
open Go Go.RowKit Go.BigFrame

def elemI : Elem Try.prog Int where
  enc x := [.int .i64 x]
  k := 1
  pos := by decide
  len _ := rfl
  one _ u hu := by
    simp only [List.mem_singleton] at hu
    subst hu
    rfl
  t := 3
  sl := 33
  under := Try.underlying33
  z := .int .i64 0
  bytes := 8
  bpos := by decide
  info := by kernel_rfl
  zs := by kernel_rfl

/-- While moments are due: done, those that are still there, what has been collected. -/
structure Dueing (w : World) (m : Nat) (L : List Mo) (now : Int) (H : Nat → Prop) (done cur : List Mo) (v : Value) (W : World) : Prop where
  all : L = done ++ cur
  due : ∀ x ∈ done, x.t ≤ now
  row : W.ownsRow w.heap.size 3 1 v done.length (elemI.cells (done.map Mo.n))
  clock : ∃ H', RefC m cur W H' ∧ ∀ k, H' k → H k
  fr : Fr (fun k => k = m) w W
def RDueEnd (m : Nat) (L : List Mo) (now : Int) (H : Nat → Prop) (w : World) (e : Ending) (W' : World) : Prop :=
  ∃ v, e = .returned v ∧ SrcE elemI W' v ((dueM L now).map Mo.n) ∧ W'.ownsRow w.heap.size 3 1 v ((dueM L now).map Mo.n).length (elemI.cells ((dueM L now).map Mo.n)) ∧ (∃ H', RefC m (restM L now) W' H' ∧ ∀ k, H' k → H k) ∧ Fr (fun k => k = m) w W'

theorem due_split {L done cur : List Mo} {now : Int} (hs : SortedM L) (ha : L = done ++ cur) (hd : ∀ x ∈ done, x.t ≤ now) (hc : ∀ x r, cur = x :: r → ¬ x.t ≤ now) : dueM L now = done ∧ restM L now = cur := by
  subst ha
  have hcur : SortedM cur := hs.sublist (List.sublist_append_right _ _)
  have h1 : dueM cur now = [] ∧ restM cur now = cur := by
    cases cur with
    | nil => exact ⟨rfl, rfl⟩
    | cons x r => exact (due_cons hcur now).2 (hc x r rfl)
  have h2 : dueM done now = done ∧ restM done now = [] := by
    unfold dueM restM
    refine ⟨?_, ?_⟩
    · rw [List.filter_eq_self]
      intro x hx
      simpa using hd x hx
    · rw [List.filter_eq_nil_iff]
      intro x hx
      have := hd x hx
      simp
      omega
  unfold dueM restM at *
  rw [List.filter_append, List.filter_append, h1.1, h1.2, h2.1, h2.2]
  simp

def lenAt (W : World) (m : Nat) : Nat := match W.cell? ⟨m, 0, none⟩ with | some (.slice _ n _) => n | _ => 0
/-- The row lies elsewhere than the clock. -/
theorem row_ne {m b o n c : Nat} {x : Mo} {r : List Mo} {W : World} (hm : W.heap[m]? = some (.cells #[.slice (some ⟨b, o, none⟩) n c] 28 (0, 0))) (hs : SrcE elemMo W (.slice (some ⟨b, o, none⟩) n c) (x :: r)) : b ≠ m := by
  rintro rfl
  rcases hs.1 with ⟨h0, _⟩ | ⟨b', o', cap, he, hlt, hc⟩
  · cases h0
  · obtain ⟨e1, _⟩ := Value.slice.inj he
    simp only [Option.some.injEq, Addr.mk.injEq, and_true] at e1
    obtain ⟨rfl, rfl⟩ := e1
    have h1 : W.cell? ⟨b, o, none⟩ = some (.int .i64 x.n) := hc 0 x rfl 0 _ rfl
    simp only [World.cell?, hm] at h1
    cases o with
    | zero => simp at h1
    | succ o => simp at h1
theorem rc_tail {m : Nat} {x : Mo} {r : List Mo} {H' : Nat → Prop} {W : World} {b o cap : Nat} (h : RefC m (x :: r) W H') (hm : W.heap[m]? = some (.cells #[.slice (some ⟨b, o, none⟩) (r.length + 1) cap] 28 (0, 0))) (hs : SrcE elemMo W (.slice (some ⟨b, o, none⟩) (r.length + 1) cap) (x :: r)) :
    ∃ H'', RefC m r (W.setCell ⟨m, 0, none⟩ (.slice (if cap = 1 then some ⟨b, o, none⟩ else some ⟨b, o + 2, none⟩) r.length (cap - 1))) H'' ∧ ∀ k, H'' k → H' k := by
  have hne := row_ne hm hs
  have hd := hs.drop (m := 1) (by simp)
  rw [Option.map_some, addr_off, Nat.add_sub_cancel, show 1 * elemMo.k = 2 from rfl, List.drop_one, List.tail_cons] at hd
  obtain ⟨v0, hm0, _, hH⟩ := h
  rw [hm] at hm0
  obtain rfl : Value.slice (some ⟨b, o, none⟩) (r.length + 1) cap = v0 := by simpa using hm0
  refine ⟨fun k => k = m ∨ (r ≠ [] ∧ k = b), ⟨_, by rw [heap_setCell_same _ _ _ _ _ _ hm]; rfl, ⟨hd.1.kept (by simp [World.setCell]) fun b' o' n c hl hv => Below.heap_setCell _ _ _ b' ?_, hd.2⟩, fun k => ?_⟩, fun k hk => ?_⟩
  · obtain ⟨e1, _⟩ := Value.slice.inj hv
    show b' ≠ m
    split at e1
    · simp only [Option.some.injEq, Addr.mk.injEq] at e1
      rw [← e1.1]; exact hne
    · simp only [Option.some.injEq, Addr.mk.injEq] at e1
      rw [← e1.1]; exact hne
  · refine or_congr Iff.rfl (and_congr_right fun hr => ⟨?_, ?_⟩)
    · rintro rfl
      by_cases hc : cap = 1
      · rw [if_pos hc]; exact ⟨_, _, _, rfl⟩
      · rw [if_neg hc]; exact ⟨_, _, _, rfl⟩
    · rintro ⟨o', n, c, hv⟩
      obtain ⟨e1, _⟩ := Value.slice.inj hv
      split at e1
      · simp only [Option.some.injEq, Addr.mk.injEq] at e1; exact e1.1.symm
      · simp only [Option.some.injEq, Addr.mk.injEq] at e1; exact e1.1.symm
  · rcases hk with rfl | ⟨_, rfl⟩
    · exact (hH k).2 (.inl rfl)
    · exact (hH k).2 (.inr ⟨by simp, o, _, _, rfl⟩)

set_option maxHeartbeats 4000000 in
set_option maxRecDepth 100000 in
theorem refDue_any (m : Nat) (L : List Mo) (now : Int) (w : World) (H : Nat → Prop) (h : RefC m L w H) (hs : SortedM L) (hL : L.length ≤ 10000) : Calls Try.prog 14 #[.pointer (some ⟨m, 0, none⟩), .int .i64 now] w (RDueEnd m L now H w) := by
  have HSo := Lib.hid hs
  have HLt := Lib.hid (fun k hk => (refC_owns m L).lt w H h k hk)
  have H0 := Lib.hid (show Dueing w m L now H [] L (.slice none 0 0) w from ⟨rfl, fun x hx => by simp at hx, World.ownsRow_nil _ _ _ _, ⟨H, h, fun k hk => hk⟩, Fr.refl _ _⟩)
  have hmw : m < w.heap.size := by obtain ⟨_, _, hlt, _⟩ := h.cells; exact hlt
  clear h hs
  go_enter Try.func14, Try.ntmps14
  go_wp2_with fail
  go_loopw [5] (fun v5 wr => ∃ (done cur : List Mo), Hid (Dueing w m L now H done cur v5 wr) ∧ done.length + cur.length = L.length) (fun _ wr => lenAt wr m)
  case atStart => exact ⟨[], L, H0, by simp⟩
  case round =>
    clear H0
    obtain ⟨done, cur, HD, hlen⟩ := hrel
    obtain ⟨H', hrc, hH'⟩ := HD.out.clock
    have HRc := Lib.hid hrc
    obtain ⟨p, cap, hlt, hm, hsr⟩ := hrc.cells
    have HQ := Lib.hid hm
    have e0 : wr.cell? ⟨m, 0, none⟩ = some (.slice p cur.length cap) := by simp [World.cell?, hm]
    have e1 : wr.frozen? ⟨m, 0, none⟩ = false := by simp [World.frozen?, hm]
    obtain ⟨pv, cv, hv5, _⟩ := ownsRow_formE HD.out.row
    have hml : lenAt wr m = cur.length := by unfold lenAt; rw [e0]
    have HMl := Lib.hid hml
    have HEnd : Hid ((∀ y s, cur = y :: s → ¬ y.t ≤ now) → RDueEnd m L now H w (.returned (.slice pv done.length cv)) wr) := Lib.hid fun hc => by
      obtain ⟨e1, e2⟩ := due_split HSo.out HD.out.all HD.out.due hc
      have hrow := HD.out.row
      rw [hv5] at hrow
      have hrow' : wr.ownsRow w.heap.size elemI.t elemI.k (.slice pv done.length cv) (done.map Mo.n).length (elemI.cells (done.map Mo.n)) := by rw [List.length_map]; exact hrow
      refine ⟨_, rfl, by rw [e1]; exact ⟨rowAt_own hrow', ownsRow_formE hrow'⟩, by rw [e1]; exact hrow', by rw [e2]; exact ⟨H', HRc.out, hH'⟩, HD.out.fr⟩
    subst hv5
    cases cur with
    | nil =>
      have HR := Lib.hid (HEnd.out fun y s e => by cases e)
      rw [List.length_nil] at e0
      clear hrc hm hsr HEnd
      go_wp2_with fail
      go_ret
      exact HR.out
    | cons x r =>
      obtain ⟨xn, xt⟩ := x
      rcases hsr.1 with ⟨h0, _⟩ | ⟨b, o, cap', hv, hbl, hc⟩
      · cases h0
      obtain ⟨rfl, -, rfl⟩ := Value.slice.inj hv
      have a0 : wr.cell? ⟨b, o, none⟩ = some (.int .i64 xn) := hc 0 _ rfl 0 _ rfl
      have a1 : wr.cell? ⟨b, o + 1, none⟩ = some (.int .i64 xt) := hc 0 _ rfl 1 _ rfl
      rw [List.length_cons] at e0 hm hsr
      have HS := Lib.hid hsr
      have hrl : r.length + 1 ≤ 10000 := by rw [List.length_cons] at hlen; omega
      have gr : decide ((0 : Int) < (r.length : Int) + 1) = true := by rw [decide_eq_true_eq]; omega
      by_cases hdue : xt ≤ now
      · have gd : decide (xt ≤ now) = true := by simpa using hdue
        have hdl : done.length ≤ 10000 := by omega
        have HRow : Hid ((wr.alloc (.cells #[.int .i64 xn] 3)).ownsRow w.heap.size elemI.t elemI.k (.slice pv done.length cv) (done.map Mo.n).length (elemI.cells (done.map Mo.n))) := Lib.hid (by
          have := row_keepsE HD.out.row (W' := wr.alloc (.cells #[.int .i64 xn] 3)) fun g hg => (ext_alloc (ext_refl wr) _).block g (HD.out.row.lt g hg).2
          rw [List.length_map]
          exact this)
        have HSrc := Lib.hid (srcE_one (E := elemI) (x := xn) (heap_alloc_new wr (.cells #[.int .i64 xn] 3)) rfl)
        have HZ : Hid (w.heap.size ≤ (wr.alloc (.cells #[.int .i64 xn] 3)).heap.size) := Lib.hid (Nat.le_trans HD.out.fr.size (by simp))
        have HBd : Hid (((done.map Mo.n).length + [xn].length) * elemI.bytes ≤ 140737488355328) := Lib.hid (by rw [List.length_map]; show (done.length + 1) * 8 ≤ _; omega)
        clear hrc hm hsr hv hc HEnd
        go_upto_region 3 with fail
        go_wp2_with (at_builtin; refine wpListO_append (E := elemI) (xs := done.map Mo.n) (l2 := [xn]) rfl _ _ rfl rfl rfl HRow.out HZ.out HSrc.out HBd.out ?_; intro v' w2 hrow2 hgr; have HRow2 := Lib.hid hrow2; have HGr := Lib.hid hgr; clear hrow2 hgr; have hk2 : ∀ k, k < w.heap.size → w2.heap[k]? = wr.heap[k]? := (fun k hk => (HGr.out.block k (Nat.lt_of_lt_of_le (Nat.lt_of_lt_of_le hk HD.out.fr.size) (by simp)) (fun e => by have := (HRow.out.lt k e.symm).1; omega)).trans ((ext_alloc (ext_refl wr) _).block k (Nat.lt_of_lt_of_le hk HD.out.fr.size))); have hz2 : wr.heap.size ≤ w2.heap.size := Nat.le_trans (by simp) HGr.out.size; have HK2 := Lib.hid hk2; have hm2 := (hk2 m hmw).trans HQ.out; have f0 : w2.cell? ⟨m, 0, none⟩ = some (.slice (some ⟨b, o, none⟩) (r.length + 1) cap) := (by simp [World.cell?, hm2]); have f1 : w2.frozen? ⟨m, 0, none⟩ = false := (by simp [World.frozen?, hm2]); have hl2 : m < w2.heap.size := Nat.lt_of_lt_of_le hlt hz2; clear hk2 hm2)
        have hrc2 : RefC m (⟨xn, xt⟩ :: r) w2 H' := (refC_owns m _).kept wr w2 H' HRc.out hz2 fun k hk => HK2.out k (HLt.out k (hH' k hk))
        have hq2 := (HK2.out m hmw).trans HQ.out
        have hs2 : SrcE elemMo w2 (.slice (some ⟨b, o, none⟩) (r.length + 1) cap) (⟨xn, xt⟩ :: r) := by
          obtain ⟨p3, cap3, _, h3, h4⟩ := hrc2.cells
          rw [hq2] at h3
          have h5 : Value.slice (some ⟨b, o, none⟩) (r.length + 1) cap = .slice p3 (r.length + 1) cap3 := by simpa using h3
          rw [h5]
          exact h4
        obtain ⟨H2, hr3, hh3⟩ := rc_tail hrc2 hq2 hs2
        have hone : ∀ g, v'.ownBlock = some g → g ≠ m := fun g hg => by have := (HRow2.out.lt g hg).1; omega
        have hrow3 := row_keepsE HRow2.out (W' := w2.setCell ⟨m, 0, none⟩ (.slice (if cap = 1 then some ⟨b, o, none⟩ else some ⟨b, o + 2, none⟩) r.length (cap - 1))) fun g hg => Below.heap_setCell _ _ _ g (hone g hg)
        have hfr2 : Fr (fun k => k = m) w w2 := ((HD.out.fr.alloc _).trans (Fr.of_grownBy (F := fun k => w.heap.size ≤ k) HGr.out fun j hj => .inl (HRow.out.lt j hj).1) fun j hj => .inr hj)
        refine ⟨⟨done ++ [⟨xn, xt⟩], r, Lib.hid ⟨by rw [List.append_assoc]; exact HD.out.all, fun y hy => ?_, ?_, ⟨H2, hr3, fun k hk => hH' k (hh3 k hk)⟩, hfr2.set m 0 _ (.inl rfl)⟩, by rw [List.length_append]; simp only [List.length_cons, List.length_nil] at hlen ⊢; omega⟩, ?_⟩
        · rcases List.mem_append.1 hy with hy | hy
          · exact HD.out.due y hy
          · obtain rfl : y = ⟨xn, xt⟩ := by simpa using hy
            exact hdue
        · rw [List.map_append, List.length_append]
          rw [List.length_append, List.length_map] at hrow3
          exact hrow3
        · rw [HMl.out]
          unfold lenAt
          rw [World.cell?_setCell_same _ _ _ f0]
          simp
      · have gd : decide (xt ≤ now) = false := by simpa using hdue
        have HR := Lib.hid (HEnd.out fun y s e => by obtain ⟨rfl, _⟩ := List.cons.inj e; exact hdue)
        clear hrc hm hsr hv hc HEnd
        go_wp2_with fail
        go_ret
        exact HR.out
end Go.Proofs.Ytcmidomgnbodiaa
