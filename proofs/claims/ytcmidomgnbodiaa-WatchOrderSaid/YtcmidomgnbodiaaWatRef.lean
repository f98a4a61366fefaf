/- The reference's clock beside another object. -/
import Derived.Test.YtcmidomgnbodiaaWatTwo
import Derived.Test.YtcmidomgnbodiaaRefSet
namespace Go.Proofs.Ytcmidomgnbodiaa
open Go Go.RowKit

theorem Fr.wide {F G : Nat → Prop} {W W' : World} (h : Fr F W W') (hg : ∀ k, F k → G k) : Fr G W W' := ⟨h.os, h.tape, h.output, h.size, fun k hk hn => h.block k hk fun hf => hn (hg k hf)⟩
theorem RefC.self {m : Nat} {L : List Mo} {W : World} {H : Nat → Prop} (h : RefC m L W H) : ∀ k, k = m → H k := by
  rintro k rfl
  obtain ⟨v, _, _, hH⟩ := h
  exact (hH k).2 (.inl rfl)
section
variable {O2 : OwnT} {w W : World} {m m' : Nat} {L L' : List Mo} {G : Nat → Prop}
def RSetT (O2 : OwnT) (w : World) (m m' : Nat) (L L' : List Mo) (G : Nat → Prop) (x : Mo) (W : World) (e : Ending) (W' : World) : Prop := e = .returned (.bool (okM x)) ∧ TwoS RefC O2 w m m' (afterSet L x) L' G W' ∧ Stood G W W'
theorem rset_two (q2 : ∀ m L, Owns (O2 m L)) (h : TwoS RefC O2 w m m' L L' G W) (n t : Int) : Calls Try.prog 16 #[.pointer (some ⟨m, 0, none⟩), .int .i64 n, .int .i64 t] W (RSetT O2 w m m' L L' G ⟨n, t⟩ W) := by
  obtain ⟨H, ho, hk⟩ := h.step refC_owns q2 (h.fine.after ⟨n, t⟩)
  refine (refSet_any m L n t W H ho h.fine.once h.fine.len).mono fun e W' ⟨he, H', ho', hfr, hg⟩ => ⟨he, hk W' H' ho' (hfr.wide ho.self) hg G fun k h => .inl h⟩
def RCutT (O2 : OwnT) (w : World) (m m' : Nat) (L L' : List Mo) (G : Nat → Prop) (n : Int) (W : World) (e : Ending) (W' : World) : Prop := e = .returned (.bool (hasM L n).isSome) ∧ TwoS RefC O2 w m m' (cutM L n) L' G W' ∧ Stood G W W'
theorem rcut_two (q2 : ∀ m L, Owns (O2 m L)) (h : TwoS RefC O2 w m m' L L' G W) (n : Int) : Calls Try.prog 11 #[.pointer (some ⟨m, 0, none⟩), .int .i64 n] W (RCutT O2 w m m' L L' G n W) := by
  obtain ⟨H, ho, hk⟩ := h.step refC_owns q2 (h.fine.cut n)
  refine (refCut_any m L n W H ho h.fine.once (by have := h.fine.len; omega)).mono fun e W' ⟨he, H', ho', hfr, hg⟩ => ⟨he, hk W' H' ho' (hfr.wide ho.self) hg G fun k h => .inl h⟩
def RDueT (O2 : OwnT) (w : World) (m m' : Nat) (L L' : List Mo) (G : Nat → Prop) (now : Int) (W : World) (e : Ending) (W' : World) : Prop :=
  ∃ p c, e = .returned (.slice p ((dueM L now).map Mo.n).length c) ∧ W'.ownsRow W.heap.size 3 1 (.slice p ((dueM L now).map Mo.n).length c) ((dueM L now).map Mo.n).length (elemI.cells ((dueM L now).map Mo.n)) ∧ TwoS RefC O2 w m m' (restM L now) L' (fun k => G k ∨ (Value.slice p ((dueM L now).map Mo.n).length c).ownBlock = some k) W' ∧ Stood G W W'
theorem rdue_two (q2 : ∀ m L, Owns (O2 m L)) (h : TwoS RefC O2 w m m' L L' G W) (now : Int) : Calls Try.prog 14 #[.pointer (some ⟨m, 0, none⟩), .int .i64 now] W (RDueT O2 w m m' L L' G now W) := by
  obtain ⟨H, ho, hk⟩ := h.step refC_owns q2 (h.fine.rest now)
  refine (refDue_any m L now W H ho h.fine.sorted (by have := h.fine.len; omega)).mono fun e W' ⟨v, he, hs, hrow, ⟨H', ho', hg⟩, hfr⟩ => ?_
  obtain ⟨p, c, rfl, _⟩ := hs.2
  refine ⟨p, c, he, hrow, hk W' H' ho' (hfr.wide ho.self) (fun k h => .inl (hg k h)) _ fun k h => ?_⟩
  rcases h with h | h
  · exact .inl h
  · refine .inr ⟨(hrow.lt k h).1, (hrow.lt k h).2, fun h2 => ?_⟩
    have h3 := (refC_owns m L).lt W H ho k (hg k h2)
    have h4 := (hrow.lt k h).1
    omega
theorem rat_two (h : TwoS RefC O2 w m m' L L' G W) (n : Int) : Gives Try.prog 18 #[.pointer (some ⟨m, 0, none⟩), .int .i64 n] W (atV (hasM L n)) := by
  have hl := h.fine.len
  obtain ⟨hf, _, ⟨H, H', ho, _⟩, _⟩ := h
  exact refAt_any m L n W H ho (by omega)
/-- The reference's moments as a law reads them: their number. -/
theorem rlen_two (h : TwoS RefC O2 w m m' L L' G W) : ∃ p c, W.cell? ⟨m, 0, none⟩ = some (.slice p L.length c) := by
  obtain ⟨hf, _, ⟨H, H', ho, _⟩, _⟩ := h
  obtain ⟨p, cap, _, hm, _⟩ := ho.cells
  exact ⟨p, cap, by simp only [World.cell?, hm]; rfl⟩
/-- A law's new reference clock, beside a clock that it made. -/
theorem rnew_two {C : WatC} (h : WatS C w m L W) : TwoS RefC C.Own w W.heap.size m [] L (fun _ => False) (W.alloc (.cells #[.slice none 0 0] 28)) := by
  obtain ⟨hf, ⟨H, ho, hH⟩, hb⟩ := h
  refine ⟨FineM.nil, hf, ⟨fun k => k = W.heap.size, H, ⟨.slice none 0 0, heap_alloc_new W _, ⟨rowAt_own (E := elemMo) (xs := []) (World.ownsRow_nil _ 0 _ _), none, 0, rfl, Nat.le_refl _, fun _ => rfl⟩, fun k => ⟨.inl, fun h => ?_⟩⟩, ?_, ?_, ?_, hH, fun _ h => h.elim⟩, hb.trans ((ext_alloc (ext_refl W) _).mono hb.size)⟩
  · rcases h with h | ⟨h, _⟩
    · exact h
    · exact absurd rfl h
  · exact (C.owns m L).kept W _ H ho (by simp) fun k hk => Below.heap_alloc _ _ _ ((C.owns m L).lt W H ho k hk)
  · rintro k rfl hk
    exact absurd ((C.owns m L).lt W H ho _ hk) (Nat.lt_irrefl _)
  · rintro k rfl
    exact hb.size
end
end Go.Proofs.Ytcmidomgnbodiaa
