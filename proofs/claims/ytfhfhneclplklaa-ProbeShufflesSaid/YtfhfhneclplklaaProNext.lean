/- The landed probe: an order's memory; New, Rest, Next. -/
import Derived.Test.YtfhfhneclplklaaProStrike
import Derived.Test.YtfhfhneclplklaaProShuf
namespace Go.Proofs.Ytfhfhneclplklaa
open Go Go.RowKit

/-- The blocks that a row's slice names. -/
def OfRow (l : List Int) (v : Value) (k : Nat) : Prop := l ≠ [] ∧ ∃ o n c, v = .slice (some ⟨k, o, none⟩) n c
/-- A row that may be rewritten, as a value. -/
def RowV (W : World) (v : Value) (l : List Int) : Prop := SrcI W v l ∧ (l ≠ [] → ∃ g o cap, v = .slice (some ⟨g, o, none⟩) l.length cap ∧ RowI W g o l)
theorem RowI.kept {W W' : World} {g o : Nat} {l : List Int} (h : RowI W g o l) (hs : W.heap.size ≤ W'.heap.size) (hk : W'.heap[g]? = W.heap[g]?) : RowI W' g o l :=
  ⟨Nat.lt_of_lt_of_le h.lt hs, fun j => by have := h.fz j; simp only [World.frozen?, hk] at this ⊢; exact this, fun k x hx => by have := h.cell k x hx; simp only [World.cell?, hk] at this ⊢; exact this⟩
theorem RowV.kept {W W' : World} {v : Value} {l : List Int} (h : RowV W v l) (hs : W.heap.size ≤ W'.heap.size) (hk : ∀ k, OfRow l v k → W'.heap[k]? = W.heap[k]?) : RowV W' v l := by
  by_cases hl : l = []
  · subst hl
    obtain ⟨⟨_, ho⟩, _⟩ := h
    refine ⟨⟨?_, ho⟩, fun e => absurd rfl e⟩
    obtain ⟨p, cap, rfl, _⟩ := ho
    exact .inl ⟨rfl, _, _, rfl⟩
  · obtain ⟨g, o, cap, rfl, hr⟩ := h.2 hl
    have hr' := hr.kept hs (hk g ⟨hl, _, _, _, rfl⟩)
    exact ⟨⟨hr'.ints, h.1.2⟩, fun _ => ⟨g, o, cap, rfl, hr'⟩⟩
theorem RowV.later {W : World} {v : Value} {l : List Int} (h : RowV W v l) (x : Later W) : RowV x.w v l := ⟨h.1.below x.below, fun hl => by
  obtain ⟨g, o, cap, rfl, hr⟩ := h.2 hl
  exact ⟨g, o, cap, rfl, hr.later x⟩⟩
theorem RowV.lt {W : World} {v : Value} {l : List Int} (h : RowV W v l) {k : Nat} (hk : OfRow l v k) : k < W.heap.size := by
  obtain ⟨hl, o, n, c, rfl⟩ := hk
  obtain ⟨g, o', cap, hv, hr⟩ := h.2 hl
  obtain ⟨hv1, _⟩ := Value.slice.inj hv
  simp only [Option.some.injEq, Addr.mk.injEq] at hv1
  obtain ⟨rfl, _⟩ := hv1
  exact hr.lt

/-- The landed order at block m: who asks, who is left; the blocks that it owns. -/
def ProO (m : Nat) (self : Int) (rest : List Int) (W : World) (H : Nat → Prop) : Prop :=
  ∃ v, W.heap[m]? = some (.cells #[.int .i64 self, v] 49 (0, 0)) ∧ RowV W v rest ∧ ¬ OfRow rest v m ∧ ∀ k, H k ↔ k = m ∨ OfRow rest v k
theorem proO_owns (m : Nat) (self : Int) (rest : List Int) : Owns (ProO m self rest) where
  lt W H h k hk := by
    obtain ⟨v, hm, hr, _, hH⟩ := h
    rcases (hH k).1 hk with rfl | h1
    · exact (Array.getElem?_eq_some_iff.1 hm).1
    · exact hr.lt h1
  kept W W' H h hs hk := by
    obtain ⟨v, hm, hr, hn, hH⟩ := h
    exact ⟨v, (hk m ((hH m).2 (.inl rfl))).trans hm, hr.kept hs fun k h1 => hk k ((hH k).2 (.inr h1)), hn, hH⟩
def PEnd (m : Nat) (self : Int) (rest : List Int) (H : Nat → Prop) (W W' : World) : Prop := ∃ H', ProO m self rest W' H' ∧ Fr H W W' ∧ ∀ k, H' k → H k ∨ W.heap.size ≤ k

theorem newP_at (w : World) (self : Int) : ProO w.heap.size self [] (w.alloc (.cells #[.int .i64 self, .slice none 0 0] 49)) (fun k => k = w.heap.size) :=
  ⟨.slice none 0 0, heap_alloc_new _ _, ⟨⟨.inl ⟨rfl, _, _, rfl⟩, none, 0, rfl, by simp, fun _ => rfl⟩, fun h => absurd rfl h⟩, fun h => h.1 rfl, fun k => by simp [OfRow]⟩

def NewEnd (self : Int) (w : World) (e : Ending) (w' : World) : Prop := e = .returned (.pointer (some ⟨w.heap.size, 0, none⟩)) ∧ ProO w.heap.size self [] w' (fun k => k = w.heap.size) ∧ Below w.heap.size w w'
set_option maxHeartbeats 400000 in
theorem newP_any (self : Int) (w : World) : Calls Try.prog 9 #[.int .i64 self] w (NewEnd self w) := by
  have H := Lib.hid (newP_at w self)
  go_enter Try.func9, Try.ntmps9
  go_wp2_with fail
  go_ret
  exact ⟨rfl, H.out, ext_alloc (ext_refl w) _⟩

set_option maxHeartbeats 400000 in
theorem restP_any (m : Nat) (self : Int) (rest : List Int) (w : World) (H : Nat → Prop) (h : ProO m self rest w H) (hl : rest.length ≤ 1000) : Calls Try.prog 17 #[.pointer (some ⟨m, 0, none⟩)] w (CopyEnd rest w) := by
  obtain ⟨v, hm, hr, _, _⟩ := h
  have HC := Lib.hid (clone_any v rest w hr.1 (by omega))
  obtain ⟨p, cap, rfl, _⟩ := hr.1.1.form
  have hlt := (Array.getElem?_eq_some_iff.1 hm).1
  have e1 : w.cell? ⟨m, 1, none⟩ = some (.slice p rest.length cap) := by simp [World.cell?, hm]
  clear hr hm
  go_enter Try.func17, Try.ntmps17
  go_wp2_with fail
  refine HC.out.mono ?_
  rintro e w1 ⟨u, rfl, hmade⟩
  have HM := Lib.hid hmade
  obtain ⟨pu, cu, rfl⟩ := ownsRow_form hmade.1
  clear hmade
  go_wp2_with fail
  go_ret
  exact ⟨_, rfl, HM.out⟩
set_option maxHeartbeats 400000 in
theorem restP_nil (w : World) : Gives Try.prog 17 #[.pointer none] w (.slice none 0 0) := by
  unfold Gives
  go_enter Try.func17, Try.ntmps17
  go_wp2_with fail
  go_ret
  exact ⟨rfl, Later.ex (by repeat (first | exact ext_refl _ | refine ext_later ?_ _ | refine ext_alloc ?_ _ | refine ext_drew ?_ | refine ext_drewN ?_ _))⟩
set_option maxHeartbeats 400000 in
theorem nextP_nil (v : Value) (draw : Int) (w : World) : Gives Try.prog 15 #[.pointer none, v, .int .u64 draw] w (.int .i64 (-1)) := by
  unfold Gives
  go_enter Try.func15, Try.ntmps15
  go_wp2_with fail
  go_ret
  exact ⟨rfl, Later.ex (by repeat (first | exact ext_refl _ | refine ext_later ?_ _ | refine ext_alloc ?_ _ | refine ext_drew ?_ | refine ext_drewN ?_ _))⟩

/-- slices.DeleteFunc, whether or not somebody is struck. -/
def DelEnd (P rest : List Int) (v : Value) (w : World) (e : Ending) (w' : World) : Prop :=
  ∃ v', e = .returned v' ∧ RowV w' v' (rest.filter fun x => P.contains x) ∧ (∀ k, OfRow (rest.filter fun x => P.contains x) v' k → OfRow rest v k) ∧ Fr (OfRow rest v) w w'
theorem del_any (b : Nat) (u : Value) (P : List Int) (v : Value) (rest : List Int) (w : World) (hb : b < w.heap.size)
    (hG : ∀ W', Fr (OfRow rest v) w W' → W'.cell? ⟨b, 0, none⟩ = some u ∧ IntsAt W' u P) (hP : P.length ≤ 1000) (hv : RowV w v rest) (hl : rest.length ≤ 1000) :
    Calls Try.prog 24 #[v, .func (.func 25) #[] #[.pointer (some ⟨b, 0, none⟩)]] w (DelEnd P rest v w) := by
  rcases gone_split P rest with ⟨h1, h2⟩ | ⟨k, x, hk, hx, hf, hs⟩
  · obtain ⟨hc, hu⟩ := hG w (Fr.refl _ _)
    refine (delNone_any b u P v rest w hb hc hu hP hv.1.1 hl h2).mono' fun y => ⟨v, rfl, ?_, fun k hk => ?_, (Fr.refl _ w).later y⟩
    · rw [h1]; exact hv.later y
    · rw [h1] at hk; exact hk
  · have hkl := (List.getElem?_eq_some_iff.1 hk).1
    have hne : rest ≠ [] := fun e => by rw [e] at hkl; simp at hkl
    obtain ⟨g, o, cap, rfl, hr⟩ := hv.2 hne
    have hF : ∀ k, k = g ↔ OfRow rest (.slice (some ⟨g, o, none⟩) rest.length cap) k := fun k => ⟨fun e => by subst e; exact ⟨hne, o, _, _, rfl⟩, fun ⟨_, o', n, c, e⟩ => by
      obtain ⟨e1, _⟩ := Value.slice.inj e
      simp only [Option.some.injEq, Addr.mk.injEq] at e1
      exact e1.1.symm⟩
    have hFr : ∀ W', Fr (fun k => k = g) w W' → Fr (OfRow rest (.slice (some ⟨g, o, none⟩) rest.length cap)) w W' := fun W' h => ⟨h.os, h.tape, h.output, h.size, fun k hk hn => h.block k hk fun e => hn ((hF k).1 e)⟩
    have hcap : rest.length ≤ cap := by
      obtain ⟨p', cap', e, h1, _⟩ := hv.1.2
      obtain ⟨_, _, rfl⟩ := Value.slice.inj e
      exact h1
    refine (strike_any b u P g o cap rest w hb (fun W' h => hG W' (hFr W' h)) hP hr hl hcap hf hs hkl).mono ?_
    rintro e w' ⟨n, hn, rfl, hr', hfr⟩
    have hle : n ≤ rest.length := by rw [hn]; exact List.length_filter_le _ _
    refine ⟨_, rfl, ⟨⟨by rw [hn]; exact hr'.ints, some ⟨g, o, none⟩, cap, by rw [hn], by omega, fun h => by cases h⟩, fun _ => ⟨g, o, cap, by rw [hn], hr'⟩⟩, fun k hk => ?_, hFr w' hfr⟩
    obtain ⟨_, o', n', c, e⟩ := hk
    obtain ⟨e1, _⟩ := Value.slice.inj e
    simp only [Option.some.injEq, Addr.mk.injEq] at e1
    exact (hF k).1 e1.1.symm
end Go.Proofs.Ytfhfhneclplklaa
