/- Objects side by side: what a call owes on one of them, what it leaves of the others. -/
import Derived.Test.YtnahhbpaijfpbaaSep
import Derived.Test.YtnahhbpaijfpbaaGreedy
namespace Go.Proofs.Ytnahhbpaijfpbaa
open Go Go.RowKit

/-- What memory holds: a world, and the blocks that are spoken of. -/
abbrev Asn := World → (Nat → Prop) → Prop
def star (P Q : Asn) : Asn := fun W H => ∃ H1 H2, P W H1 ∧ Q W H2 ∧ Apart H1 H2 ∧ ∀ k, H k ↔ H1 k ∨ H2 k
def pureA (p : Prop) (P : Asn) : Asn := fun W H => p ∧ P W H
def exA {α : Type} (P : α → Asn) : Asn := fun W H => ∃ x, P x W H
def emp : Asn := fun _ H => ∀ k, ¬ H k
/-- One block, all of it. -/
def BoxA (b : Nat) (o : Obj) : Asn := fun W H => W.heap[b]? = some o ∧ ∀ k, H k ↔ k = b

section
variable {P P' Q Q' R : Asn} {W W' w : World} {H H0 : Nat → Prop}
theorem Apart.symm {F G : Nat → Prop} (h : Apart F G) : Apart G F := fun k hg hf => h k hf hg
theorem star_owns (hP : Owns P) (hQ : Owns Q) : Owns (star P Q) where
  lt W F h k hk := by
    obtain ⟨H1, H2, h1, h2, _, he⟩ := h
    rcases (he k).1 hk with h | h
    · exact hP.lt W H1 h1 k h
    · exact hQ.lt W H2 h2 k h
  kept W W' F h hs hk := by
    obtain ⟨H1, H2, h1, h2, ha, he⟩ := h
    exact ⟨H1, H2, hP.kept W W' H1 h1 hs fun k h => hk k ((he k).2 (.inl h)), hQ.kept W W' H2 h2 hs fun k h => hk k ((he k).2 (.inr h)), ha, he⟩
theorem pureA_owns {p : Prop} (hP : Owns P) : Owns (pureA p P) := ⟨fun W F h => hP.lt W F h.2, fun W W' F h hs hk => ⟨h.1, hP.kept W W' F h.2 hs hk⟩⟩
theorem exA_owns {α : Type} {P : α → Asn} (hP : ∀ x, Owns (P x)) : Owns (exA P) := ⟨fun W F ⟨x, h⟩ => (hP x).lt W F h, fun W W' F ⟨x, h⟩ hs hk => ⟨x, (hP x).kept W W' F h hs hk⟩⟩
theorem emp_owns : Owns emp := ⟨fun _ _ h k hk => absurd hk (h k), fun _ _ _ h _ _ => h⟩
theorem box_owns (b : Nat) (o : Obj) : Owns (BoxA b o) where
  lt W F h k hk := by
    obtain ⟨h1, h2⟩ := h
    rw [(h2 k).1 hk]
    exact (Array.getElem?_eq_some_iff.1 h1).1
  kept W W' F h _ hk := ⟨(hk b ((h.2 b).2 rfl)).trans h.1, h.2⟩
theorem star_comm (h : star P Q W H) : star Q P W H := by
  obtain ⟨H1, H2, h1, h2, ha, he⟩ := h
  exact ⟨H2, H1, h2, h1, ha.symm, fun k => (he k).trans Or.comm⟩
theorem star_assoc (h : star (star P Q) R W H) : star P (star Q R) W H := by
  obtain ⟨H12, H3, ⟨H1, H2, h1, h2, ha, he⟩, h3, ha', he'⟩ := h
  refine ⟨H1, fun k => H2 k ∨ H3 k, h1, ⟨H2, H3, h2, h3, fun k hk => ha' k ((he k).2 (.inr hk)), fun k => Iff.rfl⟩, fun k hk h' => ?_, fun k => ?_⟩
  · rcases h' with h' | h'
    · exact ha k hk h'
    · exact ha' k ((he k).2 (.inl hk)) h'
  · rw [he' k, he k, or_assoc]
theorem star_assoc' (h : star P (star Q R) W H) : star (star P Q) R W H := star_comm (star_assoc (star_comm (star_assoc (star_comm h))))
theorem star_mono (hP : ∀ H, P W H → P' W H) (hQ : ∀ H, Q W H → Q' W H) (h : star P Q W H) : star P' Q' W H := by
  obtain ⟨H1, H2, h1, h2, ha, he⟩ := h
  exact ⟨H1, H2, hP H1 h1, hQ H2 h2, ha, he⟩
/-- The second to the front. -/
theorem star_swap (h : star P (star Q R) W H) : star Q (star P R) W H := star_assoc (star_mono (fun _ h => star_comm h) (fun _ h => h) (star_assoc' h))

/-- Behind some steps that may have turned the blocks H, and new ones. -/
def SEnd (P : Asn) (H : Nat → Prop) (W W' : World) : Prop := ∃ H', P W' H' ∧ Fr H W W' ∧ ∀ k, H' k → H k ∨ W.heap.size ≤ k
theorem sEnd_refl (h : P W H) : SEnd P H W W := ⟨H, h, Fr.refl _ _, fun _ hk => .inl hk⟩
theorem SEnd.mono (h : SEnd P H W W') (hP : ∀ H, P W' H → P' W' H) : SEnd P' H W W' := by
  obtain ⟨H', h1, h2, h3⟩ := h
  exact ⟨H', hP H' h1, h2, h3⟩
theorem SEnd.trans {W1 : World} (h : SEnd P H W W1) (hk : ∀ H1, P W1 H1 → SEnd Q H1 W1 W') : SEnd Q H W W' := by
  obtain ⟨H1, h1, h2, h3⟩ := h
  obtain ⟨H2, k1, k2, k3⟩ := hk H1 h1
  refine ⟨H2, k1, h2.trans k2 h3, fun k hh => ?_⟩
  rcases k3 k hh with h | h
  · exact h3 k h
  · exact .inr (Nat.le_trans h2.size h)
theorem SEnd.later (hP : Owns P) {W1 : World} (h : SEnd P H W W1) (x : Later W1) : SEnd P H W x.w :=
  h.trans fun H1 h1 => ⟨H1, hP.kept W1 x.w H1 h1 x.below.size fun k hk => x.below.block k (hP.lt W1 H1 h1 k hk), Fr.of_below x.below, fun _ h => .inl h⟩
theorem SEnd.below (hP : Owns P) {W1 : World} (h : SEnd P H W W1) {W2 : World} (hb : Below W1.heap.size W1 W2) : SEnd P H W W2 := h.later hP ⟨W2, hb⟩
theorem SEnd.fr (h : SEnd P H W W') : Fr H W W' := by obtain ⟨_, _, h2, _⟩ := h; exact h2
theorem SEnd.size (h : SEnd P H W W') : W.heap.size ≤ W'.heap.size := h.fr.size
theorem SEnd.comm (h : SEnd (star P Q) H W W') : SEnd (star Q P) H W W' := h.mono fun _ => star_comm
theorem SEnd.swap (h : SEnd (star P (star Q R)) H W W') : SEnd (star Q (star P R)) H W W' := h.mono fun _ => star_swap
theorem SEnd.assoc (h : SEnd (star (star P Q) R) H W W') : SEnd (star P (star Q R)) H W W' := h.mono fun _ => star_assoc
theorem SEnd.assoc' (h : SEnd (star P (star Q R)) H W W') : SEnd (star (star P Q) R) H W W' := h.mono fun _ => star_assoc'

/-- A step on the first of two keeps the second. -/
theorem star_frame (hQ : Owns Q) (h : star P Q W H) : ∃ H1, P W H1 ∧ (∀ k, H1 k → H k) ∧ ∀ P' W', SEnd P' H1 W W' → SEnd (star P' Q) H W W' ∧ ∀ S : Nat → Prop, (∀ H2, Q W H2 → ∀ k, S k → H2 k) → GK S W W' := by
  obtain ⟨H1, H2, h1, h2, ha, he⟩ := h
  refine ⟨H1, h1, fun k hk => (he k).2 (.inl hk), fun P' W' ⟨H3, k1, k2, k3⟩ => ⟨⟨fun k => H3 k ∨ H2 k, ⟨H3, H2, k1, hQ.stays h2 k2 ha.symm, fun k hk hk' => ?_, fun _ => Iff.rfl⟩, ?_, fun k hk => ?_⟩, fun S hS => GK.of_fr k2 fun k hk => ⟨hQ.lt W H2 h2 k (hS H2 h2 k hk), fun hk' => ha k hk' (hS H2 h2 k hk)⟩⟩⟩
  · rcases k3 k hk with h | h
    · exact ha k h hk'
    · have := hQ.lt W H2 h2 k hk'; omega
  · exact ⟨k2.os, k2.tape, k2.output, k2.size, fun k hk hn => k2.block k hk fun e => hn ((he k).2 (.inl e))⟩
  · rcases hk with hk | hk
    · rcases k3 k hk with h | h
      · exact .inl ((he k).2 (.inl h))
      · exact .inr h
    · exact .inl ((he k).2 (.inr hk))

/-- What a call owes: from P, its answer u and R u. -/
def Trip (pr : Program) (f : FuncId) (args : Array Value) (P : Asn) (R : Value → Asn) : Prop := ∀ W H, P W H → Calls pr f args W fun e W' => ∃ u, e = .returned u ∧ SEnd (R u) H W W'
theorem Trip.frame {pr : Program} {f : FuncId} {args : Array Value} {R : Value → Asn} (h : Trip pr f args P R) (hQ : Owns Q) : Trip pr f args (star P Q) fun u => star (R u) Q := fun W H hs => by
  obtain ⟨H1, h1, _, h3⟩ := star_frame hQ hs
  exact (h W H1 h1).mono fun e W' ⟨u, he, hr⟩ => ⟨u, he, (h3 _ _ hr).1⟩
/-- A call on the first of the objects, behind some steps; the blocks S lie in the others. -/
theorem SEnd.call {pr : Program} {f : FuncId} {args : Array Value} {R : Value → Asn} (h : SEnd (star P Q) H0 w W) (hQ : Owns Q) (hc : Trip pr f args P R) (S : Nat → Prop) (hS : ∀ H2, Q W H2 → ∀ k, S k → H2 k) :
    Calls pr f args W fun e W' => ∃ u, e = .returned u ∧ (SEnd (star (R u) Q) H0 w W' ∧ GK S W W') := by
  obtain ⟨H, hs, hf, hg⟩ := h
  obtain ⟨H1, h1, h2, h3⟩ := star_frame hQ hs
  refine (hc W H1 h1).mono fun e W' ⟨u, he, hr⟩ => ⟨u, he, ?_, (h3 _ _ hr).2 S hS⟩
  exact SEnd.trans (P := fun W1 H' => W1 = W ∧ H' = H) ⟨H, ⟨rfl, rfl⟩, hf, hg⟩ fun H' ⟨_, e⟩ => by subst e; exact (h3 _ _ hr).1
theorem Trip.end_ {pr : Program} {f : FuncId} {args : Array Value} {R : Value → Asn} (h : SEnd P H0 w W) (hc : Trip pr f args P R) : Calls pr f args W fun e W' => ∃ u, e = .returned u ∧ SEnd (R u) H0 w W' := by
  obtain ⟨H, hs, hf, hg⟩ := h
  exact (hc W H hs).mono fun e W' ⟨u, he, hr⟩ => ⟨u, he, SEnd.trans (P := fun W1 H' => W1 = W ∧ H' = H) ⟨H, ⟨rfl, rfl⟩, hf, hg⟩ fun H' ⟨_, e⟩ => by subst e; exact hr⟩

/-- A new block of the walk's own. -/
theorem SEnd.box (hP : Owns P) (h : SEnd P H0 w W) (o : Obj) : SEnd (star (BoxA W.heap.size o) P) H0 w (W.alloc o) := by
  refine h.trans fun H hp => ⟨fun k => k = W.heap.size ∨ H k, ⟨fun k => k = W.heap.size, H, ⟨heap_alloc_new W o, fun _ => Iff.rfl⟩, hP.kept W _ H hp (by simp) fun k hk => Below.heap_alloc _ _ _ (hP.lt W H hp k hk), fun k hk hk' => ?_, fun _ => Iff.rfl⟩, Fr.of_below (ext_alloc (ext_refl W) o), fun k hk => ?_⟩
  · have := hP.lt W H hp k hk'
    omega
  · rcases hk with rfl | hk
    · exact .inr (Nat.le_refl _)
    · exact .inl hk
/-- A cell of a box is written. -/
theorem SEnd.store {b off : Nat} {cs : Array Value} {t : TypeId} (hQ : Owns Q) (h : SEnd (star (BoxA b (.cells cs t (0, 0))) Q) H0 w W) (v : Value) : SEnd (star (BoxA b (.cells (cs.setIfInBounds off v) t (0, 0))) Q) H0 w (W.setCell ⟨b, off, none⟩ v) := by
  refine h.trans fun H hs => ?_
  obtain ⟨H1, ⟨h1, hH⟩, _, h3⟩ := star_frame hQ hs
  refine (h3 _ _ ⟨H1, ⟨heap_setCell_same W b off _ _ v h1, hH⟩, ?_, fun _ hk => .inl hk⟩).1
  exact (Fr.refl H1 W).set b off v (.inl ((hH b).2 rfl))
/-- What a box holds. -/
theorem SEnd.at {b : Nat} {o : Obj} (h : SEnd (star (BoxA b o) Q) H0 w W) : W.heap[b]? = some o := by
  obtain ⟨H, ⟨H1, H2, ⟨h1, _⟩, _⟩, _⟩ := h
  exact h1
/-- A box that is not needed any more. -/
theorem SEnd.drop (h : SEnd (star Q P) H0 w W) : SEnd P H0 w W := by
  obtain ⟨H, ⟨H1, H2, h1, h2, ha, he⟩, hf, hg⟩ := h
  exact ⟨H2, h2, hf, fun k hk => hg k ((he k).2 (.inr hk))⟩
theorem cov_box {b : Nat} {o : Obj} : ∀ H2, star (BoxA b o) Q W H2 → ∀ k, k = b → H2 k := fun _H2 ⟨_, _, ⟨_, h⟩, _, _, he⟩ k hk => (he k).2 (.inl ((h k).2 hk))
theorem cov_box1 {b : Nat} {o : Obj} : ∀ H2, BoxA b o W H2 → ∀ k, k = b → H2 k := fun _H2 h k hk => (h.2 k).2 hk
theorem cov_next {S : Nat → Prop} (h : ∀ H2, Q W H2 → ∀ k, S k → H2 k) : ∀ H2, star P Q W H2 → ∀ k, S k → H2 k := fun _H2 ⟨_, _, _, h2, _, he⟩ k hk => (he k).2 (.inr (h _ h2 k hk))
theorem cov_or {S S' : Nat → Prop} (h : ∀ H2, Q W H2 → ∀ k, S k → H2 k) (h' : ∀ H2, Q W H2 → ∀ k, S' k → H2 k) : ∀ H2, Q W H2 → ∀ k, (S k ∨ S' k) → H2 k := fun H2 hq k hk => hk.elim (h H2 hq k) (h' H2 hq k)
theorem cov_none : ∀ H2, Q W H2 → ∀ k, False → H2 k := fun _ _ _ h => h.elim
/-- A call that hands back v and makes new memory alone is a step on whatever there is. -/
theorem SEnd.gives {pr : Program} {f : FuncId} {args : Array Value} {v : Value} (hP : Owns P) (h : SEnd P H0 w W) (hg : Gives pr f args W v) : Calls pr f args W fun e W' => ∃ u, e = .returned u ∧ (u = v ∧ SEnd P H0 w W' ∧ Below W.heap.size W W') :=
  hg.mono fun e W' ⟨he, x, hx⟩ => by subst hx; exact ⟨v, he, rfl, h.later hP x, x.below⟩
theorem SEnd.get (h : SEnd P H0 w W) : ∃ H, P W H := by obtain ⟨H, h, _⟩ := h; exact ⟨H, h⟩
/-- What lies elsewhere, and was there, is as it was. -/
theorem SEnd.old (h : SEnd P H0 w W) {k : Nat} (hk : k < w.heap.size) (hn : ¬ H0 k) : W.heap[k]? = w.heap[k]? := h.fr.block k hk hn

theorem SEnd.pure {p : Prop} (h : SEnd (pureA p P) H W W') : p ∧ SEnd P H W W' := by
  obtain ⟨H', ⟨hp, h1⟩, h2⟩ := h
  exact ⟨hp, H', h1, h2⟩
/-- A call on one of the objects, brought to the front and back. -/
theorem SEnd.callF {pr : Program} {f : FuncId} {args : Array Value} {A : Asn} {A' R : Value → Asn} (h : SEnd A H0 w W) (to' : ∀ W H, A W H → star P Q W H) (hQ : Owns Q) (hc : Trip pr f args P R) (S : Nat → Prop) (hS : ∀ W H2, Q W H2 → ∀ k, S k → H2 k) (back : ∀ u W H, star (R u) Q W H → A' u W H) :
    Calls pr f args W fun e W' => ∃ u, e = .returned u ∧ (SEnd (A' u) H0 w W' ∧ GK S W W') :=
  (SEnd.call (h.mono fun _ => to' _ _) hQ hc S (hS W)).mono fun _ _ ⟨u, he, h1, h2⟩ => ⟨u, he, h1.mono fun _ => back u _ _, h2⟩
theorem SEnd.callP {pr : Program} {f : FuncId} {args : Array Value} {A A' : Asn} {v : Value} (h : SEnd A H0 w W) (to' : ∀ W H, A W H → star P Q W H) (hQ : Owns Q) (hc : Trip pr f args P fun u => pureA (u = v) P') (S : Nat → Prop) (hS : ∀ W H2, Q W H2 → ∀ k, S k → H2 k) (back : ∀ W H, star P' Q W H → A' W H) :
    Calls pr f args W fun e W' => ∃ u, e = .returned u ∧ (u = v ∧ SEnd A' H0 w W' ∧ GK S W W') :=
  (SEnd.callF (A' := fun u => pureA (u = v) A') h to' hQ hc S hS fun _u W H ⟨H1, H2, ⟨hp, h1⟩, h2⟩ => ⟨hp, back W H ⟨H1, H2, h1, h2⟩⟩).mono fun _ _ ⟨u, he, h1, h2⟩ => ⟨u, he, h1.pure.1, h1.pure.2, h2⟩
/-- A new block that a walk found somewhere behind. -/
theorem SEnd.boxed (hP : Owns P) (h : SEnd P H0 w W) {b : Nat} {o : Obj} (hb : Below W.heap.size W W') (hn : W.heap.size ≤ b) (ho : W'.heap[b]? = some o) : SEnd (star (BoxA b o) P) H0 w W' := by
  refine h.trans fun H hp => ⟨fun k => k = b ∨ H k, ⟨fun k => k = b, H, ⟨ho, fun _ => Iff.rfl⟩, hP.kept W _ H hp hb.size fun k hk => hb.block k (hP.lt W H hp k hk), fun k hk hk' => ?_, fun _ => Iff.rfl⟩, Fr.of_below hb, fun k hk => ?_⟩
  · have := hP.lt W H hp k hk'
    omega
  · rcases hk with rfl | hk
    · exact .inr hn
    · exact .inl hk
/-- A new object, of new blocks alone, beside what there is. -/
theorem SEnd.fresh (hP : Owns P) (_hQ : Owns Q) (h : SEnd P H0 w W) {HQ : Nat → Prop} (hb : Below W.heap.size W W') (hq : Q W' HQ) (hn : ∀ k, HQ k → W.heap.size ≤ k) : SEnd (star Q P) H0 w W' := by
  refine h.trans fun H hp => ⟨fun k => HQ k ∨ H k, ⟨HQ, H, hq, hP.kept W _ H hp hb.size fun k hk => hb.block k (hP.lt W H hp k hk), fun k hk hk' => ?_, fun _ => Iff.rfl⟩, Fr.of_below hb, fun k hk => ?_⟩
  · have h1 := hP.lt W H hp k hk'
    have h2 := hn k hk
    omega
  · rcases hk with hk | hk
    · exact .inr (hn k hk)
    · exact .inl hk
theorem emp_right (h : star P emp W H) : P W H := by
  obtain ⟨H1, H2, h1, h2, _, he⟩ := h
  have e : H = H1 := funext fun k => propext ((he k).trans ⟨fun h => h.elim id fun h => absurd h (h2 k), .inl⟩)
  rw [e]
  exact h1
theorem sEnd_emp (hb : Below w.heap.size w W) : SEnd emp (fun _ => False) w W := ⟨fun _ => False, fun _ h => h, Fr.of_below hb, fun _ h => h.elim⟩
/-- The second of two to the front of three. -/
theorem star_in2 {A B : Asn} (h : star A (star B P) W H) : star B (star A P) W H := star_swap h
theorem star_in3 {A B C : Asn} (h : star A (star B (star C P)) W H) : star C (star A (star B P)) W H := star_swap (star_mono (fun _ h => h) (fun _ h => star_swap h) h)
theorem star_in4 {A B C D : Asn} (h : star A (star B (star C (star D P))) W H) : star D (star A (star B (star C P))) W H := star_swap (star_mono (fun _ h => h) (fun _ h => star_in3 h) h)
theorem star_in5 {A B C D E : Asn} (h : star A (star B (star C (star D (star E P)))) W H) : star E (star A (star B (star C (star D P)))) W H := star_swap (star_mono (fun _ h => h) (fun _ h => star_in4 h) h)
theorem star_out3 {A B C : Asn} (h : star C (star A (star B P)) W H) : star A (star B (star C P)) W H := star_mono (fun _ h => h) (fun _ h => star_swap h) (star_swap h)
theorem star_out4 {A B C D : Asn} (h : star D (star A (star B (star C P))) W H) : star A (star B (star C (star D P))) W H := star_mono (fun _ h => h) (fun _ h => star_out3 h) (star_swap h)
theorem star_out5 {A B C D E : Asn} (h : star E (star A (star B (star C (star D P)))) W H) : star A (star B (star C (star D (star E P)))) W H := star_mono (fun _ h => h) (fun _ h => star_out4 h) (star_swap h)
theorem cov2 {A : Asn} {b : Nat} {o : Obj} {S : Nat → Prop} (h : ∀ W H2, A W H2 → ∀ k, S k → H2 k) : ∀ W H2, star (BoxA b o) A W H2 → ∀ k, (k = b ∨ S k) → H2 k := fun W _H2 ⟨_H3, H4, h1, h2, _, he⟩ k hk => (he k).2 (hk.elim (fun e => .inl ((h1.2 k).2 e)) fun e => .inr (h W H4 h2 k e))
theorem covl {A B : Asn} {S : Nat → Prop} (h : ∀ W H2, A W H2 → ∀ k, S k → H2 k) : ∀ W H2, star A B W H2 → ∀ k, S k → H2 k := fun W _ ⟨_, _, h1, _, _, he⟩ k hk => (he k).2 (.inl (h W _ h1 k hk))
theorem covr {A B : Asn} {S : Nat → Prop} (h : ∀ W H2, B W H2 → ∀ k, S k → H2 k) : ∀ W H2, star A B W H2 → ∀ k, S k → H2 k := fun W _ ⟨_, _, _, h2, _, he⟩ k hk => (he k).2 (.inr (h W _ h2 k hk))
theorem covb {b : Nat} {o : Obj} : ∀ W H2, BoxA b o W H2 → ∀ k, k = b → H2 k := fun _ _ h k hk => (h.2 k).2 hk
theorem covo {A : Asn} {S S' : Nat → Prop} (h : ∀ W H2, A W H2 → ∀ k, S k → H2 k) (h' : ∀ W H2, A W H2 → ∀ k, S' k → H2 k) : ∀ W H2, A W H2 → ∀ k, (S k ∨ S' k) → H2 k := fun W H2 hq k hk => hk.elim (h W H2 hq k) (h' W H2 hq k)
theorem cov1 {A : Asn} {b : Nat} {o : Obj} : ∀ W H2, star (BoxA b o) A W H2 → ∀ k, k = b → H2 k := fun _W _H2 ⟨_H3, _H4, h1, _h2, _, he⟩ k hk => (he k).2 (.inl ((h1.2 k).2 hk))
end
end Go.Proofs.Ytnahhbpaijfpbaa
