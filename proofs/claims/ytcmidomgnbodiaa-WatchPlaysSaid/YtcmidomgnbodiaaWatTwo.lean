/- Two clocks side by side, and blocks that neither reaches. -/
import Derived.Test.YtcmidomgnbodiaaWatLaws
namespace Go.Proofs.Ytcmidomgnbodiaa
open Go Go.RowKit

structure MCall where
  do' : Int
  id : Int
  at' : Int
def elemC : Elem Try.prog MCall where
  enc c := [.int .i64 c.do', .int .i64 c.id, .int .i64 c.at']
  k := 3
  pos := by decide
  len _ := rfl
  one _ u hu := by
    simp only [List.mem_cons, List.not_mem_nil, or_false] at hu
    rcases hu with rfl | rfl | rfl <;> rfl
  t := 30
  sl := 22
  under := Try.underlying22
  z := .agg #[.int .i64 0, .int .i64 0, .int .i64 0]
  bytes := 24
  bpos := by decide
  info := by kernel_rfl
  zs := by kernel_rfl
theorem cellC {W : World} {p : Option Addr} {n cap : Nat} {l : List MCall} (h : RowAt elemC W (.slice p n cap) l) {k : Nat} {x : MCall} (hk : l[k]? = some x) : ∃ b o, p = some ⟨b, o, none⟩ ∧ W.cell? ⟨b, o + k * 3, none⟩ = some (.int .i64 x.do') ∧ W.cell? ⟨b, o + k * 3 + 1, none⟩ = some (.int .i64 x.id) ∧ W.cell? ⟨b, o + k * 3 + 2, none⟩ = some (.int .i64 x.at') := by
  obtain ⟨p', cap', he, hr⟩ := h.form
  obtain ⟨rfl, -, -⟩ := Value.slice.inj he
  rcases hr with h0 | ⟨b, o, rfl, _, hc⟩
  · rw [h0] at hk; simp at hk
  · exact ⟨b, o, rfl, hc k x hk 0 _ rfl, hc k x hk 1 _ rfl, hc k x hk 2 _ rfl⟩

def OwnT := Nat → List Mo → World → (Nat → Prop) → Prop
def Stood (G : Nat → Prop) (W W' : World) : Prop := GK G W W'
theorem Stood.block {G : Nat → Prop} {W W' : World} (h : Stood G W W') {k : Nat} (hk : G k) : W'.heap[k]? = W.heap[k]? := GK.block h hk
structure TwoS (O1 O2 : OwnT) (w : World) (m m' : Nat) (L L' : List Mo) (G : Nat → Prop) (W : World) : Prop where
  fine : FineM L
  fine' : FineM L'
  ex : ∃ H H', O1 m L W H ∧ O2 m' L' W H' ∧ Apart H H' ∧ (∀ k, H k → w.heap.size ≤ k) ∧ (∀ k, H' k → w.heap.size ≤ k) ∧ ∀ k, G k → k < W.heap.size ∧ ¬ H k ∧ ¬ H' k
  below : Below w.heap.size w W
section
variable {O1 O2 : OwnT} {w W : World} {m m' : Nat} {L L' M : List Mo} {G : Nat → Prop}
theorem TwoS.swap (h : TwoS O1 O2 w m m' L L' G W) : TwoS O2 O1 w m' m L' L G W := by
  obtain ⟨hf, hf', ⟨H, H', ho, ho', ha, hH, hH', hG⟩, hb⟩ := h
  exact ⟨hf', hf, ⟨H', H, ho', ho, fun k h' hk => ha k hk h', hH', hH, fun k hk => ⟨(hG k hk).1, (hG k hk).2.2, (hG k hk).2.1⟩⟩, hb⟩
theorem TwoS.step (_q1 : ∀ m L, Owns (O1 m L)) (q2 : ∀ m L, Owns (O2 m L)) (h : TwoS O1 O2 w m m' L L' G W) (hM : FineM M) :
    ∃ H, O1 m L W H ∧ ∀ W' H2, O1 m M W' H2 → Fr H W W' → (∀ k, H2 k → H k ∨ W.heap.size ≤ k) → ∀ G' : Nat → Prop, (∀ k, G' k → G k ∨ (W.heap.size ≤ k ∧ k < W'.heap.size ∧ ¬ H2 k)) → TwoS O1 O2 w m m' M L' G' W' ∧ Stood G W W' := by
  obtain ⟨hf, hf', ⟨H, H', ho, ho', ha, hH, hH', hG⟩, hb⟩ := h
  refine ⟨H, ho, fun W' H2 ho2 hfr hg G' hG' => ⟨⟨hM, hf', ⟨H2, H', ho2, ?_, ?_, ?_, hH', ?_⟩, hb.trans (hfr.below hb.size hH)⟩, GK.of_fr hfr fun k hk => ⟨(hG k hk).1, (hG k hk).2.1⟩⟩⟩
  · exact (q2 m' L').stays ho' hfr fun k h' hk => ha k hk h'
  · intro k hk h'
    rcases hg k hk with h2 | h2
    · exact ha k h2 h'
    · have := (q2 m' L').lt _ _ ho' k h'; omega
  · intro k hk
    rcases hg k hk with h2 | h2
    · exact hH k h2
    · exact Nat.le_trans hb.size h2
  · intro k hk
    rcases hG' k hk with h2 | ⟨h2, h3, h4⟩
    · refine ⟨Nat.lt_of_lt_of_le (hG k h2).1 hfr.size, fun h5 => ?_, (hG k h2).2.2⟩
      rcases hg k h5 with h6 | h6
      · exact (hG k h2).2.1 h6
      · have := (hG k h2).1; omega
    · exact ⟨h3, h4, fun h5 => by have := (q2 m' L').lt _ _ ho' k h5; omega⟩
theorem TwoS.later (q1 : ∀ m L, Owns (O1 m L)) (q2 : ∀ m L, Owns (O2 m L)) (h : TwoS O1 O2 w m m' L L' G W) (x : Later W) : TwoS O1 O2 w m m' L L' G x.w := by
  obtain ⟨H, ho, hk⟩ := h.step q1 q2 h.fine
  exact (hk x.w H ((q1 m L).kept W x.w H ho x.below.size fun k hk => x.below.block k ((q1 m L).lt W H ho k hk)) (Fr.of_below x.below) (fun k h => .inl h) G fun k h => .inl h).1
end
section
variable {C : WatC} {O2 : OwnT} {w W : World} {m m' : Nat} {L L' : List Mo} {G : Nat → Prop}
def SetT (C : WatC) (O2 : OwnT) (w : World) (m m' : Nat) (L L' : List Mo) (G : Nat → Prop) (x : Mo) (W : World) (e : Ending) (W' : World) : Prop := e = .returned (.bool (okM x)) ∧ TwoS C.Own O2 w m m' (afterSet L x) L' G W' ∧ Stood G W W'
theorem set_two (q2 : ∀ m L, Owns (O2 m L)) (h : TwoS C.Own O2 w m m' L L' G W) (n t : Int) : Calls Try.prog 15 #[.pointer (some ⟨m, 0, none⟩), .int .i64 n, .int .i64 t] W (SetT C O2 w m m' L L' G ⟨n, t⟩ W) := by
  obtain ⟨H, ho, hk⟩ := h.step C.owns q2 (h.fine.after ⟨n, t⟩)
  refine (C.set m L H W n t ho h.fine).mono fun e W' ⟨he, H', ho', hfr, hg⟩ => ⟨he, hk W' H' ho' hfr hg G fun k h => .inl h⟩
def CutT (C : WatC) (O2 : OwnT) (w : World) (m m' : Nat) (L L' : List Mo) (G : Nat → Prop) (n : Int) (W : World) (e : Ending) (W' : World) : Prop := e = .returned (.bool (hasM L n).isSome) ∧ TwoS C.Own O2 w m m' (cutM L n) L' G W' ∧ Stood G W W'
theorem cut_two (q2 : ∀ m L, Owns (O2 m L)) (h : TwoS C.Own O2 w m m' L L' G W) (n : Int) : Calls Try.prog 10 #[.pointer (some ⟨m, 0, none⟩), .int .i64 n] W (CutT C O2 w m m' L L' G n W) := by
  obtain ⟨H, ho, hk⟩ := h.step C.owns q2 (h.fine.cut n)
  refine (C.cut m L H W n ho h.fine).mono fun e W' ⟨he, H', ho', hfr, hg⟩ => ⟨he, hk W' H' ho' hfr hg G fun k h => .inl h⟩
def DueT (C : WatC) (O2 : OwnT) (w : World) (m m' : Nat) (L L' : List Mo) (G : Nat → Prop) (now : Int) (W : World) (e : Ending) (W' : World) : Prop :=
  ∃ p c, e = .returned (.slice p ((dueM L now).map Mo.n).length c) ∧ W'.ownsRow W.heap.size 3 1 (.slice p ((dueM L now).map Mo.n).length c) ((dueM L now).map Mo.n).length (elemI.cells ((dueM L now).map Mo.n)) ∧ TwoS C.Own O2 w m m' (restM L now) L' (fun k => G k ∨ (Value.slice p ((dueM L now).map Mo.n).length c).ownBlock = some k) W' ∧ Stood G W W'
theorem due_two (q2 : ∀ m L, Owns (O2 m L)) (h : TwoS C.Own O2 w m m' L L' G W) (now : Int) : Calls Try.prog 13 #[.pointer (some ⟨m, 0, none⟩), .int .i64 now] W (DueT C O2 w m m' L L' G now W) := by
  obtain ⟨H, ho, hk⟩ := h.step C.owns q2 (h.fine.rest now)
  refine (C.due m L H W now ho h.fine).mono fun e W' ⟨p, c, H', he, hrow, ho', hfr, hg, hn⟩ => ⟨p, c, he, hrow, hk W' H' ho' hfr hg _ fun k h => ?_⟩
  rcases h with h | h
  · exact .inl h
  · exact .inr ⟨(hrow.lt k h).1, (hrow.lt k h).2, fun h2 => hn k h2 h⟩
theorem at_two (h : TwoS C.Own O2 w m m' L L' G W) (n : Int) : Gives Try.prog 17 #[.pointer (some ⟨m, 0, none⟩), .int .i64 n] W (atV (hasM L n)) := by
  obtain ⟨hf, _, ⟨H, H', ho, _⟩, _⟩ := h
  exact C.at' m L H W n ho hf
theorem len_two (h : TwoS C.Own O2 w m m' L L' G W) : Gives Try.prog 19 #[.pointer (some ⟨m, 0, none⟩)] W (.int .i64 L.length) := by
  obtain ⟨hf, _, ⟨H, H', ho, _⟩, _⟩ := h
  exact C.len m L H W ho hf
/-- A clock that is made beside another. -/
def NewT (C : WatC) (w : World) (m : Nat) (L : List Mo) (e : Ending) (W' : World) : Prop := ∃ m', e = .returned (.pointer (some ⟨m', 0, none⟩)) ∧ TwoS C.Own C.Own w m m' L [] (fun _ => False) W'
theorem new_two (h : WatS C w m L W) : Calls Try.prog 9 #[] W (NewT C w m L) := by
  obtain ⟨hf, ⟨H, ho, hH⟩, hb⟩ := h
  refine (C.new W).mono fun e W' ⟨m', H', he, ho', hb', hH'⟩ => ⟨m', he, hf, FineM.nil, ⟨H, H', ?_, ho', ?_, hH, fun k hk => Nat.le_trans hb.size (hH' k hk), fun _ h => h.elim⟩, hb.trans (hb'.mono hb.size)⟩
  · exact (C.owns m L).kept W W' H ho hb'.size fun k hk => hb'.block k ((C.owns m L).lt W H ho k hk)
  · intro k hk hk'
    have := (C.owns m L).lt W H ho k hk
    have := hH' k hk'
    omega
end
end Go.Proofs.Ytcmidomgnbodiaa
