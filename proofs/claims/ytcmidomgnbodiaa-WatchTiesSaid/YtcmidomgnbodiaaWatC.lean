/- The landed clock, by contracts alone: what the laws' walks lean on, whatever lies below. -/
import Derived.Test.YtcmidomgnbodiaaRefDue
namespace Go.Proofs.Ytcmidomgnbodiaa
open Go Go.RowKit

def WEnd (Own : Nat → List Mo → World → (Nat → Prop) → Prop) (m : Nat) (L : List Mo) (H : Nat → Prop) (W W' : World) : Prop := ∃ H', Own m L W' H' ∧ Fr H W W' ∧ ∀ k, H' k → H k ∨ W.heap.size ≤ k
def WNew (Own : Nat → List Mo → World → (Nat → Prop) → Prop) (W : World) (e : Ending) (W' : World) : Prop := ∃ m H, e = .returned (.pointer (some ⟨m, 0, none⟩)) ∧ Own m [] W' H ∧ Below W.heap.size W W' ∧ ∀ k, H k → W.heap.size ≤ k
def afterSet (L : List Mo) (x : Mo) : List Mo := if okM x then setM L x else L
def WSet (Own : Nat → List Mo → World → (Nat → Prop) → Prop) (m : Nat) (L : List Mo) (x : Mo) (H : Nat → Prop) (W : World) (e : Ending) (W' : World) : Prop := e = .returned (.bool (okM x)) ∧ WEnd Own m (afterSet L x) H W W'
def WCut (Own : Nat → List Mo → World → (Nat → Prop) → Prop) (m : Nat) (L : List Mo) (n : Int) (H : Nat → Prop) (W : World) (e : Ending) (W' : World) : Prop := e = .returned (.bool (hasM L n).isSome) ∧ WEnd Own m (cutM L n) H W W'
/-- What is due is a new row: none of the clock's blocks. -/
def WDue (Own : Nat → List Mo → World → (Nat → Prop) → Prop) (m : Nat) (L : List Mo) (now : Int) (H : Nat → Prop) (W : World) (e : Ending) (W' : World) : Prop :=
  ∃ p c H', e = .returned (.slice p ((dueM L now).map Mo.n).length c) ∧ W'.ownsRow W.heap.size 3 1 (.slice p ((dueM L now).map Mo.n).length c) ((dueM L now).map Mo.n).length (elemI.cells ((dueM L now).map Mo.n)) ∧ Own m (restM L now) W' H' ∧ Fr H W W' ∧ (∀ k, H' k → H k ∨ W.heap.size ≤ k) ∧ ∀ k, H' k → (Value.slice p ((dueM L now).map Mo.n).length c).ownBlock ≠ some k
structure WatC where
  Own : Nat → List Mo → World → (Nat → Prop) → Prop
  owns : ∀ m L, Owns (Own m L)
  new : ∀ W, Calls Try.prog 9 #[] W (WNew Own W)
  set : ∀ m L H W n t, Own m L W H → FineM L → Calls Try.prog 15 #[.pointer (some ⟨m, 0, none⟩), .int .i64 n, .int .i64 t] W (WSet Own m L ⟨n, t⟩ H W)
  cut : ∀ m L H W n, Own m L W H → FineM L → Calls Try.prog 10 #[.pointer (some ⟨m, 0, none⟩), .int .i64 n] W (WCut Own m L n H W)
  due : ∀ m L H W now, Own m L W H → FineM L → Calls Try.prog 13 #[.pointer (some ⟨m, 0, none⟩), .int .i64 now] W (WDue Own m L now H W)
  at' : ∀ m L H W n, Own m L W H → FineM L → Gives Try.prog 17 #[.pointer (some ⟨m, 0, none⟩), .int .i64 n] W (atV (hasM L n))
  len : ∀ m L H W, Own m L W H → FineM L → Gives Try.prog 19 #[.pointer (some ⟨m, 0, none⟩)] W (.int .i64 L.length)
  set0 : ∀ W n t, Gives Try.prog 15 #[.pointer none, .int .i64 n, .int .i64 t] W (.bool false)
  cut0 : ∀ W n, Gives Try.prog 10 #[.pointer none, .int .i64 n] W (.bool false)
  due0 : ∀ W now, Gives Try.prog 13 #[.pointer none, .int .i64 now] W (.slice none 0 0)
  at0 : ∀ W n, Gives Try.prog 17 #[.pointer none, .int .i64 n] W (atV none)
  len0 : ∀ W, Gives Try.prog 19 #[.pointer none] W (.int .i64 0)

/-- What a law knows of a clock that it has made itself since the world w. -/
structure WatS (C : WatC) (w : World) (m : Nat) (L : List Mo) (W : World) : Prop where
  fine : FineM L
  ex : ∃ H, C.Own m L W H ∧ ∀ k, H k → w.heap.size ≤ k
  below : Below w.heap.size w W
section
variable {C : WatC} {w W : World} {m : Nat} {L : List Mo}
theorem WatS.later (h : WatS C w m L W) (x : Later W) : WatS C w m L x.w := by
  obtain ⟨hf, ⟨H, ho, hH⟩, hb⟩ := h
  exact ⟨hf, ⟨H, (C.owns m L).kept W x.w H ho x.below.size fun k hk => x.below.block k ((C.owns m L).lt W H ho k hk), hH⟩, below_later hb hb.size x⟩
theorem WatS.end_ {M : List Mo} (h : WatS C w m L W) (hM : FineM M) {W' : World} (he : ∀ H, C.Own m L W H → (∀ k, H k → w.heap.size ≤ k) → WEnd C.Own m M H W W') : WatS C w m M W' := by
  obtain ⟨hf, ⟨H, ho, hH⟩, hb⟩ := h
  obtain ⟨H', ho', hfr, hg⟩ := he H ho hH
  refine ⟨hM, ⟨H', ho', fun k hk => ?_⟩, hb.trans (hfr.below hb.size hH)⟩
  rcases hg k hk with h2 | h2
  · exact hH k h2
  · exact Nat.le_trans hb.size h2
theorem FineM.after (h : FineM L) (x : Mo) : FineM (afterSet L x) := by
  unfold afterSet
  split
  · rename_i hx; exact h.set hx
  · exact h
def NewW (C : WatC) (w : World) (e : Ending) (W' : World) : Prop := ∃ m, e = .returned (.pointer (some ⟨m, 0, none⟩)) ∧ WatS C w m [] W'
theorem newW_any (hb : Below w.heap.size w W) : Calls Try.prog 9 #[] W (NewW C w) :=
  (C.new W).mono fun _ _ ⟨m, H, he, ho, hb', hH⟩ => ⟨m, he, FineM.nil, ⟨H, ho, fun k hk => Nat.le_trans hb.size (hH k hk)⟩, hb.trans (hb'.mono hb.size)⟩
def SetW (C : WatC) (w : World) (m : Nat) (L : List Mo) (x : Mo) (e : Ending) (W' : World) : Prop := e = .returned (.bool (okM x)) ∧ WatS C w m (afterSet L x) W'
theorem setW_any (h : WatS C w m L W) (n t : Int) : Calls Try.prog 15 #[.pointer (some ⟨m, 0, none⟩), .int .i64 n, .int .i64 t] W (SetW C w m L ⟨n, t⟩) := by
  have h' := h
  obtain ⟨hf, ⟨H, ho, hH⟩, hb⟩ := h
  refine (C.set m L H W n t ho hf).mono fun e W' ⟨he, H', ho', hfr, hg⟩ => ⟨he, hf.after _, ⟨H', ho', fun k hk => ?_⟩, hb.trans (hfr.below hb.size hH)⟩
  rcases hg k hk with h2 | h2
  · exact hH k h2
  · exact Nat.le_trans hb.size h2
def CutW (C : WatC) (w : World) (m : Nat) (L : List Mo) (n : Int) (e : Ending) (W' : World) : Prop := e = .returned (.bool (hasM L n).isSome) ∧ WatS C w m (cutM L n) W'
theorem cutW_any (h : WatS C w m L W) (n : Int) : Calls Try.prog 10 #[.pointer (some ⟨m, 0, none⟩), .int .i64 n] W (CutW C w m L n) := by
  obtain ⟨hf, ⟨H, ho, hH⟩, hb⟩ := h
  refine (C.cut m L H W n ho hf).mono fun e W' ⟨he, H', ho', hfr, hg⟩ => ⟨he, hf.cut n, ⟨H', ho', fun k hk => ?_⟩, hb.trans (hfr.below hb.size hH)⟩
  rcases hg k hk with h2 | h2
  · exact hH k h2
  · exact Nat.le_trans hb.size h2
def DueW (C : WatC) (w : World) (m : Nat) (L : List Mo) (now : Int) (e : Ending) (W' : World) : Prop :=
  ∃ p c, e = .returned (.slice p ((dueM L now).map Mo.n).length c) ∧ SrcE elemI W' (.slice p ((dueM L now).map Mo.n).length c) ((dueM L now).map Mo.n) ∧ WatS C w m (restM L now) W'
theorem dueW_any (h : WatS C w m L W) (now : Int) : Calls Try.prog 13 #[.pointer (some ⟨m, 0, none⟩), .int .i64 now] W (DueW C w m L now) := by
  obtain ⟨hf, ⟨H, ho, hH⟩, hb⟩ := h
  refine (C.due m L H W now ho hf).mono fun e W' ⟨p, c, H', he, hrow, ho', hfr, hg, _⟩ => ⟨p, c, he, ⟨rowAt_own (E := elemI) hrow, ownsRow_formE hrow⟩, hf.rest now, ⟨H', ho', fun k hk => ?_⟩, hb.trans (hfr.below hb.size hH)⟩
  rcases hg k hk with h2 | h2
  · exact hH k h2
  · exact Nat.le_trans hb.size h2
theorem atW_any (h : WatS C w m L W) (n : Int) : Gives Try.prog 17 #[.pointer (some ⟨m, 0, none⟩), .int .i64 n] W (atV (hasM L n)) := by
  obtain ⟨hf, ⟨H, ho, _⟩, _⟩ := h
  exact C.at' m L H W n ho hf
theorem lenW_any (h : WatS C w m L W) : Gives Try.prog 19 #[.pointer (some ⟨m, 0, none⟩)] W (.int .i64 L.length) := by
  obtain ⟨hf, ⟨H, ho, _⟩, _⟩ := h
  exact C.len m L H W ho hf
end

set_option maxHeartbeats 1000000 in
set_option maxRecDepth 100000 in
theorem awakeW_any (C : WatC) (w : World) : Gives Try.prog 20 #[] w (.bool true) := by
  unfold Gives
  have HN := Lib.hid (newW_any (C := C) (ext_refl w))
  go_enter Try.func20, Try.ntmps20
  go_wp2_with fail
  refine HN.out.mono ?_
  rintro e w1 ⟨m, rfl, hs⟩
  have h1 := setW_any hs 1 5
  unfold SetW at h1
  rw [show okM ⟨1, 5⟩ = true from by decide, show afterSet [] ⟨1, 5⟩ = [⟨1, 5⟩] from rfl] at h1
  have H1 := Lib.hid h1
  clear hs h1 HN
  go_wp2_with fail
  refine H1.out.mono ?_
  rintro e w2 ⟨rfl, hs⟩
  have h1 := setW_any hs 2 3
  unfold SetW at h1
  rw [show okM ⟨2, 3⟩ = true from by decide, show afterSet [⟨1, 5⟩] ⟨2, 3⟩ = [⟨2, 3⟩, ⟨1, 5⟩] from rfl] at h1
  have H2 := Lib.hid h1
  clear hs h1 H1
  go_wp2_with fail
  refine H2.out.mono ?_
  rintro e w3 ⟨rfl, hs⟩
  have h1 := dueW_any hs 5
  unfold DueW at h1
  rw [show dueM [⟨2, 3⟩, ⟨1, 5⟩] 5 = [⟨2, 3⟩, ⟨1, 5⟩] from rfl, show restM [⟨2, 3⟩, ⟨1, 5⟩] 5 = [] from rfl] at h1
  have H3 := Lib.hid h1
  clear hs h1 H2
  go_wp2_with fail
  refine H3.out.mono ?_
  rintro e w4 ⟨p, c, rfl, hr, hs⟩
  have HL := Lib.hid (lenW_any hs)
  have HB := Lib.hid hs.below
  rcases hr.1 with ⟨h0, _⟩ | ⟨b, o, cap, hv, hlt, hc⟩
  · simp at h0
  obtain ⟨rfl, -, rfl⟩ := Value.slice.inj hv
  have a0 : w4.cell? ⟨b, o, none⟩ = some (.int .i64 2) := hc 0 2 rfl 0 _ rfl
  have a1 : w4.cell? ⟨b, o + 1, none⟩ = some (.int .i64 1) := hc 1 1 rfl 0 _ rfl
  clear hr hs hv hc H3
  rw [show ([⟨2, 3⟩, ⟨1, 5⟩].map Mo.n).length = 2 from rfl]
  go_wp2_with fail
  refine Gives.mono' HL.out ?_
  intro x
  go_wp2_with fail
  go_ret
  exact ⟨rfl, Later.ex (below_later HB.out HB.out.size x)⟩
end Go.Proofs.Ytcmidomgnbodiaa
