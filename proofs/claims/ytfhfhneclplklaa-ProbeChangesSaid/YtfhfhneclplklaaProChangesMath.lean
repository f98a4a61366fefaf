/- What ProbeChanges leans on, without the walk. -/
import Derived.Test.YtfhfhneclplklaaProSt
import Derived.Test.YtfhfhneclplklaaOpenInts
import Derived.Test.YtfhfhneclplklaaRoundMath
import Derived.Test.YtfhfhneclplklaaSteps
namespace Go.Proofs.Ytfhfhneclplklaa
open Go Go.RowKit

def NextH (w : World) (m : Nat) (me : Int) (rest peers : List Int) (draw : Int) (H : Nat → Prop) (W : World) (e : Ending) (W' : World) : Prop :=
  e = .returned (.int .i64 (nextOf me rest peers draw).1) ∧ PSt w m me (nextOf me rest peers draw).2 W' ∧ Fr H W W'
theorem nextH_any {w W : World} {m : Nat} {me : Int} {rest : List Int} {H : Nat → Prop} (ho : ProO m me rest W H) (hH : ∀ k, H k → w.heap.size ≤ k) (hb : Below w.heap.size w W) (peers : List Int) (draw : Int) (v : Value) (hrest : rest.length ≤ 100) (hs : IntsAt W v peers) (hl : peers.length * 8 ≤ 140737488351232) (h0 : 0 ≤ draw) (h1 : draw < 18446744073709551616) :
    Calls Try.prog 15 #[.pointer (some ⟨m, 0, none⟩), v, .int .u64 draw] W (NextH w m me rest peers draw H W) := by
  refine (nextP_any m me rest peers draw v W H ho hrest hs hl h0 h1).mono fun e W' ⟨he, H', ho', hf, hH'⟩ => ⟨he, ⟨⟨H', ho', fun k hk => ?_⟩, hb.trans (hf.below hb.size hH)⟩, hf⟩
  rcases hH' k hk with h2 | h2
  · exact hH k h2
  · exact Nat.le_trans hb.size h2

theorem u64_wrap (x : Int) : 0 ≤ IntKind.u64.wrap x ∧ IntKind.u64.wrap x < 18446744073709551616 := by
  rw [wrap_u64]
  exact ⟨Int.emod_nonneg _ (by decide), Int.emod_lt_of_pos _ (by decide)⟩

/-- The second question, where somebody is there. -/
theorem next_cases (me : Int) (R b : List Int) (d : Int) : (peersOf b me = [] ∧ nextOf me R b d = (-1, R)) ∨ (peersOf b me ≠ [] ∧ ((∃ x r, (R.filter fun x => (peersOf b me).contains x) = x :: r ∧ nextOf me R b d = (x, r)) ∨ ((R.filter fun x => (peersOf b me).contains x) = [] ∧ ((nextOf me R b d).2.length : Int) = ((peersOf b me).length : Int) - 1))) := by
  by_cases h : peersOf b me = []
  · exact .inl ⟨h, by unfold nextOf; rw [if_pos h]⟩
  · refine .inr ⟨h, ?_⟩
    have hl : 0 < (peersOf b me).length := List.length_pos_iff.2 h
    have h8 := peersOf_len b me
    unfold nextOf
    rw [if_neg h]
    cases hf : R.filter fun x => (peersOf b me).contains x with
    | nil =>
      refine .inr ⟨rfl, ?_⟩
      have : leftNow R (peersOf b me) d = shuf (peersOf b me) d := by unfold leftNow; rw [hf]
      rw [this]
      show ((shuf (peersOf b me) d).tail.length : Int) = _
      rw [List.length_tail, shuf_len]
      omega
    | cons x r =>
      refine .inl ⟨x, r, rfl, ?_⟩
      have : leftNow R (peersOf b me) d = x :: r := by unfold leftNow; rw [hf]
      rw [this]
      rfl
theorem next_none (me : Int) (a : List Int) (d : Int) (h : peersOf a me = []) : nextOf me [] a d = (-1, []) := by unfold nextOf; rw [if_pos h]

/-- Each element at most once: appended once for each of the others that it equals. -/
theorem stay_step {N : List Int} (hn : N.Nodup) {i : Nat} {c x : Int} (hi : N[i]? = some c) (hx : c = x) : (N.take i).contains x = false := by
  subst hx
  rw [List.contains_eq_mem]
  simp only [decide_eq_false_iff_not]
  intro h
  have hd : c ∈ N.drop i := by
    rw [List.mem_iff_getElem?]
    exact ⟨0, by rw [List.getElem?_drop]; exact hi⟩
  rw [← List.take_append_drop i N, List.nodup_append] at hn
  exact hn.2.2 _ h _ hd rfl
end Go.Proofs.Ytfhfhneclplklaa
