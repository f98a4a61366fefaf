/- GossipTells: what is heard rises, who is told: without any program. -/
import Derived.Test.YtnkchmafofpimaaGsM
namespace Go.Proofs.Ytnkchmafofpimaa

structure TlZ (T : Tl) : Prop where
  self : T.self = 0
  own : T.h 0 = false
  o : T.o = []
theorem tlz_new : TlZ (newT 0) := ⟨rfl, rfl, rfl⟩
theorem TlZ.heard {T : Tl} (h : TlZ T) (f : Int) (r : Rg) : TlZ (heardT T f r) := by
  have h1 := heard_self (S := T) (f := f) (r := r) (by rw [h.self]; exact h.own) (by rw [h.self]; exact Int.le_refl _)
  rw [h.self] at h1
  exact ⟨h1.1, h1.2, (heard_o T f r).trans h.o⟩
theorem tells_rise {T : Tl} {f : Int} {r : Rg} (h : knowsB T f = true) : knowsB (heardT T f r) f = true ∧ belowR (knowsR T f) (knowsR (heardT T f r) f) = true := by
  have hk := h
  unfold knowsB at hk
  rw [Bool.and_eq_true] at hk
  have h1 := heard_rises T f r hk.2
  have h2 : knowsB (heardT T f r) f = true := by
    unfold knowsB
    rw [hk.1, h1.1]
    rfl
  refine ⟨h2, ?_⟩
  unfold knowsR
  rw [if_pos h, if_pos h2]
  exact h1.2
theorem tells_has {T : Tl} (hz : TlZ T) {f : Int} {r : Rg} (h : knowsB (heardT T f r) f = true) (hm : mayR r = true) : belowR r (knowsR (heardT T f r) f) = true := by
  have hk := h
  unfold knowsB at hk
  rw [Bool.and_eq_true] at hk
  unfold knowsR
  rw [if_pos h]
  exact heard_has (by rw [hz.self]; exact hz.own) hk.1 hk.2 hm (by rw [hz.self]; exact Int.le_refl _)
/- Rounds. -/
def qB (S : Tl) (r : Rg) (j : Nat) : Bool := S.h j && belowR r (S.k j)
/-- Behind i turns: the order's rest, how often each was told. -/
def TellI (S : Tl) (r : Rg) (i : Nat) (o : List Int) (t : Nat → Int) : Prop := ∃ asked, AskInv i o asked ∧ ∀ j, t j = if qB S r j = true then 0 else asked j
theorem tell_zero (S : Tl) (r : Rg) : TellI S r 0 [] fun _ => 0 := ⟨fun _ => 0, .inl ⟨rfl, rfl, fun _ => rfl⟩, fun j => by split <;> rfl⟩
theorem tell_step {S : Tl} (hS : S.self = 0) {r : Rg} {i : Nat} {o : List Int} {t : Nat → Int} (h : TellI S r i o t) (draw : Int) :
    ∃ o', turnT ⟨S.self, o, S.h, S.k⟩ [1, 2, 3] draw = ⟨S.self, o', S.h, S.k⟩ ∧ ((turnA ⟨S.self, o, S.h, S.k⟩ r [1, 2, 3] draw = -1 ∧ TellI S r (i + 1) o' t) ∨ ∃ x : Nat, (x = 1 ∨ x = 2 ∨ x = 3) ∧ turnA ⟨S.self, o, S.h, S.k⟩ r [1, 2, 3] draw = (x : Int) ∧ TellI S r (i + 1) o' (upd t x (t x + 1)) ∧ t x + 1 ≤ ((i / 3 : Nat) : Int) + 1) := by
  obtain ⟨asked, hA, ht⟩ := h
  obtain ⟨x, o', hn, hx, hA'⟩ := ask_step hA draw
  have hO : turnO ⟨S.self, o, S.h, S.k⟩ [1, 2, 3] draw = (x, o') := by
    unfold turnO
    rw [hS]
    exact hn
  obtain ⟨m, rfl⟩ : ∃ m : Nat, x = (m : Int) := ⟨x.toNat, by
    simp only [List.mem_cons, List.not_mem_nil, or_false] at hx
    omega⟩
  have hm : m = 1 ∨ m = 2 ∨ m = 3 := by
    simp only [List.mem_cons, List.not_mem_nil, or_false] at hx
    omega
  refine ⟨o', ?_, ?_⟩
  · unfold turnT
    rw [hO]
  have hq : quietB ⟨S.self, o, S.h, S.k⟩ r (m : Int) = qB S r m := by
    unfold quietB qB
    rw [show decide ((m : Int) < 0) = false from decide_eq_false (by omega), Int.toNat_natCast]
    rfl
  cases hb : qB S r m
  · right
    refine ⟨m, hm, ?_, ⟨_, hA', fun j => ?_⟩, ?_⟩
    · unfold turnA
      rw [hO, hq, hb]
      rfl
    · by_cases e : j = m
      · subst e
        rw [show upd t j (t j + 1) j = t j + 1 from if_pos rfl, ht j, hb, if_neg (by simp), if_neg (by simp), if_pos rfl]
      · rw [show upd t m (t m + 1) j = t j from if_neg e, ht j, if_neg (show ¬ (j : Int) = (m : Int) by omega)]
    · have hc := (ask_count hA' hx).2.2 (by omega)
      rw [if_pos rfl, Nat.add_sub_cancel] at hc
      rw [ht m, hb, if_neg (by simp)]
      exact hc
  · left
    refine ⟨?_, _, hA', fun j => ?_⟩
    · unfold turnA
      rw [hO, hq, hb]
      rfl
    · rw [ht j]
      by_cases e : j = m
      · subst e
        rw [hb, if_pos rfl, if_pos rfl]
      · rw [if_neg (show ¬ (j : Int) = (m : Int) by omega)]
theorem tell_end {S : Tl} {r : Rg} {n : Nat} {o : List Int} {t : Nat → Int} (h : TellI S r n o t) {j : Nat} (hj : j = 1 ∨ j = 2 ∨ j = 3) : (qB S r j = true → t j = 0) ∧ (qB S r j = false → ((n / 3 : Nat) : Int) ≤ t j ∧ t j ≤ ((n / 3 : Nat) : Int) + 1) := by
  obtain ⟨asked, hA, ht⟩ := h
  have hc := ask_count hA (j := j) (by rcases hj with rfl | rfl | rfl <;> decide)
  refine ⟨fun q => ?_, fun q => ?_⟩
  · rw [ht j, if_pos q]
  · rw [ht j, q, if_neg (by simp)]
    exact ⟨hc.1, hc.2.1⟩
theorem tell_q {S : Tl} {r : Rg} {j : Nat} (hj : j < 8) (o : List Int) : knowsB ⟨S.self, o, S.h, S.k⟩ (j : Int) = S.h j ∧ (S.h j = true → knowsR ⟨S.self, o, S.h, S.k⟩ (j : Int) = S.k j) ∧ qB S r j = (S.h j && belowR r (knowsR ⟨S.self, o, S.h, S.k⟩ (j : Int))) := by
  have h1 : knowsB ⟨S.self, o, S.h, S.k⟩ (j : Int) = S.h j := by
    unfold knowsB
    rw [show nodeE (j : Int) = true from decide_eq_true (by omega), Int.toNat_natCast]
    rfl
  have h2 : S.h j = true → knowsR ⟨S.self, o, S.h, S.k⟩ (j : Int) = S.k j := fun q => by
    unfold knowsR
    rw [h1, if_pos q, Int.toNat_natCast]
  refine ⟨h1, h2, ?_⟩
  unfold qB
  cases q : S.h j
  · rfl
  · rw [h2 q]
end Go.Proofs.Ytnkchmafofpimaa
