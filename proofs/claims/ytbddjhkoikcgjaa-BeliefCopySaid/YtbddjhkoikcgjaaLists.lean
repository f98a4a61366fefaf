/- Lists of claims that a call has made itself; numbers taken modulo. -/
import Derived.Test.YtbddjhkoikcgjaaBel
import Derived.Test.YtbddjhkoikcgjaaHere
namespace Go.Proofs.Ytbddjhkoikcgjaa
open Go Go.RowKit

theorem cellsOf_at (xs : List Cl) : ∀ (k : Nat) (c : Cl), xs[k]? = some c → (cellsOf xs)[k * 3]? = some (.int .i64 c.n) ∧ (cellsOf xs)[k * 3 + 1]? = some (.int .i64 c.i) ∧ (cellsOf xs)[k * 3 + 2]? = some (.int .i64 c.h) := by
  induction xs with
  | nil => intro k c h; simp at h
  | cons x xs ih =>
    intro k c h
    cases k with
    | zero =>
      simp at h
      subst h
      exact ⟨rfl, rfl, rfl⟩
    | succ k =>
      have := ih k c (by simpa using h)
      have e : cellsOf (x :: xs) = [.int .i64 x.n, .int .i64 x.i, .int .i64 x.h] ++ cellsOf xs := rfl
      rw [e]
      refine ⟨?_, ?_, ?_⟩
      · rw [List.getElem?_append_right (by simp; omega)]
        simpa [show (k + 1) * 3 - 3 = k * 3 by omega] using this.1
      · rw [List.getElem?_append_right (by simp; omega)]
        simpa [show (k + 1) * 3 + 1 - 3 = k * 3 + 1 by omega] using this.2.1
      · rw [List.getElem?_append_right (by simp; omega)]
        simpa [show (k + 1) * 3 + 2 - 3 = k * 3 + 2 by omega] using this.2.2

theorem addr_at (g i : Nat) : (⟨g, 0, none⟩ : Addr).add i = ⟨g, i, none⟩ := by unfold Addr.add; split <;> simp_all

theorem addr_plus' (b o i : Nat) : (⟨b, o, none⟩ : Addr).add i = ⟨b, o + i, none⟩ := by unfold Addr.add; split <;> simp_all

theorem listAt_of_own {W : World} {base : Nat} {v : Value} {xs : List Cl} (h : W.ownsRow base 23 3 v xs.length (cellsOf xs)) : ListAt W v xs := by
  have hc := fun g (hg : v.ownBlock = some g) => h.cells hg
  have hlt := h.lt
  rcases h.2 with ⟨rfl, hn⟩ | ⟨g, cap, cur, rfl, hb, hg, _⟩
  · exact .inl ⟨List.eq_nil_of_length_eq_zero (by omega), none, 0, rfl⟩
  · refine .inr ⟨g, 0, cap, rfl, (hlt g rfl).2, fun k c hk => ?_⟩
    obtain ⟨h0, h1, h2⟩ := cellsOf_at xs k c hk
    have := hc g rfl
    simp only [addr_at] at this
    simp only [Nat.zero_add]
    exact ⟨this _ _ h0, this _ _ h1, this _ _ h2⟩

theorem own_below {W W' w : World} {base : Nat} {e : TypeId} {size : Nat} {v : Value} {k : Nat} {xs : List Value} {B : Nat} (hr : W.ownsRow base e size v k xs) (hB : Below B w W) (hg : W.grownBy W' v.ownBlock) (h1 : B ≤ W.heap.size) (h2 : B ≤ base) : Below B w W' :=
  hB.grown hg h1 (fun j e => Nat.le_trans h2 (hr.lt j e).1)

theorem mod_eight (n : Int) : ∃ k : Nat, k < 8 ∧ wrap64 ((IntKind.u64.wrap n).tmod 8) = (k : Int) := by
  have h0 : 0 ≤ IntKind.u64.wrap n := by
    unfold IntKind.wrap
    simp only [IntKind.signed, IntKind.bits, Bool.false_and, Bool.false_eq_true, if_false]
    exact Int.emod_nonneg _ (by decide)
  rw [Int.tmod_eq_emod_of_nonneg h0]
  refine ⟨((IntKind.u64.wrap n) % 8).toNat, by omega, ?_⟩
  unfold wrap64
  omega

theorem all_len (b : Nat) (V : Vw) (w : World) (h : ViewAt w b V) : Calls Try.prog 10 #[.pointer (some ⟨b, 0, none⟩)] w fun e w' => ∃ p cap, e = .returned (.slice p (saidV V).length cap) ∧ ∃ x : Later w, w' = x.w :=
  (all_any b V w h).mono fun _ _ ⟨v, he, ho, hb⟩ => by
    obtain ⟨p, cap, rfl⟩ := slice_of_own ho
    exact ⟨p, cap, he, Later.ex hb⟩
theorem any_on {P : Program} {f : FuncId} {args : Array Value} {k : Nat} {W : World} {y : Later W} (h : Calls P f args y.w fun e w' => ∃ p cap, e = .returned (.slice p k cap) ∧ ∃ x : Later y.w, w' = x.w) {Q : Ending → World → Prop} (hQ : ∀ p cap (x : Later W), Q (.returned (.slice p k cap)) x.w) : Calls P f args y.w Q :=
  h.mono fun _ _ ⟨p, cap, he, x, hx⟩ => by rw [he, hx]; exact hQ p cap ⟨x.w, y.below.trans (x.below.mono y.below.size)⟩
end Go.Proofs.Ytbddjhkoikcgjaa
