/- SameClaims: two lists of the same claims. -/
import Derived.Test.YtlcmehighgmoeaaClList
import Derived.LoopTactic
import Derived.BigQuiet
import Derived.Deep.Cut
namespace Go.Proofs.Ytlcmehighgmoeaa
open Go Go.RowKit

/-- A slice of claims: its list. -/
def ListAt (W : World) (v : Value) (l : List Cl) : Prop :=
  (l = [] ∧ ∃ p cap, v = .slice p 0 cap) ∨ ∃ b o cap, v = .slice (some ⟨b, o, none⟩) l.length cap ∧ b < W.heap.size ∧ ∀ k c, l[k]? = some c → W.cell? ⟨b, o + k * 3, none⟩ = some (.int .i64 c.n) ∧ W.cell? ⟨b, o + k * 3 + 1, none⟩ = some (.int .i64 c.i) ∧ W.cell? ⟨b, o + k * 3 + 2, none⟩ = some (.int .i64 c.h)
theorem ListAt.below {W W' : World} {v : Value} {l : List Cl} (h : ListAt W v l) (hb : Below W.heap.size W W') : ListAt W' v l := by
  rcases h with h | ⟨b, o, cap, hv, hlt, hc⟩
  · exact .inl h
  · exact .inr ⟨b, o, cap, hv, Nat.lt_of_lt_of_le hlt hb.size, fun k c hk => by
      obtain ⟨a0, a1, a2⟩ := hc k c hk
      exact ⟨(hb.cell (p := ⟨b, _, none⟩) hlt).trans a0, (hb.cell (p := ⟨b, _, none⟩) hlt).trans a1, (hb.cell (p := ⟨b, _, none⟩) hlt).trans a2⟩⟩
theorem cellsOf_at (xs : List Cl) : ∀ (k : Nat) (c : Cl), xs[k]? = some c → (cellsOf xs)[k * 3]? = some (.int .i64 c.n) ∧ (cellsOf xs)[k * 3 + 1]? = some (.int .i64 c.i) ∧ (cellsOf xs)[k * 3 + 2]? = some (.int .i64 c.h) := by
  induction xs with
  | nil => intro k c h; simp at h
  | cons x xs ih =>
    intro k c h
    cases k with
    | zero =>
      simp at h
      subst h
      exact ⟨rfl, rfl, rfl⟩
    | succ k =>
      have := ih k c (by simpa using h)
      have e : cellsOf (x :: xs) = [.int .i64 x.n, .int .i64 x.i, .int .i64 x.h] ++ cellsOf xs := rfl
      rw [e]
      refine ⟨?_, ?_, ?_⟩
      · rw [List.getElem?_append_right (by simp; omega)]
        simpa [show (k + 1) * 3 - 3 = k * 3 by omega] using this.1
      · rw [List.getElem?_append_right (by simp; omega)]
        simpa [show (k + 1) * 3 + 1 - 3 = k * 3 + 1 by omega] using this.2.1
      · rw [List.getElem?_append_right (by simp; omega)]
        simpa [show (k + 1) * 3 + 2 - 3 = k * 3 + 2 by omega] using this.2.2
theorem listAt_of_own {W : World} {base : Nat} {v : Value} {xs : List Cl} (h : W.ownsRow base 28 3 v xs.length (cellsOf xs)) : ListAt W v xs := by
  have hc := fun g (hg : v.ownBlock = some g) => h.cells hg
  have hlt := h.lt
  rcases h.2 with ⟨rfl, hn⟩ | ⟨g, cap, cur, rfl, hb, hg, _⟩
  · exact .inl ⟨List.eq_nil_of_length_eq_zero (by omega), none, 0, rfl⟩
  · refine .inr ⟨g, 0, cap, rfl, (hlt g rfl).2, fun k c hk => ?_⟩
    obtain ⟨h0, h1, h2⟩ := cellsOf_at xs k c hk
    have := hc g rfl
    simp only [addr_at] at this
    simp only [Nat.zero_add]
    exact ⟨this _ _ h0, this _ _ h1, this _ _ h2⟩
theorem ListAt.form {W : World} {v : Value} {l : List Cl} (h : ListAt W v l) : ∃ p cap, v = .slice p l.length cap ∧ (l = [] ∨ ∃ b o, p = some ⟨b, o, none⟩ ∧ b < W.heap.size ∧ ∀ k c, l[k]? = some c → W.cell? ⟨b, o + k * 3, none⟩ = some (.int .i64 c.n) ∧ W.cell? ⟨b, o + k * 3 + 1, none⟩ = some (.int .i64 c.i) ∧ W.cell? ⟨b, o + k * 3 + 2, none⟩ = some (.int .i64 c.h)) := by
  rcases h with ⟨rfl, p, cap, rfl⟩ | ⟨b, o, cap, rfl, hlt, hc⟩
  · exact ⟨_, _, rfl, .inl rfl⟩
  · exact ⟨_, _, rfl, .inr ⟨b, o, rfl, hlt, hc⟩⟩

set_option maxHeartbeats 800000 in
set_option maxRecDepth 100000 in
theorem same_any (v u : Value) (l : List Cl) (w : World) (hv : ListAt w v l) (hu : ListAt w u l) (hl : l.length ≤ 1000) : Gives Try.prog 11 #[v, u] w (.bool true) := by
  unfold Gives
  obtain ⟨p, cap, rfl, hp⟩ := hv.form
  obtain ⟨r, cap', rfl, hr⟩ := hu.form
  have HP := Lib.hid hp
  have HR := Lib.hid hr
  clear hv hu hp hr
  go_enter Try.func11, Try.ntmps11
  go_wp2_with fail
  go_loopw [5, 13] (fun _ i wr => ∃ k : Nat, k ≤ l.length ∧ i = .int .i64 k ∧ ∃ x : Later w, wr = x.w) (fun _ i _ => l.length - (intOf i).toNat)
  case atStart => exact ⟨0, by omega, rfl, ⟨w, Below.refl _ _⟩, rfl⟩
  case round =>
    obtain ⟨k, hk, rfl, x, rfl⟩ := hrel
    by_cases hkl : k < l.length
    · obtain ⟨⟨m, i, s⟩, hkc⟩ : ∃ c, l[k]? = some c := ⟨_, List.getElem?_eq_getElem hkl⟩
      rcases HP.out with h0 | ⟨b, o, rfl, hlt, hc⟩
      · rw [h0] at hkl; simp at hkl
      rcases HR.out with h0 | ⟨b', o', rfl, hlt', hc'⟩
      · rw [h0] at hkl; simp at hkl
      obtain ⟨a0, a1, a2⟩ := hc k _ hkc
      obtain ⟨c0, c1, c2⟩ := hc' k _ hkc
      clear hc hc' hkc
      go_upto_region 6 with fail
      go_quiet (fail)
      go_wp2_with fail
      go_roundw
      case rel => exact ⟨k + 1, by omega, by go_num, Later.ex (ext_drewN x.below _)⟩
      case measure => simp [intOf]; omega
    · obtain rfl : k = l.length := by omega
      go_wp2_with fail
      go_ret
      exact ⟨rfl, Later.ex x.below⟩
end Go.Proofs.Ytlcmehighgmoeaa
