/- Who knows what, and whom to tell: without any program. -/
import Derived.Test.YtnkchmafofpimaaRgM
import Derived.Test.YtnkchmafofpimaaMOrdRef
namespace Go.Proofs.Ytnkchmafofpimaa

structure Tl where
  self : Int
  o : List Int
  h : Nat → Bool
  k : Nat → Rg
def newT (self : Int) : Tl := ⟨self, [], fun _ => false, fun _ => noR⟩
def hearB (self f : Int) (r : Rg) : Bool := nodeE f && (decide (f ≠ self) && mayR r)
def heardT (S : Tl) (f : Int) (r : Rg) : Tl := if hearB S.self f r = true then ⟨S.self, S.o, upd S.h f.toNat true, upd S.k f.toNat (joinR (S.k f.toNat) r)⟩ else S
/-- The same, as the reference does it: the first ring stays as it is. -/
def heardF (S : Tl) (f : Int) (r : Rg) : Tl := if hearB S.self f r = true then ⟨S.self, S.o, upd S.h f.toNat true, upd S.k f.toNat (if S.h f.toNat = true then joinR (S.k f.toNat) r else r)⟩ else S
def knowsB (S : Tl) (n : Int) : Bool := nodeE n && S.h n.toNat
def knowsR (S : Tl) (n : Int) : Rg := if knowsB S n = true then S.k n.toNat else noR
def turnO (S : Tl) (peers : List Int) (draw : Int) : Int × List Int := nextOf S.self S.o peers draw
def quietB (S : Tl) (r : Rg) (n : Int) : Bool := decide (n < 0) || (S.h n.toNat && belowR r (S.k n.toNat))
def turnA (S : Tl) (r : Rg) (peers : List Int) (draw : Int) : Int := if quietB S r (turnO S peers draw).1 = true then -1 else (turnO S peers draw).1
def turnT (S : Tl) (peers : List Int) (draw : Int) : Tl := ⟨S.self, (turnO S peers draw).2, S.h, S.k⟩
theorem hearB_iff {self f : Int} {r : Rg} : hearB self f r = true ↔ (0 ≤ f ∧ f < 8) ∧ f ≠ self ∧ mayR r = true := by
  unfold hearB nodeE
  rw [Bool.and_eq_true, Bool.and_eq_true, decide_eq_true_iff, decide_eq_true_iff]
/- Rings that are the same. -/
theorem eqR_self (a : Rg) : eqR a a := ⟨fun _ _ => rfl, rfl, fun _ _ => rfl⟩
theorem eqR_symm {a b : Rg} (h : eqR a b) : eqR b a := ⟨fun i hi => (h.1 i hi).symm, h.2.1.symm, fun i hi => (h.2.2 i hi).symm⟩
theorem eqR_trans {a b c : Rg} (h : eqR a b) (k : eqR b c) : eqR a c := ⟨fun i hi => (h.1 i hi).trans (k.1 i hi), h.2.1.trans k.2.1, fun i hi => (h.2.2 i hi).trans (k.2.2 i hi)⟩
theorem leR_eq {a b : Rg} (h : eqR a b) : leR a b := (leR_anti.2 h).1
theorem below_congr {r a b : Rg} (h : eqR a b) : belowR r a = belowR r b := by
  rw [Bool.eq_iff_iff, belowR_iff, belowR_iff]
  exact ⟨fun q => leR_trans q (leR_eq h), fun q => leR_trans q (leR_eq (eqR_symm h))⟩
theorem joinR_congr {a b r : Rg} (h : eqR a b) : eqR (joinR a r) (joinR b r) :=
  leR_anti.1 ⟨leR_lub.2 ⟨leR_trans (leR_eq h) (belowR_iff.1 (below_left b r)), belowR_iff.1 (below_right b r)⟩, leR_lub.2 ⟨leR_trans (leR_eq (eqR_symm h)) (belowR_iff.1 (below_left a r)), belowR_iff.1 (below_right a r)⟩⟩
theorem same_congr {a b c : Rg} (h : eqR a b) : sameR a c = sameR b c := by
  rw [Bool.eq_iff_iff, sameR_iff, sameR_iff]
  exact ⟨fun q => eqR_trans (eqR_symm h) q, fun q => eqR_trans h q⟩
/- What is heard. -/
theorem heard_rises (S : Tl) (f : Int) (r : Rg) {n : Nat} (h : S.h n = true) : (heardT S f r).h n = true ∧ belowR (S.k n) ((heardT S f r).k n) = true := by
  unfold heardT
  split
  · by_cases e : n = f.toNat
    · subst e
      refine ⟨if_pos rfl, ?_⟩
      show belowR _ (upd S.k f.toNat _ f.toNat) = true
      rw [show upd S.k f.toNat (joinR (S.k f.toNat) r) f.toNat = joinR (S.k f.toNat) r from if_pos rfl]
      exact below_left _ _
    · refine ⟨(if_neg e).trans h, ?_⟩
      show belowR _ (upd S.k f.toNat _ n) = true
      rw [show upd S.k f.toNat (joinR (S.k f.toNat) r) n = S.k n from if_neg e]
      exact belowR_iff.2 (leR_eq (eqR_self _))
  · exact ⟨h, belowR_iff.2 (leR_eq (eqR_self _))⟩
theorem heard_has {S : Tl} {f : Int} {r : Rg} (hs : S.h S.self.toNat = false) (hn : nodeE f = true) (h : (heardT S f r).h f.toNat = true) (hm : mayR r = true) (_h0 : 0 ≤ S.self) : belowR r ((heardT S f r).k f.toNat) = true := by
  have hn' : 0 ≤ f ∧ f < 8 := of_decide_eq_true hn
  unfold heardT at h ⊢
  by_cases hb : hearB S.self f r = true
  · rw [if_pos hb]
    show belowR r (upd S.k f.toNat _ f.toNat) = true
    rw [show upd S.k f.toNat (joinR (S.k f.toNat) r) f.toNat = joinR (S.k f.toNat) r from if_pos rfl]
    exact below_right _ _
  · rw [if_neg hb] at h
    exfalso
    refine hb (hearB_iff.2 ⟨hn', fun e => ?_, hm⟩)
    rw [e, hs] at h
    cases h
theorem heard_self {S : Tl} {f : Int} {r : Rg} (h : S.h S.self.toNat = false) (h0 : 0 ≤ S.self) : (heardT S f r).self = S.self ∧ (heardT S f r).h S.self.toNat = false := by
  unfold heardT
  by_cases hb : hearB S.self f r = true
  · rw [if_pos hb]
    have h1 := hearB_iff.1 hb
    refine ⟨rfl, ?_⟩
    show upd S.h f.toNat true S.self.toNat = false
    exact (if_neg (by omega)).trans h
  · rw [if_neg hb]
    exact ⟨rfl, h⟩
theorem heard_o (S : Tl) (f : Int) (r : Rg) : (heardT S f r).o = S.o := by
  unfold heardT
  split <;> rfl
/- Beside the reference. -/
structure SameT (S F : Tl) : Prop where
  self : S.self = F.self
  o : S.o = F.o
  h : ∀ n, S.h n = F.h n
  k : ∀ n, S.h n = true → eqR (S.k n) (F.k n)
  no : ∀ n, S.h n = false → S.k n = noR
theorem leE_zero {e : En} (h : mayE e = true) : cmpE (0, 0) e ≤ 0 := by
  have h1 := of_decide_eq_true h
  show orI (cmpI 0 e.1) (cmpI 0 e.2) ≤ 0
  rcases h1 with ⟨h1, h2⟩ | ⟨h1, _⟩
  · rw [h1, h2]; decide
  · have : cmpI 0 e.1 = -1 := by
      rcases cmpI_spec 0 e.1 with ⟨_, q⟩ | ⟨q, _⟩ | ⟨q, _⟩
      · exact q
      · omega
      · omega
    rw [this]
    unfold orI
    rw [if_pos (by decide)]
    decide
theorem leP_zero {p : Pl} (h : mayP p = true) : cmpP (0, 0, []) p ≤ 0 := by
  have hb := mayP_le h
  by_cases h0 : p.1 = 0
  · have he : p = (0, 0, []) := by
      unfold mayP noneB at h
      simp only [Bool.or_eq_true, Bool.and_eq_true, decide_eq_true_eq] at h
      rcases h with ⟨h1, h2, h3⟩ | ⟨⟨h1, _⟩, _⟩
      · obtain ⟨a, b, l⟩ := p
        have hl : l = [] := List.eq_nil_of_length_eq_zero (by have : ((l.length : Nat) : Int) = 0 := by simpa using h3
                                                              omega)
        dsimp only at h1 h2
        rw [h1, h2, hl]
      · omega
    rw [he]
    decide
  · show orI (cmpI 0 p.1) _ ≤ 0
    have : cmpI 0 p.1 = -1 := by
      rcases cmpI_spec 0 p.1 with ⟨_, q⟩ | ⟨q, _⟩ | ⟨q, _⟩
      · exact q
      · omega
      · omega
    rw [this]
    unfold orI
    rw [if_pos (by decide)]
    decide
theorem leR_zero {r : Rg} (h : mayR r = true) : leR noR r := by
  unfold mayR at h
  rw [Bool.and_eq_true, Bool.and_eq_true, all8, all16] at h
  exact ⟨fun i hi => (of_decide_eq_true (h.1 i hi)).1, leP_zero h.2.2, fun i hi => leE_zero (h.2.1 i hi)⟩
theorem join_no {r : Rg} (h : mayR r = true) : eqR (joinR noR r) r := leR_anti.1 ⟨leR_lub.2 ⟨leR_zero h, leR_eq (eqR_self r)⟩, belowR_iff.1 (below_right noR r)⟩
theorem same_new (self : Int) : SameT (newT self) (newT self) := ⟨rfl, rfl, fun _ => rfl, fun _ _ => eqR_self _, fun _ _ => rfl⟩
theorem same_heard {S F : Tl} (h : SameT S F) (f : Int) (r : Rg) : SameT (heardT S f r) (heardF F f r) := by
  unfold heardT heardF
  rw [h.self]
  by_cases hb : hearB F.self f r = true
  · rw [if_pos hb, if_pos hb]
    refine ⟨rfl, h.o, fun n => ?_, fun n hn => ?_, fun n hn => ?_⟩
    · show upd S.h _ _ n = upd F.h _ _ n
      unfold upd
      rw [h.h n]
    · show eqR (upd S.k _ _ n) (upd F.k _ _ n)
      by_cases e : n = f.toNat
      · subst e
        rw [show upd S.k f.toNat (joinR (S.k f.toNat) r) f.toNat = joinR (S.k f.toNat) r from if_pos rfl, show upd F.k f.toNat (if F.h f.toNat = true then joinR (F.k f.toNat) r else r) f.toNat = (if F.h f.toNat = true then joinR (F.k f.toNat) r else r) from if_pos rfl]
        cases hf : S.h f.toNat
        · rw [← h.h, hf, if_neg (by simp), h.no _ hf]
          exact join_no (hearB_iff.1 hb).2.2
        · rw [← h.h, hf, if_pos rfl]
          exact joinR_congr (h.k _ hf)
      · rw [show upd S.k f.toNat (joinR (S.k f.toNat) r) n = S.k n from if_neg e, show upd F.k f.toNat (if F.h f.toNat = true then joinR (F.k f.toNat) r else r) n = F.k n from if_neg e]
        refine h.k n ?_
        have h1 : upd S.h f.toNat true n = true := hn
        rwa [show upd S.h f.toNat true n = S.h n from if_neg e] at h1
    · have h1 : upd S.h f.toNat true n = false := hn
      by_cases e : n = f.toNat
      · rw [show upd S.h f.toNat true n = true from if_pos e] at h1
        cases h1
      · show upd S.k _ _ n = noR
        rw [show upd S.k f.toNat (joinR (S.k f.toNat) r) n = S.k n from if_neg e]
        rw [show upd S.h f.toNat true n = S.h n from if_neg e] at h1
        exact h.no n h1
  · rw [if_neg hb, if_neg hb]
    exact h
theorem same_quiet {S F : Tl} (h : SameT S F) (r : Rg) (n : Int) : quietB S r n = quietB F r n := by
  unfold quietB
  rw [← h.h]
  cases hn : S.h n.toNat
  · rfl
  · rw [below_congr (h.k _ hn)]
theorem same_turn {S F : Tl} (h : SameT S F) (r : Rg) (peers : List Int) (draw : Int) : turnA S r peers draw = turnA F r peers draw ∧ SameT (turnT S peers draw) (turnT F peers draw) := by
  have ho : turnO S peers draw = turnO F peers draw := by unfold turnO; rw [h.self, h.o]
  refine ⟨?_, ?_⟩
  · unfold turnA
    rw [ho, same_quiet h]
  · exact ⟨h.self, by show (turnO S peers draw).2 = (turnO F peers draw).2; rw [ho], h.h, h.k, h.no⟩
theorem same_knows {S F : Tl} (h : SameT S F) (n : Int) : knowsB S n = knowsB F n ∧ (knowsB S n = true → sameR (knowsR S n) (F.k n.toNat) = true) := by
  have h1 : knowsB S n = knowsB F n := by unfold knowsB; rw [h.h]
  refine ⟨h1, fun hk => ?_⟩
  unfold knowsR
  rw [if_pos hk]
  unfold knowsB at hk
  rw [Bool.and_eq_true] at hk
  exact sameR_iff.2 (h.k _ hk.2)
/- Who is told, round by round: peers 1, 2, 3 of node 0. -/
theorem peers3 : peersOf [1, 2, 3] 0 = [1, 2, 3] := by decide +kernel
theorem ask_first (draw : Int) : ∃ x r, nextOf 0 [] [1, 2, 3] draw = (x, r) ∧ x ∈ ([1, 2, 3] : List Int) ∧ RoundInv [1, 2, 3] 1 r (fun j => if (j : Int) = x then 1 else 0) := by
  obtain ⟨x, r, hx⟩ := round_head (P := [1, 2, 3]) (rest := []) (draw := draw) (by decide)
  refine ⟨x, r, ?_, RoundInv.first (by decide) (by decide) hx⟩
  unfold nextOf
  rw [peers3, if_neg (by decide), hx]
  rfl
theorem ask_next {t : Nat} {rest : List Int} {asked : Nat → Int} (h : RoundInv [1, 2, 3] t rest asked) (ht : 1 ≤ t) (draw : Int) : ∃ x r, nextOf 0 rest [1, 2, 3] draw = (x, r) ∧ x ∈ ([1, 2, 3] : List Int) ∧ RoundInv [1, 2, 3] (t + 1) r (fun j => if (j : Int) = x then asked j + 1 else asked j) := by
  obtain ⟨x, r, hx⟩ := round_head (P := [1, 2, 3]) (rest := rest) (draw := draw) (by decide)
  refine ⟨x, r, ?_, RoundInv.next h ht (by decide) (by decide) (by decide) hx⟩
  unfold nextOf
  rw [peers3, if_neg (by decide), hx]
  rfl
/-- Where the turns are: t of them, the order's rest, how often each was next. -/
def AskInv (t : Nat) (rest : List Int) (asked : Nat → Int) : Prop := (t = 0 ∧ rest = [] ∧ ∀ j, asked j = 0) ∨ (1 ≤ t ∧ RoundInv [1, 2, 3] t rest asked)
theorem ask_step {t : Nat} {rest : List Int} {asked : Nat → Int} (h : AskInv t rest asked) (draw : Int) : ∃ x r, nextOf 0 rest [1, 2, 3] draw = (x, r) ∧ x ∈ ([1, 2, 3] : List Int) ∧ AskInv (t + 1) r (fun j => if (j : Int) = x then asked j + 1 else asked j) := by
  rcases h with ⟨rfl, rfl, h0⟩ | ⟨ht, h⟩
  · obtain ⟨x, r, h1, h2, h3⟩ := ask_first draw
    refine ⟨x, r, h1, h2, .inr ⟨Nat.le_refl _, ?_⟩⟩
    have e : (fun j : Nat => if (j : Int) = x then asked j + 1 else asked j) = fun j : Nat => if (j : Int) = x then 1 else 0 := by
      funext j
      rw [h0 j]
      split <;> rfl
    rw [e]
    exact h3
  · obtain ⟨x, r, h1, h2, h3⟩ := ask_next h ht draw
    exact ⟨x, r, h1, h2, .inr ⟨by omega, h3⟩⟩
theorem ask_count {t : Nat} {rest : List Int} {asked : Nat → Int} (h : AskInv t rest asked) {j : Nat} (hj : (j : Int) ∈ ([1, 2, 3] : List Int)) : ((t / 3 : Nat) : Int) ≤ asked j ∧ asked j ≤ ((t / 3 : Nat) : Int) + 1 ∧ (1 ≤ t → asked j ≤ (((t - 1) / 3 : Nat) : Int) + 1) := by
  rcases h with ⟨rfl, _, h0⟩ | ⟨ht, h⟩
  · rw [h0 j]
    exact ⟨by decide, by decide, fun h => by omega⟩
  · have hc := h.count j hj
    have hl := h.len
    rw [show ([1, 2, 3] : List Int).length = 3 from rfl] at hc hl
    rw [hc]
    by_cases hz : t % 3 = 0
    · have hr : rest = [] := List.eq_nil_of_length_eq_zero (by omega)
      rw [hr, if_neg (by simp)]
      refine ⟨?_, ?_, fun _ => ?_⟩ <;> omega
    · split <;> refine ⟨?_, ?_, fun _ => ?_⟩ <;> omega
end Go.Proofs.Ytnkchmafofpimaa
