/- RgE: RgE, RgH, RgI. -/
import Derived.Test.YtcbnhakfijiioaaGreatRgK
import Derived.Test.YtcbnhakfijiioaaGreatRgL
namespace Go.Proofs.YtcbnhakfijiioaaGreat
section
open Go Go.RowKit Go.BigFrame
structure Hc where
 r : Rg
 p : Option Addr
 n : Nat
 c : Nat
def hvy : Nat → List Hc → Int
 | _, [] => 0
 | i, x :: l => if x.n ≤ 100 then hvy (i + 1) l else (i : Int) + 1
theorem hvy_end {l : List Hc} {k : Nat} (h : l.length ≤ k) : hvy k (l.drop k) = 0 := by
 rw [List.drop_eq_nil_of_le h]
 rfl
theorem hvy_step {l : List Hc} {k : Nat} {y : Hc} (h : l[k]? = some y) (hy : y.n ≤ 100) : hvy k (l.drop k) = hvy (k + 1) (l.drop (k + 1)) := by
 have h1 := (List.getElem?_eq_some_iff.1 h).1
 have h2 := (List.getElem?_eq_some_iff.1 h).2
 rw [List.drop_eq_getElem_cons h1, h2]
 exact if_pos hy
theorem hvy_stop {l : List Hc} {k : Nat} {y : Hc} (h : l[k]? = some y) (hy : ¬ y.n ≤ 100) : hvy k (l.drop k) = (k : Int) + 1 := by
 have h1 := (List.getElem?_eq_some_iff.1 h).1
 have h2 := (List.getElem?_eq_some_iff.1 h).2
 rw [List.drop_eq_getElem_cons h1, h2]
 exact if_neg hy
theorem rowOwnE {α : Type} {E : Elem Tryz.prog α} {v : Value} {xs : List α} : ∀ W H, (rowT E v xs).p W H → RowAt E W v xs := fun W H h => rowAt_src (rowT_reads W H h)
theorem hvy1 (x : Hc) : (x.n ≤ 100 ∧ hvy 0 [x] = 0) ∨ (¬ x.n ≤ 100 ∧ 0 < hvy 0 [x]) := by
 by_cases h : x.n ≤ 100
 ·exact .inl ⟨h, by simp [hvy, h]⟩
 ·exact .inr ⟨h, by simp [hvy, h]⟩
theorem hvy3 (x y z : Hc) : ((x.n ≤ 100 ∧ y.n ≤ 100 ∧ z.n ≤ 100) ∧ hvy 0 [x, y, z] = 0) ∨ (¬ (x.n ≤ 100 ∧ y.n ≤ 100 ∧ z.n ≤ 100) ∧ 0 < hvy 0 [x, y, z]) := by
 by_cases h : x.n ≤ 100
 ·by_cases h2 : y.n ≤ 100
  ·by_cases h3 : z.n ≤ 100
   ·exact .inl ⟨⟨h, h2, h3⟩, by simp [hvy, h, h2, h3]⟩
   ·exact .inr ⟨fun q => h3 q.2.2, by simp [hvy, h, h2, h3]⟩
  ·exact .inr ⟨fun q => h2 q.2.1, by simp [hvy, h, h2]⟩
 ·exact .inr ⟨fun q => h q.1, by simp [hvy, h]⟩
theorem ring_letter (p : Rg) : ∃ x, p = x := ⟨p, rfl⟩
theorem ringE_letters {β : Type} (p : Rg × β) : ∃ x e, p = (x, e) := ⟨p.1, p.2, rfl⟩
end
section
open Go Go.RowKit Go.BigFrame
theorem row_form0 {W : World} {v : Value} (h : SrcE elemI W v []) : ∃ p c, v = .slice p 0 c := row_form h
theorem mod_small (m : Int) (hm : 1 ≤ m) (hm2 : m ≤ 1000) (n : Int) : ∃ k : Nat, (k : Int) < m ∧ wrap64 ((IntKind.u64.wrap n).tmod m) = (k : Int) := by
 have h0 : 0 ≤ IntKind.u64.wrap n := by
  unfold IntKind.wrap
  simp only [IntKind.signed, IntKind.bits, Bool.false_and, Bool.false_eq_true, if_false]
  exact Int.emod_nonneg _ (by decide)
 rw [Int.tmod_eq_emod_of_nonneg h0]
 have h1 := Int.emod_nonneg (IntKind.u64.wrap n) (show m ≠ 0 by omega)
 have h2 := Int.emod_lt_of_pos (IntKind.u64.wrap n) (show 0 < m by omega)
 obtain ⟨r, hr⟩ : ∃ r, IntKind.u64.wrap n % m = r := ⟨_, rfl⟩
 rw [hr] at h1 h2 ⊢
 refine ⟨r.toNat, by omega, ?_⟩
 unfold wrap64
 omega
theorem node_nat {k : Nat} (h : k < 8) : nodeE (k : Int) = true := decide_eq_true (by omega)
theorem firstR_nat {k : Nat} (h : k < 8) : firstR (k : Int) = (oneR k, true) := by
 unfold firstR
 rw [if_pos (node_nat h), Int.toNat_natCast]
theorem firstR_out {k : Nat} : firstR (8 + (k : Int)) = (noR, false) := by
 unfold firstR
 rw [if_neg]
 intro h
 have := of_decide_eq_true h
 omega
theorem mayR_one {k : Nat} (h : k < 8) : mayR (oneR k) = true := by
 unfold mayR
 rw [Bool.and_eq_true, Bool.and_eq_true, all8, all16]
 refine ⟨fun j _ => ?_, fun j _ => ?_, show mayP (0, 0, []) = true by decide⟩
 ·show statB (if j = k then 2 else 0) = true
  split <;> decide
 ·exact decide_eq_true (show ((1 : Int) = 0 ∧ (k : Int) = 0) ∨ (1 ≤ (1 : Int) ∧ (1 : Int) ≤ 1000000 ∧ 0 ≤ (k : Int) ∧ (k : Int) < 8) by omega)
theorem firsts_s {a b : Nat} : (joinR (oneR a) (oneR b)).s a = 2 ∧ (joinR (oneR a) (oneR b)).s b = 2 := by
 constructor
 ·show max (if a = a then (2 : Int) else 0) (if a = b then 2 else 0) = 2
  rw [if_pos rfl]
  split <;> decide
 ·show max (if b = a then (2 : Int) else 0) (if b = b then 2 else 0) = 2
  rw [if_pos (rfl : b = b)]
  split <;> decide
theorem joinE_one {a b : Nat} : joinE (1, (a : Int)) (1, (b : Int)) = (1, if a < b then (b : Int) else (a : Int)) := by
 unfold joinE joinC cmpE
 rw [orI_next (show cmpI (1, (b : Int)).1 (1, (a : Int)).1 = 0 from rfl)]
 dsimp only
 rcases cmpI_spec (b : Int) a with ⟨h, e⟩ | ⟨h, e⟩ | ⟨h, e⟩ <;> rw [e]
 ·rw [if_neg (by decide), if_neg (by omega)]
 ·rw [if_neg (by decide), if_neg (by omega)]
 ·rw [if_pos (by decide), if_pos (by omega)]
theorem firsts_own {a b p : Nat} (ha : a < 8) (hb : b < 8) (hp : p < 16) : ownerR (joinR (oneR a) (oneR b)) (p : Int) = if a < b then (b : Int) else (a : Int) := by
 have h1 : (joinR (oneR a) (oneR b)).e p = (1, if a < b then (b : Int) else (a : Int)) := joinE_one
 unfold ownerR
 rw [Int.toNat_natCast, h1, if_pos]
 refine ⟨decide_eq_true (by omega), show (1 : Int) ≠ 0 by decide, decide_eq_true (.inr ?_)⟩
 dsimp only
 split <;> omega
theorem firsts_target {a b : Nat} (p : Int) : targetR (joinR (oneR a) (oneR b)) p = -1 := by
 unfold targetR
 rw [if_neg]
 rintro ⟨_, h, _⟩
 exact h rfl
theorem firsts_mov {a b : Nat} (n : Int) : movR (joinR (oneR a) (oneR b)) n = [] := by
 unfold movR
 rw [List.map_eq_nil_iff, List.filter_eq_nil_iff]
 intro p _ h
 have h1 := (of_decide_eq_true h).2.2.1
 rw [firsts_target] at h1
 omega
theorem firsts_same {a b : Nat} (ha : a < 8) : sameR (oneR a) (oneR b) = decide (a = b) := by
 rw [Bool.eq_iff_iff, sameR_iff, decide_eq_true_iff]
 constructor
 ·rintro ⟨h, _⟩
  have h1 : (if a = a then (2 : Int) else 0) = if a = b then 2 else 0 := h a ha
  rw [if_pos rfl] at h1
  split at h1
  ·assumption
  ·omega
 ·rintro rfl
  exact ⟨fun _ _ => rfl, rfl, fun _ _ => rfl⟩
end
section
open Go Go.RowKit Go.BigFrame
theorem hvy1m (a : Rg) (x : Hc) : (x.n ≤ 100 ∧ hvy 0 [x] = 0 ∧ mayR a = true) ∨ (x.n ≤ 100 ∧ hvy 0 [x] = 0 ∧ mayR a = false) ∨ (¬ x.n ≤ 100 ∧ 0 < hvy 0 [x]) := by
 rcases hvy1 x with ⟨h1, h2⟩ | h
 ·cases mayR a
  ·exact .inr (.inl ⟨h1, h2, rfl⟩)
  ·exact .inl ⟨h1, h2, rfl⟩
 ·exact .inr (.inr h)
theorem row_formN {W : World} {v : Value} {xs : List Int} {n : Nat} (hn : xs.length = n) (h : SrcE elemI W v xs) : ∃ p c, v = .slice p n c := by
 subst hn
 exact row_form h
def cntL (a : Rg) (s : Nat) : Nat := (List.range 8).countP fun i => decide (a.s i < (s : Int))
theorem cnt_step (a : Rg) (s : Nat) : ∀ l : List Nat, (l.countP fun i => decide (a.s i < ((s + 1 : Nat) : Int))) = (l.countP fun i => decide (a.s i < (s : Int))) + (l.filter fun i => decide ((s : Int) ≤ a.s i ∧ a.s i ≤ (s : Int))).length
 | [] => rfl
 | x :: l => by
  have ih := cnt_step a s l
  rw [List.countP_cons, List.countP_cons, List.filter_cons, ih]
  by_cases h1 : a.s x < (s : Int)
  ·rw [decide_eq_true h1, decide_eq_true (show a.s x < ((s + 1 : Nat) : Int) by omega), decide_eq_false (show ¬ ((s : Int) ≤ a.s x ∧ a.s x ≤ (s : Int)) by omega)]
   simp only [if_true, Bool.false_eq_true, if_false]
   omega
  ·by_cases h2 : a.s x = (s : Int)
   ·rw [decide_eq_false h1, decide_eq_true (show a.s x < ((s + 1 : Nat) : Int) by omega), decide_eq_true (show (s : Int) ≤ a.s x ∧ a.s x ≤ (s : Int) by omega)]
    simp only [if_true, Bool.false_eq_true, if_false, List.length_cons]
    omega
   ·rw [decide_eq_false h1, decide_eq_false (show ¬ a.s x < ((s + 1 : Nat) : Int) by omega), decide_eq_false (show ¬ ((s : Int) ≤ a.s x ∧ a.s x ≤ (s : Int)) by omega)]
    simp only [Bool.false_eq_true, if_false]
    omega
theorem cntL_step (a : Rg) (s : Nat) : cntL a (s + 1) = cntL a s + (ofR a s s).length := by
 unfold ofR
 rw [List.length_map]
 exact cnt_step a s _
theorem cntL_le (a : Rg) (s : Nat) : cntL a s ≤ 8 := Nat.le_trans List.countP_le_length (by simp)
theorem cntL_zero {a : Rg} (h : mayR a = true) : cntL a 0 = 0 := by
 unfold cntL
 rw [List.countP_eq_zero]
 intro i hi
 unfold mayR at h
 rw [Bool.and_eq_true, all8] at h
 have := of_decide_eq_true (h.1 i (List.mem_range.1 hi))
 simp
 omega
theorem may_stat {a : Rg} (h : mayR a = true) {i : Nat} (hi : i < 8) : 0 ≤ a.s i ∧ a.s i ≤ 4 := by
 unfold mayR at h
 rw [Bool.and_eq_true, all8] at h
 exact of_decide_eq_true (h.1 i hi)
theorem cntL_all {a : Rg} (h : mayR a = true) : cntL a 5 = 8 := by
 unfold cntL
 have h1 : (List.range 8).countP (fun i => decide (a.s i < ((5 : Nat) : Int))) = (List.range 8).length := by
  rw [List.countP_eq_length]
  intro i hi
  have := may_stat h (List.mem_range.1 hi)
  exact decide_eq_true (by omega)
 rw [h1, List.length_range]
theorem ofR_all {a : Rg} (h : mayR a = true) : (ofR a 0 4).length = 8 := by
 unfold ofR
 rw [List.length_map, List.filter_eq_self.2, List.length_range]
 intro i hi
 exact decide_eq_true (may_stat h (List.mem_range.1 hi))
theorem ofR_none {a : Rg} {f t : Int} (h : ¬ f ≤ t) : ofR a f t = [] := by
 unfold ofR
 rw [List.map_eq_nil_iff, List.filter_eq_nil_iff]
 intro i _ h1
 have := of_decide_eq_true h1
 omega
theorem ofR_le (a : Rg) (f t : Int) : (ofR a f t).length ≤ 8 := by
 unfold ofR
 rw [List.length_map]
 exact Nat.le_trans (List.length_filter_le _ _) (by simp)
theorem ofR_at {a : Rg} {f t x : Int} {j : Nat} (h : (ofR a f t)[j]? = some x) : ∃ m : Nat, x = (m : Int) ∧ m < 8 ∧ f ≤ a.s m ∧ a.s m ≤ t := by
 have hm := List.mem_of_getElem? h
 unfold ofR at hm
 rw [List.mem_map] at hm
 obtain ⟨m, hm, rfl⟩ := hm
 rw [List.mem_filter] at hm
 have h2 := of_decide_eq_true hm.2
 exact ⟨m, rfl, List.mem_range.1 hm.1, h2.1, h2.2⟩
theorem ofR_asc (a : Rg) (f t : Int) : (ofR a f t).Pairwise (· < ·) := by
 unfold ofR
 rw [List.pairwise_map]
 refine List.Pairwise.imp ?_ (List.Pairwise.filter _ (List.pairwise_lt_range (n := 8)))
 intro x y h
 omega
theorem ofR_next {a : Rg} {f t x y : Int} {j : Nat} (hx : (ofR a f t)[j]? = some x) (hy : (ofR a f t)[j + 1]? = some y) : x < y := by
 obtain ⟨h1, e1⟩ := List.getElem?_eq_some_iff.1 hx
 obtain ⟨h2, e2⟩ := List.getElem?_eq_some_iff.1 hy
 have h3 := List.pairwise_iff_getElem.1 (ofR_asc a f t) j (j + 1) h1 h2 (by omega)
 rwa [e1, e2] at h3
end
end Go.Proofs.YtcbnhakfijiioaaGreat
