/- RgM: PlaM, RgM. -/
import Derived.Test.YtcbnhakfijiioaaGreatProg
import Derived.Lib.Small
namespace Go.Proofs.YtcbnhakfijiioaaGreat
section
open Go
def cmpI (a b : Int) : Int := if a < b then -1 else if b < a then 1 else 0
def orI (a b : Int) : Int := if a ≠ 0 then a else b
theorem cmpI_spec (a b : Int) : (a < b ∧ cmpI a b = -1) ∨ (a = b ∧ cmpI a b = 0) ∨ (b < a ∧ cmpI a b = 1) := by
 unfold cmpI
 split
 ·exact .inl ⟨by assumption, rfl⟩
 ·split
  ·exact .inr (.inr ⟨by assumption, rfl⟩)
  ·exact .inr (.inl ⟨by omega, rfl⟩)
theorem cmpI_zero (a b : Int) : cmpI a b = 0 ↔ a = b := by
 rcases cmpI_spec a b with ⟨h, e⟩ | ⟨h, e⟩ | ⟨h, e⟩ <;> rw [e] <;> constructor <;> intro h1 <;> omega
theorem orI_zero (a b : Int) : orI a b = 0 ↔ a = 0 ∧ b = 0 := by
 unfold orI
 split <;> constructor <;> intro h <;> omega
theorem orI_nil (a : Int) : orI a 0 = a := by
 unfold orI
 split <;> omega
theorem orI_self {a b : Int} (h : a ≠ 0) : orI a b = a := if_pos h
theorem orI_next {a b : Int} (h : a = 0) : orI a b = b := if_neg (by omega)
structure Cmp {α : Type} (c : α → α → Int) : Prop where
 neg : ∀ a b, c a b = -c b a
 bnd : ∀ a b, -1 ≤ c a b ∧ c a b ≤ 1
 trans : ∀ {a b d}, c a b ≤ 0 → c b d ≤ 0 → c a d ≤ 0
section
variable {α β : Type} {c d : α → α → Int}
theorem Cmp.self (h : Cmp c) (a : α) : c a a = 0 := by
 have := h.neg a a
 omega
theorem Cmp.lt (h : Cmp c) {a b e : α} (h1 : c a b < 0) (h2 : c b e ≤ 0) : c a e < 0 := by
 by_cases h0 : c a e < 0
 ·exact h0
 have n1 := h.neg a e
 have n2 := h.neg a b
 have h3 : c b a ≤ 0 := h.trans h2 (by omega)
 omega
theorem Cmp.lt' (h : Cmp c) {a b e : α} (h1 : c a b ≤ 0) (h2 : c b e < 0) : c a e < 0 := by
 by_cases h0 : c a e < 0
 ·exact h0
 have n1 := h.neg a e
 have n2 := h.neg b e
 have h3 : c e b ≤ 0 := h.trans (by omega) h1
 omega
theorem Cmp.lex_trans (h : Cmp c) {a b e : α} {x y z : Int} (hx : x ≤ 0 → y ≤ 0 → z ≤ 0) (h1 : orI (c a b) x ≤ 0) (h2 : orI (c b e) y ≤ 0) : orI (c a e) z ≤ 0 := by
 have k1 : c a b ≤ 0 := by unfold orI at h1; split at h1 <;> omega
 have k2 : c b e ≤ 0 := by unfold orI at h2; split at h2 <;> omega
 by_cases q1 : c a b < 0
 ·have := h.lt q1 k2
  rw [orI_self (by omega)]
  omega
 by_cases q2 : c b e < 0
 ·have := h.lt' k1 q2
  rw [orI_self (by omega)]
  omega
 have k3 : c a e ≤ 0 := h.trans k1 k2
 have n1 := h.neg a b
 have n2 := h.neg b e
 have n3 := h.neg a e
 have k4 : c e a ≤ 0 := h.trans (b := b) (by omega) (by omega)
 rw [orI_next (by omega)] at h1 h2 ⊢
 exact hx h1 h2
theorem orI_neg {a b x y : Int} (h1 : a = -b) (h2 : x = -y) : orI a x = -orI b y := by
 unfold orI
 split <;> split <;> omega
theorem orI_bnd {a x : Int} (h1 : -1 ≤ a ∧ a ≤ 1) (h2 : -1 ≤ x ∧ x ≤ 1) : -1 ≤ orI a x ∧ orI a x ≤ 1 := by
 unfold orI
 split <;> assumption
theorem Cmp.lex (hc : Cmp c) (hd : Cmp d) : Cmp fun a b => orI (c a b) (d a b) where
 neg a b := orI_neg (hc.neg a b) (hd.neg a b)
 bnd a b := orI_bnd (hc.bnd a b) (hd.bnd a b)
 trans h1 h2 := hc.lex_trans (fun k1 k2 => hd.trans k1 k2) h1 h2
theorem Cmp.key (hc : Cmp c) (f : β → α) : Cmp fun a b => c (f a) (f b) where
 neg _a _b := hc.neg _ _
 bnd _a _b := hc.bnd _ _
 trans h1 h2 := hc.trans h1 h2
theorem cmpI_cmp : Cmp cmpI where
 neg a b := by
  rcases cmpI_spec a b with ⟨h, e⟩ | ⟨h, e⟩ | ⟨h, e⟩ <;> rcases cmpI_spec b a with ⟨h', e'⟩ | ⟨h', e'⟩ | ⟨h', e'⟩ <;> omega
 bnd a b := by
  rcases cmpI_spec a b with ⟨h, e⟩ | ⟨h, e⟩ | ⟨h, e⟩ <;> omega
 trans {a b d} h1 h2 := by
  rcases cmpI_spec a b with ⟨h, e⟩ | ⟨h, e⟩ | ⟨h, e⟩ <;> rcases cmpI_spec b d with ⟨h', e'⟩ | ⟨h', e'⟩ | ⟨h', e'⟩ <;> rcases cmpI_spec a d with ⟨h3, e3⟩ | ⟨h3, e3⟩ | ⟨h3, e3⟩ <;> omega
def cmpL : List Int → List Int → Int
 | [], [] => 0
 | [], _ :: _ => -1
 | _ :: _, [] => 1
 | x :: xs, y :: ys => orI (cmpI x y) (cmpL xs ys)
theorem cmpL_neg : ∀ a b, cmpL a b = -cmpL b a
 | [], [] => rfl
 | [], _ :: _ => rfl
 | _ :: _, [] => rfl
 | x :: xs, y :: ys => orI_neg (cmpI_cmp.neg x y) (cmpL_neg xs ys)
theorem cmpL_bnd : ∀ a b, -1 ≤ cmpL a b ∧ cmpL a b ≤ 1
 | [], [] => by decide
 | [], _ :: _ => by show (-1 : Int) ≤ -1 ∧ (-1 : Int) ≤ 1; decide
 | _ :: _, [] => by show (-1 : Int) ≤ 1 ∧ (1 : Int) ≤ 1; decide
 | x :: xs, y :: ys => orI_bnd (cmpI_cmp.bnd x y) (cmpL_bnd xs ys)
theorem cmpL_trans : ∀ {a b d : List Int}, cmpL a b ≤ 0 → cmpL b d ≤ 0 → cmpL a d ≤ 0
 | [], _, [], _, _ => by show (0 : Int) ≤ 0; decide
 | [], _, _ :: _, _, _ => by show (-1 : Int) ≤ 0; decide
 | _ :: _, [], _, h, _ => absurd (show (1 : Int) ≤ 0 from h) (by decide)
 | _ :: _, _ :: _, [], _, h => absurd (show (1 : Int) ≤ 0 from h) (by decide)
 | x :: xs, y :: ys, z :: zs, h1, h2 => cmpI_cmp.lex_trans (fun k1 k2 => cmpL_trans k1 k2) h1 h2
theorem cmpL_zero : ∀ a b, cmpL a b = 0 ↔ a = b
 | [], [] => by simp [cmpL]
 | [], _ :: _ => by simp [cmpL]
 | _ :: _, [] => by simp [cmpL]
 | x :: xs, y :: ys => by
  show orI (cmpI x y) (cmpL xs ys) = 0 ↔ _
  rw [orI_zero, cmpI_zero, cmpL_zero xs ys, List.cons.injEq]
theorem cmpL_cmp : Cmp cmpL := ⟨cmpL_neg, cmpL_bnd, cmpL_trans⟩
def joinC (c : α → α → Int) (a b : α) : α := if 0 < c b a then b else a
theorem joinC_or (a b : α) : joinC c a b = a ∨ joinC c a b = b := by
 unfold joinC
 split
 ·exact .inr rfl
 ·exact .inl rfl
theorem Cmp.join_le (h : Cmp c) (a b : α) : c a (joinC c a b) ≤ 0 ∧ c b (joinC c a b) ≤ 0 := by
 unfold joinC
 have hn := h.neg a b
 split
 ·exact ⟨by omega, by rw [h.self]; omega⟩
 ·exact ⟨by rw [h.self]; omega, by omega⟩
theorem joinC_self (a : α) : joinC c a a = a := by
 unfold joinC
 split <;> rfl
theorem Cmp.anti (h : Cmp c) (hz : ∀ a b, c a b = 0 → a = b) {a b : α} (h1 : c a b ≤ 0) (h2 : c b a ≤ 0) : a = b := hz _ _ (by have := h.neg a b; omega)
theorem Cmp.join_comm (h : Cmp c) (hz : ∀ a b, c a b = 0 → a = b) (a b : α) : joinC c a b = joinC c b a := by
 have h1 := h.join_le a b
 have h2 := h.join_le b a
 refine h.anti hz ?_ ?_
 ·rcases joinC_or (c := c) a b with e | e <;> rw [e]
  ·exact h2.2
  ·exact h2.1
 ·rcases joinC_or (c := c) b a with e | e <;> rw [e]
  ·exact h1.2
  ·exact h1.1
theorem Cmp.join_assoc (h : Cmp c) (hz : ∀ a b, c a b = 0 → a = b) (a b e : α) : joinC c (joinC c a b) e = joinC c a (joinC c b e) := by
 have h1 := h.join_le a b
 have h2 := h.join_le (joinC c a b) e
 have h3 := h.join_le b e
 have h4 := h.join_le a (joinC c b e)
 have ka := h.trans h1.1 h2.1
 have kb := h.trans h1.2 h2.1
 have ke := h2.2
 have ja := h4.1
 have jb := h.trans h3.1 h4.2
 have je := h.trans h3.2 h4.2
 refine h.anti hz ?_ ?_
 ·rcases joinC_or (c := c) (joinC c a b) e with q | q
  ·rcases joinC_or (c := c) a b with q2 | q2 <;> rw [q, q2] <;> assumption
  ·rw [q]
   assumption
 ·rcases joinC_or (c := c) a (joinC c b e) with q | q
  ·rw [q]
   assumption
  ·rcases joinC_or (c := c) b e with q2 | q2 <;> rw [q, q2] <;> assumption
theorem joinC_left {a b : α} (h : c b a ≤ 0) : joinC c a b = a := if_neg (by omega)
end
abbrev Pl : Type := Int × Int × List Int
def nodeE (n : Int) : Bool := decide (0 ≤ n ∧ n < 8)
def tgtL (t : List Int) : Bool := decide (t.length = 16) && t.all nodeE
def noneB (v b : Int) (n : Nat) : Bool := decide (v = 0 ∧ b = 0 ∧ n = 0)
def mayP (x : Pl) : Bool := noneB x.1 x.2.1 x.2.2.length || (decide (1 ≤ x.1 ∧ x.1 ≤ 1000000) && nodeE x.2.1 && tgtL x.2.2)
def cmpP (a b : Pl) : Int := orI (cmpI a.1 b.1) (orI (cmpI a.2.1 b.2.1) (orI (cmpI a.2.2.length b.2.2.length) (cmpL a.2.2 b.2.2)))
def joinP (a b : Pl) : Pl := joinC cmpP a b
def nextP (x : Pl) (n : Int) (t : List Int) : Pl × Int := if mayP x = true ∧ nodeE n = true ∧ tgtL t = true then (if x.1 = 1000000 then ((0, 0, []), 6) else ((x.1 + 1, n, t), 0)) else ((0, 0, []), 1)
theorem cmpP_cmp : Cmp cmpP := (cmpI_cmp.key fun a : Pl => a.1).lex ((cmpI_cmp.key fun a : Pl => a.2.1).lex ((cmpI_cmp.key fun a : Pl => (a.2.2.length : Int)).lex (cmpL_cmp.key fun a : Pl => a.2.2)))
theorem cmpP_zero (a b : Pl) : cmpP a b = 0 ↔ a = b := by
 obtain ⟨a1, a2, s⟩ := a
 obtain ⟨b1, b2, t⟩ := b
 unfold cmpP
 rw [orI_zero, orI_zero, orI_zero, cmpI_zero, cmpI_zero, cmpI_zero, cmpL_zero]
 constructor
 ·rintro ⟨h1, h2, _, h4⟩
  dsimp only at h1 h2 h4
  rw [h1, h2, h4]
 ·intro h
  simp only [Prod.mk.injEq] at h
  obtain ⟨h1, h2, h3⟩ := h
  subst h1 h2 h3
  exact ⟨rfl, rfl, rfl, rfl⟩
theorem cmpP_eq {a b : Pl} (h : cmpP a b = 0) : a = b := (cmpP_zero a b).1 h
theorem joinP_comm (a b : Pl) : joinP a b = joinP b a := cmpP_cmp.join_comm (fun _ _ => cmpP_eq) a b
theorem joinP_assoc (a b c : Pl) : joinP (joinP a b) c = joinP a (joinP b c) := cmpP_cmp.join_assoc (fun _ _ => cmpP_eq) a b c
theorem joinP_self (a : Pl) : joinP a a = a := joinC_self a
theorem joinP_or (a b : Pl) : joinP a b = a ∨ joinP a b = b := joinC_or a b
theorem joinP_le (a b : Pl) : cmpP a (joinP a b) ≤ 0 ∧ cmpP b (joinP a b) ≤ 0 := cmpP_cmp.join_le a b
theorem joinP_len {a b j : Pl} {n : Nat} (h : joinP a b = j) (ha : a.2.2.length ≤ n) (hb : b.2.2.length ≤ n) : j.2.2.length ≤ n := by
 subst h
 rcases joinP_or a b with e | e <;> rw [e] <;> assumption
theorem cmpP_v {a b : Pl} (h : b.1 < a.1) : cmpP a b = 1 := by
 unfold cmpP
 rcases cmpI_spec a.1 b.1 with ⟨h1, e⟩ | ⟨h1, e⟩ | ⟨h1, e⟩
 ·omega
 ·omega
 ·rw [e]; rfl
theorem cmpP_b {a b : Pl} (h0 : a.1 = b.1) (h : b.2.1 < a.2.1) : cmpP a b = 1 := by
 unfold cmpP
 rw [orI_next ((cmpI_zero _ _).2 h0)]
 rcases cmpI_spec a.2.1 b.2.1 with ⟨h1, e⟩ | ⟨h1, e⟩ | ⟨h1, e⟩
 ·omega
 ·omega
 ·rw [e]; rfl
theorem mayP_le {x : Pl} (h : mayP x = true) : 0 ≤ x.1 ∧ x.1 ≤ 1000000 := by
 unfold mayP noneB at h
 simp only [Bool.or_eq_true, Bool.and_eq_true, decide_eq_true_eq] at h
 rcases h with ⟨h, _⟩ | ⟨⟨h, _⟩, _⟩ <;> omega
theorem tgtL_len {t : List Int} (h : tgtL t = true) : t.length = 16 := by
 unfold tgtL at h
 simp only [Bool.and_eq_true, decide_eq_true_eq] at h
 exact h.1
theorem tgtL_no {t : List Int} {k : Nat} {x : Int} (h : t[k]? = some x) (hx : nodeE x = false) : tgtL t = false := by
 unfold tgtL
 rw [Bool.and_eq_false_iff]
 refine .inr ?_
 rw [List.all_eq_false]
 exact ⟨x, List.mem_of_getElem? h, by simp [hx]⟩
theorem all_step {t : List Int} {k : Nat} {x : Int} (h : t[k]? = some x) : (t.take (k + 1)).all nodeE = ((t.take k).all nodeE && nodeE x) := by
 rw [List.take_add_one, h]
 simp
theorem mayP_next {x : Pl} {n : Int} {t : List Int} (h1 : mayP x = true) (h2 : nodeE n = true) (h3 : tgtL t = true) (h4 : x.1 ≠ 1000000) : mayP (x.1 + 1, n, t) = true := by
 have hb := mayP_le h1
 unfold mayP
 dsimp only
 rw [h2, h3, decide_eq_true (show 1 ≤ x.1 + 1 ∧ x.1 + 1 ≤ 1000000 by omega)]
 simp
theorem nextP_cases (x : Pl) (n : Int) (t : List Int) : (mayP x = false ∧ nextP x n t = ((0, 0, []), 1)) ∨ (mayP x = true ∧ nodeE n = false ∧ nextP x n t = ((0, 0, []), 1)) ∨ (mayP x = true ∧ nodeE n = true ∧ tgtL t = false ∧ nextP x n t = ((0, 0, []), 1)) ∨ (mayP x = true ∧ nodeE n = true ∧ tgtL t = true ∧ x.1 = 1000000 ∧ nextP x n t = ((0, 0, []), 6)) ∨ (mayP x = true ∧ nodeE n = true ∧ tgtL t = true ∧ x.1 ≠ 1000000 ∧ nextP x n t = ((x.1 + 1, n, t), 0)) := by
 unfold nextP
 cases mayP x <;> cases nodeE n <;> cases tgtL t <;> simp
 exact Classical.em _
theorem nextP_len {x : Pl} {n : Int} {t : List Int} {f : Pl} {e : Int} (h : nextP x n t = (f, e)) {k : Nat} (ht : t.length ≤ k) : f.2.2.length ≤ k := by
 rcases nextP_cases x n t with ⟨_, q⟩ | ⟨_, _, q⟩ | ⟨_, _, _, q⟩ | ⟨_, _, _, _, q⟩ | ⟨_, _, _, _, q⟩ <;> rw [h] at q <;> (rw [(Prod.mk.inj q).1]; first | exact Nat.zero_le _ | exact ht)
def orL : List Int → Int
 | [] => 0
 | x :: l => orI x (orL l)
theorem orL_step {l : List Int} {k : Nat} {x : Int} (h : l[k]? = some x) : orL (l.drop k) = orI x (orL (l.drop (k + 1))) := by
 have hlt := (List.getElem?_eq_some_iff.1 h).1
 have hx := (List.getElem?_eq_some_iff.1 h).2
 rw [List.drop_eq_getElem_cons hlt, hx]
 rfl
theorem cmpL_step {a b : List Int} {k : Nat} {x y : Int} (ha : a[k]? = some x) (hb : b[k]? = some y) : cmpL (a.drop k) (b.drop k) = orI (cmpI x y) (cmpL (a.drop (k + 1)) (b.drop (k + 1))) := by
 have h1 := (List.getElem?_eq_some_iff.1 ha).1
 have h2 := (List.getElem?_eq_some_iff.1 ha).2
 have h3 := (List.getElem?_eq_some_iff.1 hb).1
 have h4 := (List.getElem?_eq_some_iff.1 hb).2
 rw [List.drop_eq_getElem_cons h1, List.drop_eq_getElem_cons h3, h2, h4]
 rfl
theorem cmpL_long {a b : List Int} {k : Nat} (ha : k < a.length) (hb : b.length ≤ k) : cmpL (a.drop k) (b.drop k) = 1 := by
 rw [List.drop_eq_getElem_cons ha, List.drop_eq_nil_of_le hb]
 rfl
theorem cmpL_end {a b : List Int} {k : Nat} (ha : a.length ≤ k) (hka : k ≤ a.length) (hb : k ≤ b.length) : cmpL (a.drop k) (b.drop k) = if a.length < b.length then -1 else 0 := by
 rw [List.drop_eq_nil_of_le ha]
 split
 ·rw [List.drop_eq_getElem_cons (show k < b.length by omega)]
  rfl
 ·rw [List.drop_eq_nil_of_le (show b.length ≤ k by omega)]
  rfl
theorem cmpP_or (a b : Pl) : orL [cmpI a.1 b.1, cmpI a.2.1 b.2.1, cmpI a.2.2.length b.2.2.length, cmpL a.2.2 b.2.2] = cmpP a b := by
 show orI _ (orI _ (orI _ (orI _ 0))) = _
 rw [orI_nil]
 rfl
structure Pc where
 v : Int
 b : Int
 p : Option Addr
 n : Nat
 c : Nat
def fewB (l : List Pc) : Bool := l.all fun y => decide (y.n ≤ 100)
theorem few_end {l : List Pc} (h : l.take l.length = l) (hk : fewB (l.take l.length) = true) : fewB l = true := by rwa [h] at hk
theorem few_step {l : List Pc} {k : Nat} {y : Pc} (h : l[k]? = some y) : fewB (l.take (k + 1)) = (fewB (l.take k) && decide (y.n ≤ 100)) := by
 unfold fewB
 rw [List.take_add_one, h]
 simp
theorem few_no {l : List Pc} {k : Nat} {y : Pc} (h : l[k]? = some y) (hy : ¬ y.n ≤ 100) : fewB l = false := by
 unfold fewB
 rw [List.all_eq_false]
 exact ⟨y, List.mem_of_getElem? h, by simpa using hy⟩
end
section
open Go
abbrev En : Type := Int × Int
def cmpE (a b : En) : Int := orI (cmpI a.1 b.1) (cmpI a.2 b.2)
def mayE (x : En) : Bool := decide ((x.1 = 0 ∧ x.2 = 0) ∨ (1 ≤ x.1 ∧ x.1 ≤ 1000000 ∧ 0 ≤ x.2 ∧ x.2 < 8))
def joinE (a b : En) : En := joinC cmpE a b
theorem cmpE_cmp : Cmp cmpE := (cmpI_cmp.key fun a : En => a.1).lex (cmpI_cmp.key fun a : En => a.2)
theorem cmpE_zero (a b : En) : cmpE a b = 0 ↔ a = b := by
 unfold cmpE
 rw [orI_zero, cmpI_zero, cmpI_zero]
 exact ⟨fun h => Prod.ext h.1 h.2, fun h => by rw [h]; exact ⟨rfl, rfl⟩⟩
theorem cmpE_eq' {a b : En} (h : cmpE a b = 0) : a = b := (cmpE_zero a b).1 h
theorem joinE_comm (a b : En) : joinE a b = joinE b a := cmpE_cmp.join_comm (fun _ _ => cmpE_eq') a b
theorem joinE_assoc (a b c : En) : joinE (joinE a b) c = joinE a (joinE b c) := cmpE_cmp.join_assoc (fun _ _ => cmpE_eq') a b c
theorem joinE_self (a : En) : joinE a a = a := joinC_self a
theorem joinE_or (a b : En) : joinE a b = a ∨ joinE a b = b := joinC_or a b
theorem joinE_le (a b : En) : cmpE a (joinE a b) ≤ 0 ∧ cmpE b (joinE a b) ≤ 0 := cmpE_cmp.join_le a b
theorem cmpE_up {a b : En} (h : b.1 < a.1) : cmpE a b = 1 := by
 unfold cmpE
 rcases cmpI_spec a.1 b.1 with ⟨h1, e⟩ | ⟨h1, e⟩ | ⟨h1, e⟩
 ·omega
 ·omega
 ·rw [e]; rfl
section
variable {α : Type} {c : α → α → Int}
theorem Cmp.le_join (h : Cmp c) (hz : ∀ a b, c a b = 0 → a = b) {a b : α} : c a b ≤ 0 ↔ joinC c a b = b := by
 constructor
 ·intro h1
  have h2 := h.join_le a b
  refine h.anti hz ?_ h2.2
  rcases joinC_or (c := c) a b with e | e <;> rw [e]
  ·exact h1
  ·rw [h.self]; exact Int.le_refl 0
 ·intro h1
  have h2 := (h.join_le a b).1
  rwa [h1] at h2
theorem Cmp.lub (h : Cmp c) {a b m : α} : c (joinC c a b) m ≤ 0 ↔ c a m ≤ 0 ∧ c b m ≤ 0 := by
 constructor
 ·intro h1
  exact ⟨h.trans (h.join_le a b).1 h1, h.trans (h.join_le a b).2 h1⟩
 ·rintro ⟨h1, h2⟩
  rcases joinC_or (c := c) a b with e | e <;> rw [e] <;> assumption
end
structure Rg where
 s : Nat → Int
 p : Pl
 e : Nat → En
def tab8 (f : Nat → Int) : List Int := [f 0, f 1, f 2, f 3, f 4, f 5, f 6, f 7]
def tab16 (f : Nat → En) : List En := [f 0, f 1, f 2, f 3, f 4, f 5, f 6, f 7, f 8, f 9, f 10, f 11, f 12, f 13, f 14, f 15]
theorem tab8_is (f : Nat → Int) : tab8 f = (List.range 8).map f := rfl
theorem tab16_is (f : Nat → En) : tab16 f = (List.range 16).map f := rfl
theorem tab8_at (f : Nat → Int) {j : Nat} (h : j < 8) : (tab8 f)[j]? = some (f j) := by
 rw [tab8_is, List.getElem?_map, List.getElem?_range h]
 rfl
theorem tab16_at (f : Nat → En) {j : Nat} (h : j < 16) : (tab16 f)[j]? = some (f j) := by
 rw [tab16_is, List.getElem?_map, List.getElem?_range h]
 rfl
theorem map_range_eq {β : Type} {f g : Nat → β} {n : Nat} : (List.range n).map f = (List.range n).map g ↔ ∀ j, j < n → f j = g j := by
 constructor
 ·intro h j hj
  have h1 : ((List.range n).map f)[j]? = some (f j) := by rw [List.getElem?_map, List.getElem?_range hj]; rfl
  have h2 : ((List.range n).map g)[j]? = some (g j) := by rw [List.getElem?_map, List.getElem?_range hj]; rfl
  rw [h, h2] at h1
  exact (Option.some.inj h1).symm
 ·intro h
  exact List.map_congr_left fun j hj => h j (List.mem_range.1 hj)
theorem tab8_eq {f g : Nat → Int} : tab8 f = tab8 g ↔ ∀ j, j < 8 → f j = g j := by rw [tab8_is, tab8_is]; exact map_range_eq
theorem tab16_eq {f g : Nat → En} : tab16 f = tab16 g ↔ ∀ j, j < 16 → f j = g j := by rw [tab16_is, tab16_is]; exact map_range_eq
theorem all8 {f : Nat → Int} {p : Int → Bool} : (tab8 f).all p = true ↔ ∀ j, j < 8 → p (f j) = true := by
 rw [tab8_is, List.all_map, List.all_eq_true]
 exact ⟨fun h j hj => h j (List.mem_range.2 hj), fun h j hj => h j (List.mem_range.1 hj)⟩
theorem all16 {f : Nat → En} {p : En → Bool} : (tab16 f).all p = true ↔ ∀ j, j < 16 → p (f j) = true := by
 rw [tab16_is, List.all_map, List.all_eq_true]
 exact ⟨fun h j hj => h j (List.mem_range.2 hj), fun h j hj => h j (List.mem_range.1 hj)⟩
def upd {β : Type} (f : Nat → β) (i : Nat) (x : β) : Nat → β := fun j => if j = i then x else f j
def eqR (a b : Rg) : Prop := (∀ i, i < 8 → a.s i = b.s i) ∧ a.p = b.p ∧ ∀ i, i < 16 → a.e i = b.e i
def leR (a b : Rg) : Prop := (∀ i, i < 8 → a.s i ≤ b.s i) ∧ cmpP a.p b.p ≤ 0 ∧ ∀ i, i < 16 → cmpE (a.e i) (b.e i) ≤ 0
def joinR (a b : Rg) : Rg := ⟨fun i => max (a.s i) (b.s i), joinP a.p b.p, fun i => joinE (a.e i) (b.e i)⟩
def sameR (a b : Rg) : Bool := decide (tab8 a.s = tab8 b.s) && (decide (tab16 a.e = tab16 b.e) && (cmpP a.p b.p == 0))
def belowR (a b : Rg) : Bool := sameR (joinR a b) b
def statB (x : Int) : Bool := decide (0 ≤ x ∧ x ≤ 4)
def mayR (r : Rg) : Bool := (tab8 r.s).all statB && ((tab16 r.e).all mayE && mayP r.p)
def noR : Rg := ⟨fun _ => 0, (0, 0, []), fun _ => (0, 0)⟩
def oneR (n : Nat) : Rg := ⟨upd (fun _ => 0) n 2, (0, 0, []), fun _ => (1, (n : Int))⟩
theorem joinR_comm (a b : Rg) : joinR a b = joinR b a := by
 unfold joinR
 rw [joinP_comm]
 congr 1
 ·funext i; omega
 ·funext i; exact joinE_comm _ _
theorem joinR_assoc (a b c : Rg) : joinR (joinR a b) c = joinR a (joinR b c) := by
 unfold joinR
 dsimp only
 rw [joinP_assoc]
 congr 1
 ·funext i; omega
 ·funext i; exact joinE_assoc _ _ _
theorem joinR_self (a : Rg) : joinR a a = a := by
 unfold joinR
 rw [joinP_self]
 cases a
 congr 1
 ·funext i; dsimp only; omega
 ·funext i; exact joinE_self _
theorem sameR_iff {a b : Rg} : sameR a b = true ↔ eqR a b := by
 unfold sameR eqR
 rw [Bool.and_eq_true, Bool.and_eq_true, decide_eq_true_iff, decide_eq_true_iff, beq_iff_eq, tab8_eq, tab16_eq, cmpP_zero]
 exact ⟨fun ⟨h1, h2, h3⟩ => ⟨h1, h3, h2⟩, fun ⟨h1, h2, h3⟩ => ⟨h1, h3, h2⟩⟩
theorem sameR_self (a : Rg) : sameR a a = true := sameR_iff.2 ⟨fun _ _ => rfl, rfl, fun _ _ => rfl⟩
theorem belowR_iff {a b : Rg} : belowR a b = true ↔ leR a b := by
 unfold belowR
 rw [sameR_iff]
 unfold eqR leR joinR
 dsimp only
 constructor
 ·rintro ⟨h1, h2, h3⟩
  exact ⟨fun i hi => by have := h1 i hi; omega, (cmpP_cmp.le_join fun _ _ => cmpP_eq).2 h2, fun i hi => (cmpE_cmp.le_join fun _ _ => cmpE_eq').2 (h3 i hi)⟩
 ·rintro ⟨h1, h2, h3⟩
  exact ⟨fun i hi => by have := h1 i hi; omega, (cmpP_cmp.le_join fun _ _ => cmpP_eq).1 h2, fun i hi => (cmpE_cmp.le_join fun _ _ => cmpE_eq').1 (h3 i hi)⟩
theorem leR_trans {a b c : Rg} (h1 : leR a b) (h2 : leR b c) : leR a c :=
 ⟨fun i hi => Int.le_trans (h1.1 i hi) (h2.1 i hi), cmpP_cmp.trans h1.2.1 h2.2.1, fun i hi => cmpE_cmp.trans (h1.2.2 i hi) (h2.2.2 i hi)⟩
theorem leR_lub {a b c : Rg} : leR (joinR a b) c ↔ leR a c ∧ leR b c := by
 constructor
 ·rintro ⟨h1, h2, h3⟩
  refine ⟨⟨fun i hi => ?_, (cmpP_cmp.lub.1 h2).1, fun i hi => (cmpE_cmp.lub.1 (h3 i hi)).1⟩, ⟨fun i hi => ?_, (cmpP_cmp.lub.1 h2).2, fun i hi => (cmpE_cmp.lub.1 (h3 i hi)).2⟩⟩
  ·have : max (a.s i) (b.s i) ≤ c.s i := h1 i hi
   omega
  ·have : max (a.s i) (b.s i) ≤ c.s i := h1 i hi
   omega
 ·rintro ⟨⟨h1, h2, h3⟩, ⟨k1, k2, k3⟩⟩
  refine ⟨fun i hi => ?_, cmpP_cmp.lub.2 ⟨h2, k2⟩, fun i hi => cmpE_cmp.lub.2 ⟨h3 i hi, k3 i hi⟩⟩
  have := h1 i hi
  have := k1 i hi
  show max (a.s i) (b.s i) ≤ c.s i
  omega
theorem leR_anti {a b : Rg} : (leR a b ∧ leR b a) ↔ eqR a b := by
 constructor
 ·rintro ⟨⟨h1, h2, h3⟩, ⟨k1, k2, k3⟩⟩
  exact ⟨fun i hi => Int.le_antisymm (h1 i hi) (k1 i hi), cmpP_cmp.anti (fun _ _ => cmpP_eq) h2 k2, fun i hi => cmpE_cmp.anti (fun _ _ => cmpE_eq') (h3 i hi) (k3 i hi)⟩
 ·rintro ⟨h1, h2, h3⟩
  refine ⟨⟨fun i hi => by rw [h1 i hi]; exact Int.le_refl _, by rw [h2, cmpP_cmp.self]; exact Int.le_refl 0, fun i hi => by rw [h3 i hi, cmpE_cmp.self]; exact Int.le_refl 0⟩, ⟨fun i hi => by rw [h1 i hi]; exact Int.le_refl _, by rw [h2, cmpP_cmp.self]; exact Int.le_refl 0, fun i hi => by rw [h3 i hi, cmpE_cmp.self]; exact Int.le_refl 0⟩⟩
theorem below_left (a b : Rg) : belowR a (joinR a b) = true := by
 unfold belowR
 rw [← joinR_assoc, joinR_self]
 exact sameR_self _
theorem below_right (a b : Rg) : belowR b (joinR a b) = true := by
 rw [joinR_comm]
 exact below_left b a
theorem below_lub {a b c : Rg} (h : belowR a c = true) : belowR b c = belowR (joinR a b) c := by
 rw [Bool.eq_iff_iff, belowR_iff, belowR_iff, leR_lub]
 exact ⟨fun h2 => ⟨belowR_iff.1 h, h2⟩, fun h2 => h2.2⟩
theorem below_trans {a b c : Rg} (h1 : belowR a b = true) (h2 : belowR b c = true) : belowR a c = true := belowR_iff.2 (leR_trans (belowR_iff.1 h1) (belowR_iff.1 h2))
theorem below_anti {a b : Rg} (h : belowR a b = true) : belowR b a = sameR a b := by
 rw [Bool.eq_iff_iff, belowR_iff, sameR_iff, ← leR_anti]
 exact ⟨fun h2 => ⟨belowR_iff.1 h, h2⟩, fun h2 => h2.2⟩
theorem mayR_join {a b : Rg} (h1 : mayR a = true) (h2 : mayR b = true) : mayR (joinR a b) = true := by
 unfold mayR at *
 rw [Bool.and_eq_true, Bool.and_eq_true, all8, all16] at *
 refine ⟨fun j hj => ?_, fun j hj => ?_, ?_⟩
 ·have k1 := of_decide_eq_true (h1.1 j hj)
  have k2 := of_decide_eq_true (h2.1 j hj)
  exact decide_eq_true (show 0 ≤ max (a.s j) (b.s j) ∧ max (a.s j) (b.s j) ≤ 4 by omega)
 ·show mayE (joinE (a.e j) (b.e j)) = true
  rcases joinE_or (a.e j) (b.e j) with e | e <;> rw [e]
  ·exact h1.2.1 j hj
  ·exact h2.2.1 j hj
 ·show mayP (joinP a.p b.p) = true
  rcases joinP_or a.p b.p with e | e <;> rw [e]
  ·exact h1.2.2
  ·exact h2.2.2
theorem joinR_len {a b : Rg} {n : Nat} (ha : a.p.2.2.length ≤ n) (hb : b.p.2.2.length ≤ n) : (joinR a b).p.2.2.length ≤ n := joinP_len (j := joinP a.p b.p) rfl ha hb
def riseR (r : Rg) (n x : Int) : Rg × Int := if mayR r = true ∧ nodeE n = true ∧ 1 ≤ x ∧ x ≤ 4 then (if x ≤ r.s n.toNat then (noR, 8) else (⟨upd r.s n.toNat x, r.p, r.e⟩, 0)) else (noR, 1)
theorem riseR_cases (r : Rg) (n x : Int) : (mayR r = false ∧ riseR r n x = (noR, 1)) ∨ (mayR r = true ∧ nodeE n = false ∧ riseR r n x = (noR, 1)) ∨ (mayR r = true ∧ nodeE n = true ∧ ¬ (1 ≤ x ∧ x ≤ 4) ∧ riseR r n x = (noR, 1)) ∨ (mayR r = true ∧ nodeE n = true ∧ (1 ≤ x ∧ x ≤ 4) ∧ x ≤ r.s n.toNat ∧ riseR r n x = (noR, 8)) ∨ (mayR r = true ∧ nodeE n = true ∧ (1 ≤ x ∧ x ≤ 4) ∧ ¬ x ≤ r.s n.toNat ∧ riseR r n x = (⟨upd r.s n.toNat x, r.p, r.e⟩, 0)) := by
 unfold riseR
 by_cases hx : 1 ≤ x ∧ x ≤ 4
 ·cases mayR r <;> cases nodeE n <;> simp [hx]
  by_cases hs : x ≤ r.s n.toNat <;> simp [hs] <;> omega
 ·cases mayR r <;> cases nodeE n <;> simp [hx]
theorem riseR_yes {r : Rg} {n x : Int} (h1 : mayR r = true) (h2 : nodeE n = true) (h3 : 1 ≤ x ∧ x ≤ 4) (h4 : ¬ x ≤ r.s n.toNat) : riseR r n x = (⟨upd r.s n.toNat x, r.p, r.e⟩, 0) := by
 unfold riseR
 rw [if_pos ⟨h1, h2, h3⟩, if_neg h4]
theorem mayR_no : mayR noR = true := by decide +kernel
theorem mayR_rise {r : Rg} {i : Nat} {x : Int} (h : mayR r = true) (hx : 1 ≤ x ∧ x ≤ 4) : mayR ⟨upd r.s i x, r.p, r.e⟩ = true := by
 unfold mayR at *
 rw [Bool.and_eq_true, Bool.and_eq_true, all8] at *
 refine ⟨fun j hj => ?_, h.2⟩
 show statB (if j = i then x else r.s j) = true
 split
 ·exact decide_eq_true (by omega)
 ·exact h.1 j hj
theorem below_rise {r : Rg} {i : Nat} {x : Int} (h : ¬ x ≤ r.s i) : belowR r ⟨upd r.s i x, r.p, r.e⟩ = true := by
 rw [belowR_iff]
 refine ⟨fun j _ => ?_, by rw [cmpP_cmp.self]; exact Int.le_refl 0, fun j _ => by rw [cmpE_cmp.self]; exact Int.le_refl 0⟩
 show r.s j ≤ if j = i then x else r.s j
 split
 ·rename_i e
  subst e
  omega
 ·exact Int.le_refl _
theorem below_rise' {r : Rg} {i : Nat} {x : Int} (hi : i < 8) (h : ¬ x ≤ r.s i) : belowR ⟨upd r.s i x, r.p, r.e⟩ r = false := by
 rw [← Bool.not_eq_true, belowR_iff]
 rintro ⟨h1, _⟩
 have h2 : (if i = i then x else r.s i) ≤ r.s i := h1 i hi
 rw [if_pos rfl] at h2
 exact h h2
theorem riseR_again {r : Rg} {n x : Int} (h1 : mayR r = true) (h2 : nodeE n = true) (h3 : 1 ≤ x ∧ x ≤ 4) : riseR ⟨upd r.s n.toNat x, r.p, r.e⟩ n x = (noR, 8) := by
 unfold riseR
 rw [if_pos ⟨mayR_rise h1 h3, h2, h3⟩, if_pos]
 show x ≤ if n.toNat = n.toNat then x else _
 rw [if_pos rfl]
 exact Int.le_refl _
end
end Go.Proofs.YtcbnhakfijiioaaGreat
