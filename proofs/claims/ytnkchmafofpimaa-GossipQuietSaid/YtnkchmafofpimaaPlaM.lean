/- PlaM: PlaM. -/
import Derived.Test.YtnkchmafofpimaaProg
import Derived.Lib.Small
namespace Go.Proofs.Ytnkchmafofpimaa
section
open Go
def cmpI (a b : Int) : Int := if a < b then -1 else if b < a then 1 else 0
def orI (a b : Int) : Int := if a ≠ 0 then a else b
theorem cmpI_spec (a b : Int) : (a < b ∧ cmpI a b = -1) ∨ (a = b ∧ cmpI a b = 0) ∨ (b < a ∧ cmpI a b = 1) := by
  unfold cmpI
  split
  · exact .inl ⟨by assumption, rfl⟩
  · split
    · exact .inr (.inr ⟨by assumption, rfl⟩)
    · exact .inr (.inl ⟨by omega, rfl⟩)
theorem cmpI_zero (a b : Int) : cmpI a b = 0 ↔ a = b := by
  rcases cmpI_spec a b with ⟨h, e⟩ | ⟨h, e⟩ | ⟨h, e⟩ <;> rw [e] <;> constructor <;> intro h1 <;> omega
theorem orI_zero (a b : Int) : orI a b = 0 ↔ a = 0 ∧ b = 0 := by
  unfold orI
  split <;> constructor <;> intro h <;> omega
theorem orI_nil (a : Int) : orI a 0 = a := by
  unfold orI
  split <;> omega
theorem orI_self {a b : Int} (h : a ≠ 0) : orI a b = a := if_pos h
theorem orI_next {a b : Int} (h : a = 0) : orI a b = b := if_neg (by omega)
/-- A way to compare: a total order of classes. -/
structure Cmp {α : Type} (c : α → α → Int) : Prop where
  neg : ∀ a b, c a b = -c b a
  bnd : ∀ a b, -1 ≤ c a b ∧ c a b ≤ 1
  trans : ∀ {a b d}, c a b ≤ 0 → c b d ≤ 0 → c a d ≤ 0
section
variable {α β : Type} {c d : α → α → Int}
theorem Cmp.self (h : Cmp c) (a : α) : c a a = 0 := by
  have := h.neg a a
  omega
theorem Cmp.lt (h : Cmp c) {a b e : α} (h1 : c a b < 0) (h2 : c b e ≤ 0) : c a e < 0 := by
  by_cases h0 : c a e < 0
  · exact h0
  have n1 := h.neg a e
  have n2 := h.neg a b
  have h3 : c b a ≤ 0 := h.trans h2 (by omega)
  omega
theorem Cmp.lt' (h : Cmp c) {a b e : α} (h1 : c a b ≤ 0) (h2 : c b e < 0) : c a e < 0 := by
  by_cases h0 : c a e < 0
  · exact h0
  have n1 := h.neg a e
  have n2 := h.neg b e
  have h3 : c e b ≤ 0 := h.trans (by omega) h1
  omega
theorem Cmp.lex_trans (h : Cmp c) {a b e : α} {x y z : Int} (hx : x ≤ 0 → y ≤ 0 → z ≤ 0) (h1 : orI (c a b) x ≤ 0) (h2 : orI (c b e) y ≤ 0) : orI (c a e) z ≤ 0 := by
  have k1 : c a b ≤ 0 := by unfold orI at h1; split at h1 <;> omega
  have k2 : c b e ≤ 0 := by unfold orI at h2; split at h2 <;> omega
  by_cases q1 : c a b < 0
  · have := h.lt q1 k2
    rw [orI_self (by omega)]
    omega
  by_cases q2 : c b e < 0
  · have := h.lt' k1 q2
    rw [orI_self (by omega)]
    omega
  have k3 : c a e ≤ 0 := h.trans k1 k2
  have n1 := h.neg a b
  have n2 := h.neg b e
  have n3 := h.neg a e
  have k4 : c e a ≤ 0 := h.trans (b := b) (by omega) (by omega)
  rw [orI_next (by omega)] at h1 h2 ⊢
  exact hx h1 h2
theorem orI_neg {a b x y : Int} (h1 : a = -b) (h2 : x = -y) : orI a x = -orI b y := by
  unfold orI
  split <;> split <;> omega
theorem orI_bnd {a x : Int} (h1 : -1 ≤ a ∧ a ≤ 1) (h2 : -1 ≤ x ∧ x ≤ 1) : -1 ≤ orI a x ∧ orI a x ≤ 1 := by
  unfold orI
  split <;> assumption
theorem Cmp.lex (hc : Cmp c) (hd : Cmp d) : Cmp fun a b => orI (c a b) (d a b) where
  neg a b := orI_neg (hc.neg a b) (hd.neg a b)
  bnd a b := orI_bnd (hc.bnd a b) (hd.bnd a b)
  trans h1 h2 := hc.lex_trans (fun k1 k2 => hd.trans k1 k2) h1 h2
theorem Cmp.key (hc : Cmp c) (f : β → α) : Cmp fun a b => c (f a) (f b) where
  neg _a _b := hc.neg _ _
  bnd _a _b := hc.bnd _ _
  trans h1 h2 := hc.trans h1 h2
theorem cmpI_cmp : Cmp cmpI where
  neg a b := by
    rcases cmpI_spec a b with ⟨h, e⟩ | ⟨h, e⟩ | ⟨h, e⟩ <;> rcases cmpI_spec b a with ⟨h', e'⟩ | ⟨h', e'⟩ | ⟨h', e'⟩ <;> omega
  bnd a b := by
    rcases cmpI_spec a b with ⟨h, e⟩ | ⟨h, e⟩ | ⟨h, e⟩ <;> omega
  trans {a b d} h1 h2 := by
    rcases cmpI_spec a b with ⟨h, e⟩ | ⟨h, e⟩ | ⟨h, e⟩ <;> rcases cmpI_spec b d with ⟨h', e'⟩ | ⟨h', e'⟩ | ⟨h', e'⟩ <;> rcases cmpI_spec a d with ⟨h3, e3⟩ | ⟨h3, e3⟩ | ⟨h3, e3⟩ <;> omega
/-- Rows of numbers, as Go's slices.Compare has it. -/
def cmpL : List Int → List Int → Int
  | [], [] => 0
  | [], _ :: _ => -1
  | _ :: _, [] => 1
  | x :: xs, y :: ys => orI (cmpI x y) (cmpL xs ys)
theorem cmpL_neg : ∀ a b, cmpL a b = -cmpL b a
  | [], [] => rfl
  | [], _ :: _ => rfl
  | _ :: _, [] => rfl
  | x :: xs, y :: ys => orI_neg (cmpI_cmp.neg x y) (cmpL_neg xs ys)
theorem cmpL_bnd : ∀ a b, -1 ≤ cmpL a b ∧ cmpL a b ≤ 1
  | [], [] => by decide
  | [], _ :: _ => by show (-1 : Int) ≤ -1 ∧ (-1 : Int) ≤ 1; decide
  | _ :: _, [] => by show (-1 : Int) ≤ 1 ∧ (1 : Int) ≤ 1; decide
  | x :: xs, y :: ys => orI_bnd (cmpI_cmp.bnd x y) (cmpL_bnd xs ys)
theorem cmpL_trans : ∀ {a b d : List Int}, cmpL a b ≤ 0 → cmpL b d ≤ 0 → cmpL a d ≤ 0
  | [], _, [], _, _ => by show (0 : Int) ≤ 0; decide
  | [], _, _ :: _, _, _ => by show (-1 : Int) ≤ 0; decide
  | _ :: _, [], _, h, _ => absurd (show (1 : Int) ≤ 0 from h) (by decide)
  | _ :: _, _ :: _, [], _, h => absurd (show (1 : Int) ≤ 0 from h) (by decide)
  | x :: xs, y :: ys, z :: zs, h1, h2 => cmpI_cmp.lex_trans (fun k1 k2 => cmpL_trans k1 k2) h1 h2
theorem cmpL_zero : ∀ a b, cmpL a b = 0 ↔ a = b
  | [], [] => by simp [cmpL]
  | [], _ :: _ => by simp [cmpL]
  | _ :: _, [] => by simp [cmpL]
  | x :: xs, y :: ys => by
    show orI (cmpI x y) (cmpL xs ys) = 0 ↔ _
    rw [orI_zero, cmpI_zero, cmpL_zero xs ys, List.cons.injEq]
theorem cmpL_cmp : Cmp cmpL := ⟨cmpL_neg, cmpL_bnd, cmpL_trans⟩
/-- Of two, the greater one. -/
def joinC (c : α → α → Int) (a b : α) : α := if 0 < c b a then b else a
theorem joinC_or (a b : α) : joinC c a b = a ∨ joinC c a b = b := by
  unfold joinC
  split
  · exact .inr rfl
  · exact .inl rfl
theorem Cmp.join_le (h : Cmp c) (a b : α) : c a (joinC c a b) ≤ 0 ∧ c b (joinC c a b) ≤ 0 := by
  unfold joinC
  have hn := h.neg a b
  split
  · exact ⟨by omega, by rw [h.self]; omega⟩
  · exact ⟨by rw [h.self]; omega, by omega⟩
theorem joinC_self (a : α) : joinC c a a = a := by
  unfold joinC
  split <;> rfl
theorem Cmp.anti (h : Cmp c) (hz : ∀ a b, c a b = 0 → a = b) {a b : α} (h1 : c a b ≤ 0) (h2 : c b a ≤ 0) : a = b := hz _ _ (by have := h.neg a b; omega)
theorem Cmp.join_comm (h : Cmp c) (hz : ∀ a b, c a b = 0 → a = b) (a b : α) : joinC c a b = joinC c b a := by
  have h1 := h.join_le a b
  have h2 := h.join_le b a
  refine h.anti hz ?_ ?_
  · rcases joinC_or (c := c) a b with e | e <;> rw [e]
    · exact h2.2
    · exact h2.1
  · rcases joinC_or (c := c) b a with e | e <;> rw [e]
    · exact h1.2
    · exact h1.1
theorem Cmp.join_assoc (h : Cmp c) (hz : ∀ a b, c a b = 0 → a = b) (a b e : α) : joinC c (joinC c a b) e = joinC c a (joinC c b e) := by
  have h1 := h.join_le a b
  have h2 := h.join_le (joinC c a b) e
  have h3 := h.join_le b e
  have h4 := h.join_le a (joinC c b e)
  have ka := h.trans h1.1 h2.1
  have kb := h.trans h1.2 h2.1
  have ke := h2.2
  have ja := h4.1
  have jb := h.trans h3.1 h4.2
  have je := h.trans h3.2 h4.2
  refine h.anti hz ?_ ?_
  · rcases joinC_or (c := c) (joinC c a b) e with q | q
    · rcases joinC_or (c := c) a b with q2 | q2 <;> rw [q, q2] <;> assumption
    · rw [q]
      assumption
  · rcases joinC_or (c := c) a (joinC c b e) with q | q
    · rw [q]
      assumption
    · rcases joinC_or (c := c) b e with q2 | q2 <;> rw [q, q2] <;> assumption
theorem joinC_left {a b : α} (h : c b a ≤ 0) : joinC c a b = a := if_neg (by omega)
end
/-- A plan: its version, by whom, the targets. -/
abbrev Pl : Type := Int × Int × List Int
def nodeE (n : Int) : Bool := decide (0 ≤ n ∧ n < 8)
def tgtL (t : List Int) : Bool := decide (t.length = 16) && t.all nodeE
def noneB (v b : Int) (n : Nat) : Bool := decide (v = 0 ∧ b = 0 ∧ n = 0)
def mayP (x : Pl) : Bool := noneB x.1 x.2.1 x.2.2.length || (decide (1 ≤ x.1 ∧ x.1 ≤ 1000000) && nodeE x.2.1 && tgtL x.2.2)
def cmpP (a b : Pl) : Int := orI (cmpI a.1 b.1) (orI (cmpI a.2.1 b.2.1) (orI (cmpI a.2.2.length b.2.2.length) (cmpL a.2.2 b.2.2)))
def joinP (a b : Pl) : Pl := joinC cmpP a b
def nextP (x : Pl) (n : Int) (t : List Int) : Pl × Int := if mayP x = true ∧ nodeE n = true ∧ tgtL t = true then (if x.1 = 1000000 then ((0, 0, []), 6) else ((x.1 + 1, n, t), 0)) else ((0, 0, []), 1)
theorem cmpP_cmp : Cmp cmpP := (cmpI_cmp.key fun a : Pl => a.1).lex ((cmpI_cmp.key fun a : Pl => a.2.1).lex ((cmpI_cmp.key fun a : Pl => (a.2.2.length : Int)).lex (cmpL_cmp.key fun a : Pl => a.2.2)))
theorem cmpP_zero (a b : Pl) : cmpP a b = 0 ↔ a = b := by
  obtain ⟨a1, a2, s⟩ := a
  obtain ⟨b1, b2, t⟩ := b
  unfold cmpP
  rw [orI_zero, orI_zero, orI_zero, cmpI_zero, cmpI_zero, cmpI_zero, cmpL_zero]
  constructor
  · rintro ⟨h1, h2, _, h4⟩
    dsimp only at h1 h2 h4
    rw [h1, h2, h4]
  · intro h
    simp only [Prod.mk.injEq] at h
    obtain ⟨h1, h2, h3⟩ := h
    subst h1 h2 h3
    exact ⟨rfl, rfl, rfl, rfl⟩
theorem cmpP_eq {a b : Pl} (h : cmpP a b = 0) : a = b := (cmpP_zero a b).1 h
theorem joinP_comm (a b : Pl) : joinP a b = joinP b a := cmpP_cmp.join_comm (fun _ _ => cmpP_eq) a b
theorem joinP_assoc (a b c : Pl) : joinP (joinP a b) c = joinP a (joinP b c) := cmpP_cmp.join_assoc (fun _ _ => cmpP_eq) a b c
theorem joinP_self (a : Pl) : joinP a a = a := joinC_self a
theorem joinP_or (a b : Pl) : joinP a b = a ∨ joinP a b = b := joinC_or a b
theorem joinP_le (a b : Pl) : cmpP a (joinP a b) ≤ 0 ∧ cmpP b (joinP a b) ≤ 0 := cmpP_cmp.join_le a b
theorem joinP_len {a b j : Pl} {n : Nat} (h : joinP a b = j) (ha : a.2.2.length ≤ n) (hb : b.2.2.length ≤ n) : j.2.2.length ≤ n := by
  subst h
  rcases joinP_or a b with e | e <;> rw [e] <;> assumption
theorem cmpP_v {a b : Pl} (h : b.1 < a.1) : cmpP a b = 1 := by
  unfold cmpP
  rcases cmpI_spec a.1 b.1 with ⟨h1, e⟩ | ⟨h1, e⟩ | ⟨h1, e⟩
  · omega
  · omega
  · rw [e]; rfl
theorem cmpP_b {a b : Pl} (h0 : a.1 = b.1) (h : b.2.1 < a.2.1) : cmpP a b = 1 := by
  unfold cmpP
  rw [orI_next ((cmpI_zero _ _).2 h0)]
  rcases cmpI_spec a.2.1 b.2.1 with ⟨h1, e⟩ | ⟨h1, e⟩ | ⟨h1, e⟩
  · omega
  · omega
  · rw [e]; rfl
theorem mayP_le {x : Pl} (h : mayP x = true) : 0 ≤ x.1 ∧ x.1 ≤ 1000000 := by
  unfold mayP noneB at h
  simp only [Bool.or_eq_true, Bool.and_eq_true, decide_eq_true_eq] at h
  rcases h with ⟨h, _⟩ | ⟨⟨h, _⟩, _⟩ <;> omega
theorem tgtL_len {t : List Int} (h : tgtL t = true) : t.length = 16 := by
  unfold tgtL at h
  simp only [Bool.and_eq_true, decide_eq_true_eq] at h
  exact h.1
theorem tgtL_no {t : List Int} {k : Nat} {x : Int} (h : t[k]? = some x) (hx : nodeE x = false) : tgtL t = false := by
  unfold tgtL
  rw [Bool.and_eq_false_iff]
  refine .inr ?_
  rw [List.all_eq_false]
  exact ⟨x, List.mem_of_getElem? h, by simp [hx]⟩
theorem all_step {t : List Int} {k : Nat} {x : Int} (h : t[k]? = some x) : (t.take (k + 1)).all nodeE = ((t.take k).all nodeE && nodeE x) := by
  rw [List.take_add_one, h]
  simp
theorem mayP_next {x : Pl} {n : Int} {t : List Int} (h1 : mayP x = true) (h2 : nodeE n = true) (h3 : tgtL t = true) (h4 : x.1 ≠ 1000000) : mayP (x.1 + 1, n, t) = true := by
  have hb := mayP_le h1
  unfold mayP
  dsimp only
  rw [h2, h3, decide_eq_true (show 1 ≤ x.1 + 1 ∧ x.1 + 1 ≤ 1000000 by omega)]
  simp
theorem nextP_cases (x : Pl) (n : Int) (t : List Int) : (mayP x = false ∧ nextP x n t = ((0, 0, []), 1)) ∨ (mayP x = true ∧ nodeE n = false ∧ nextP x n t = ((0, 0, []), 1)) ∨ (mayP x = true ∧ nodeE n = true ∧ tgtL t = false ∧ nextP x n t = ((0, 0, []), 1)) ∨ (mayP x = true ∧ nodeE n = true ∧ tgtL t = true ∧ x.1 = 1000000 ∧ nextP x n t = ((0, 0, []), 6)) ∨ (mayP x = true ∧ nodeE n = true ∧ tgtL t = true ∧ x.1 ≠ 1000000 ∧ nextP x n t = ((x.1 + 1, n, t), 0)) := by
  unfold nextP
  cases mayP x <;> cases nodeE n <;> cases tgtL t <;> simp
  exact Classical.em _
theorem nextP_len {x : Pl} {n : Int} {t : List Int} {f : Pl} {e : Int} (h : nextP x n t = (f, e)) {k : Nat} (ht : t.length ≤ k) : f.2.2.length ≤ k := by
  rcases nextP_cases x n t with ⟨_, q⟩ | ⟨_, _, q⟩ | ⟨_, _, _, q⟩ | ⟨_, _, _, _, q⟩ | ⟨_, _, _, _, q⟩ <;> rw [h] at q <;> (rw [(Prod.mk.inj q).1]; first | exact Nat.zero_le _ | exact ht)
/-- The first of a row that is not 0. -/
def orL : List Int → Int
  | [] => 0
  | x :: l => orI x (orL l)
theorem orL_step {l : List Int} {k : Nat} {x : Int} (h : l[k]? = some x) : orL (l.drop k) = orI x (orL (l.drop (k + 1))) := by
  have hlt := (List.getElem?_eq_some_iff.1 h).1
  have hx := (List.getElem?_eq_some_iff.1 h).2
  rw [List.drop_eq_getElem_cons hlt, hx]
  rfl
theorem cmpL_step {a b : List Int} {k : Nat} {x y : Int} (ha : a[k]? = some x) (hb : b[k]? = some y) : cmpL (a.drop k) (b.drop k) = orI (cmpI x y) (cmpL (a.drop (k + 1)) (b.drop (k + 1))) := by
  have h1 := (List.getElem?_eq_some_iff.1 ha).1
  have h2 := (List.getElem?_eq_some_iff.1 ha).2
  have h3 := (List.getElem?_eq_some_iff.1 hb).1
  have h4 := (List.getElem?_eq_some_iff.1 hb).2
  rw [List.drop_eq_getElem_cons h1, List.drop_eq_getElem_cons h3, h2, h4]
  rfl
theorem cmpL_long {a b : List Int} {k : Nat} (ha : k < a.length) (hb : b.length ≤ k) : cmpL (a.drop k) (b.drop k) = 1 := by
  rw [List.drop_eq_getElem_cons ha, List.drop_eq_nil_of_le hb]
  rfl
theorem cmpL_end {a b : List Int} {k : Nat} (ha : a.length ≤ k) (hka : k ≤ a.length) (hb : k ≤ b.length) : cmpL (a.drop k) (b.drop k) = if a.length < b.length then -1 else 0 := by
  rw [List.drop_eq_nil_of_le ha]
  split
  · rw [List.drop_eq_getElem_cons (show k < b.length by omega)]
    rfl
  · rw [List.drop_eq_nil_of_le (show b.length ≤ k by omega)]
    rfl
theorem cmpP_or (a b : Pl) : orL [cmpI a.1 b.1, cmpI a.2.1 b.2.1, cmpI a.2.2.length b.2.2.length, cmpL a.2.2 b.2.2] = cmpP a b := by
  show orI _ (orI _ (orI _ (orI _ 0))) = _
  rw [orI_nil]
  rfl
/-- A plan's header, as Go lays it. -/
structure Pc where
  v : Int
  b : Int
  p : Option Addr
  n : Nat
  c : Nat
def fewB (l : List Pc) : Bool := l.all fun y => decide (y.n ≤ 100)
theorem few_end {l : List Pc} (h : l.take l.length = l) (hk : fewB (l.take l.length) = true) : fewB l = true := by rwa [h] at hk
theorem few_step {l : List Pc} {k : Nat} {y : Pc} (h : l[k]? = some y) : fewB (l.take (k + 1)) = (fewB (l.take k) && decide (y.n ≤ 100)) := by
  unfold fewB
  rw [List.take_add_one, h]
  simp
theorem few_no {l : List Pc} {k : Nat} {y : Pc} (h : l[k]? = some y) (hy : ¬ y.n ≤ 100) : fewB l = false := by
  unfold fewB
  rw [List.all_eq_false]
  exact ⟨y, List.mem_of_getElem? h, by simpa using hy⟩
end
end Go.Proofs.Ytnkchmafofpimaa
