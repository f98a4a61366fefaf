/- RgM: PlaM, RgM. -/
import Derived.Test.YtcchkkdbagpgjaaGreatProg
import Derived.Lib.Small
namespace Go.Proofs.YtcchkkdbagpgjaaGreat
section
open Go
def cmpI (a b : Int) : Int := if a < b then -1 else if b < a then 1 else 0
def orI (a b : Int) : Int := if a ≠ 0 then a else b
theorem cmpI_spec (a b : Int) : (a < b ∧ cmpI a b = -1) ∨ (a = b ∧ cmpI a b = 0) ∨ (b < a ∧ cmpI a b = 1) := by
 unfold cmpI
 split
 ·exact .inl ⟨by assumption, rfl⟩
 ·split
  ·exact .inr (.inr ⟨by assumption, rfl⟩)
  ·exact .inr (.inl ⟨by omega, rfl⟩)
theorem cmpI_zero (a b : Int) : cmpI a b = 0 ↔ a = b := by
 rcases cmpI_spec a b with ⟨h, e⟩ | ⟨h, e⟩ | ⟨h, e⟩ <;> rw [e] <;> constructor <;> intro h1 <;> omega
theorem orI_zero (a b : Int) : orI a b = 0 ↔ a = 0 ∧ b = 0 := by
 unfold orI
 split <;> constructor <;> intro h <;> omega
theorem orI_nil (a : Int) : orI a 0 = a := by
 unfold orI
 split <;> omega
theorem orI_self {a b : Int} (h : a ≠ 0) : orI a b = a := if_pos h
theorem orI_next {a b : Int} (h : a = 0) : orI a b = b := if_neg (by omega)
structure Cmp {α : Type} (c : α → α → Int) : Prop where
 neg : ∀ a b, c a b = -c b a
 bnd : ∀ a b, -1 ≤ c a b ∧ c a b ≤ 1
 trans : ∀ {a b d}, c a b ≤ 0 → c b d ≤ 0 → c a d ≤ 0
section
variable {α β : Type} {c d : α → α → Int}
theorem Cmp.self (h : Cmp c) (a : α) : c a a = 0 := by
 have := h.neg a a
 omega
theorem Cmp.lt (h : Cmp c) {a b e : α} (h1 : c a b < 0) (h2 : c b e ≤ 0) : c a e < 0 := by
 by_cases h0 : c a e < 0
 ·exact h0
 have n1 := h.neg a e
 have n2 := h.neg a b
 have h3 : c b a ≤ 0 := h.trans h2 (by omega)
 omega
theorem Cmp.lt' (h : Cmp c) {a b e : α} (h1 : c a b ≤ 0) (h2 : c b e < 0) : c a e < 0 := by
 by_cases h0 : c a e < 0
 ·exact h0
 have n1 := h.neg a e
 have n2 := h.neg b e
 have h3 : c e b ≤ 0 := h.trans (by omega) h1
 omega
theorem Cmp.lex_trans (h : Cmp c) {a b e : α} {x y z : Int} (hx : x ≤ 0 → y ≤ 0 → z ≤ 0) (h1 : orI (c a b) x ≤ 0) (h2 : orI (c b e) y ≤ 0) : orI (c a e) z ≤ 0 := by
 have k1 : c a b ≤ 0 := by unfold orI at h1; split at h1 <;> omega
 have k2 : c b e ≤ 0 := by unfold orI at h2; split at h2 <;> omega
 by_cases q1 : c a b < 0
 ·have := h.lt q1 k2
  rw [orI_self (by omega)]
  omega
 by_cases q2 : c b e < 0
 ·have := h.lt' k1 q2
  rw [orI_self (by omega)]
  omega
 have k3 : c a e ≤ 0 := h.trans k1 k2
 have n1 := h.neg a b
 have n2 := h.neg b e
 have n3 := h.neg a e
 have k4 : c e a ≤ 0 := h.trans (b := b) (by omega) (by omega)
 rw [orI_next (by omega)] at h1 h2 ⊢
 exact hx h1 h2
theorem orI_neg {a b x y : Int} (h1 : a = -b) (h2 : x = -y) : orI a x = -orI b y := by
 unfold orI
 split <;> split <;> omega
theorem orI_bnd {a x : Int} (h1 : -1 ≤ a ∧ a ≤ 1) (h2 : -1 ≤ x ∧ x ≤ 1) : -1 ≤ orI a x ∧ orI a x ≤ 1 := by
 unfold orI
 split <;> assumption
theorem Cmp.lex (hc : Cmp c) (hd : Cmp d) : Cmp fun a b => orI (c a b) (d a b) where
 neg a b := orI_neg (hc.neg a b) (hd.neg a b)
 bnd a b := orI_bnd (hc.bnd a b) (hd.bnd a b)
 trans h1 h2 := hc.lex_trans (fun k1 k2 => hd.trans k1 k2) h1 h2
theorem Cmp.key (hc : Cmp c) (f : β → α) : Cmp fun a b => c (f a) (f b) where
 neg _a _b := hc.neg _ _
 bnd _a _b := hc.bnd _ _
 trans h1 h2 := hc.trans h1 h2
theorem cmpI_cmp : Cmp cmpI where
 neg a b := by
  rcases cmpI_spec a b with ⟨h, e⟩ | ⟨h, e⟩ | ⟨h, e⟩ <;> rcases cmpI_spec b a with ⟨h', e'⟩ | ⟨h', e'⟩ | ⟨h', e'⟩ <;> omega
 bnd a b := by
  rcases cmpI_spec a b with ⟨h, e⟩ | ⟨h, e⟩ | ⟨h, e⟩ <;> omega
 trans {a b d} h1 h2 := by
  rcases cmpI_spec a b with ⟨h, e⟩ | ⟨h, e⟩ | ⟨h, e⟩ <;> rcases cmpI_spec b d with ⟨h', e'⟩ | ⟨h', e'⟩ | ⟨h', e'⟩ <;> rcases cmpI_spec a d with ⟨h3, e3⟩ | ⟨h3, e3⟩ | ⟨h3, e3⟩ <;> omega
def cmpL : List Int → List Int → Int
 | [], [] => 0
 | [], _ :: _ => -1
 | _ :: _, [] => 1
 | x :: xs, y :: ys => orI (cmpI x y) (cmpL xs ys)
theorem cmpL_neg : ∀ a b, cmpL a b = -cmpL b a
 | [], [] => rfl
 | [], _ :: _ => rfl
 | _ :: _, [] => rfl
 | x :: xs, y :: ys => orI_neg (cmpI_cmp.neg x y) (cmpL_neg xs ys)
theorem cmpL_zero : ∀ a b, cmpL a b = 0 ↔ a = b
 | [], [] => by simp [cmpL]
 | [], _ :: _ => by simp [cmpL]
 | _ :: _, [] => by simp [cmpL]
 | x :: xs, y :: ys => by
  show orI (cmpI x y) (cmpL xs ys) = 0 ↔ _
  rw [orI_zero, cmpI_zero, cmpL_zero xs ys, List.cons.injEq]
end
abbrev Pl : Type := Int × Int × List Int
def nodeE (n : Int) : Bool := decide (0 ≤ n ∧ n < 8)
def tgtL (t : List Int) : Bool := decide (t.length = 16) && t.all nodeE
def noneB (v b : Int) (n : Nat) : Bool := decide (v = 0 ∧ b = 0 ∧ n = 0)
def mayP (x : Pl) : Bool := noneB x.1 x.2.1 x.2.2.length || (decide (1 ≤ x.1 ∧ x.1 ≤ 1000000) && nodeE x.2.1 && tgtL x.2.2)
def cmpP (a b : Pl) : Int := orI (cmpI a.1 b.1) (orI (cmpI a.2.1 b.2.1) (orI (cmpI a.2.2.length b.2.2.length) (cmpL a.2.2 b.2.2)))
theorem cmpP_zero (a b : Pl) : cmpP a b = 0 ↔ a = b := by
 obtain ⟨a1, a2, s⟩ := a
 obtain ⟨b1, b2, t⟩ := b
 unfold cmpP
 rw [orI_zero, orI_zero, orI_zero, cmpI_zero, cmpI_zero, cmpI_zero, cmpL_zero]
 constructor
 ·rintro ⟨h1, h2, _, h4⟩
  dsimp only at h1 h2 h4
  rw [h1, h2, h4]
 ·intro h
  simp only [Prod.mk.injEq] at h
  obtain ⟨h1, h2, h3⟩ := h
  subst h1 h2 h3
  exact ⟨rfl, rfl, rfl, rfl⟩
theorem cmpP_eq {a b : Pl} (h : cmpP a b = 0) : a = b := (cmpP_zero a b).1 h
theorem tgtL_no {t : List Int} {k : Nat} {x : Int} (h : t[k]? = some x) (hx : nodeE x = false) : tgtL t = false := by
 unfold tgtL
 rw [Bool.and_eq_false_iff]
 refine .inr ?_
 rw [List.all_eq_false]
 exact ⟨x, List.mem_of_getElem? h, by simp [hx]⟩
theorem all_step {t : List Int} {k : Nat} {x : Int} (h : t[k]? = some x) : (t.take (k + 1)).all nodeE = ((t.take k).all nodeE && nodeE x) := by
 rw [List.take_add_one, h]
 simp
def orL : List Int → Int
 | [] => 0
 | x :: l => orI x (orL l)
theorem orL_step {l : List Int} {k : Nat} {x : Int} (h : l[k]? = some x) : orL (l.drop k) = orI x (orL (l.drop (k + 1))) := by
 have hlt := (List.getElem?_eq_some_iff.1 h).1
 have hx := (List.getElem?_eq_some_iff.1 h).2
 rw [List.drop_eq_getElem_cons hlt, hx]
 rfl
theorem cmpL_step {a b : List Int} {k : Nat} {x y : Int} (ha : a[k]? = some x) (hb : b[k]? = some y) : cmpL (a.drop k) (b.drop k) = orI (cmpI x y) (cmpL (a.drop (k + 1)) (b.drop (k + 1))) := by
 have h1 := (List.getElem?_eq_some_iff.1 ha).1
 have h2 := (List.getElem?_eq_some_iff.1 ha).2
 have h3 := (List.getElem?_eq_some_iff.1 hb).1
 have h4 := (List.getElem?_eq_some_iff.1 hb).2
 rw [List.drop_eq_getElem_cons h1, List.drop_eq_getElem_cons h3, h2, h4]
 rfl
theorem cmpL_long {a b : List Int} {k : Nat} (ha : k < a.length) (hb : b.length ≤ k) : cmpL (a.drop k) (b.drop k) = 1 := by
 rw [List.drop_eq_getElem_cons ha, List.drop_eq_nil_of_le hb]
 rfl
theorem cmpL_end {a b : List Int} {k : Nat} (ha : a.length ≤ k) (hka : k ≤ a.length) (hb : k ≤ b.length) : cmpL (a.drop k) (b.drop k) = if a.length < b.length then -1 else 0 := by
 rw [List.drop_eq_nil_of_le ha]
 split
 ·rw [List.drop_eq_getElem_cons (show k < b.length by omega)]
  rfl
 ·rw [List.drop_eq_nil_of_le (show b.length ≤ k by omega)]
  rfl
theorem cmpP_or (a b : Pl) : orL [cmpI a.1 b.1, cmpI a.2.1 b.2.1, cmpI a.2.2.length b.2.2.length, cmpL a.2.2 b.2.2] = cmpP a b := by
 show orI _ (orI _ (orI _ (orI _ 0))) = _
 rw [orI_nil]
 rfl
end
section
open Go
abbrev En : Type := Int × Int
def cmpE (a b : En) : Int := orI (cmpI a.1 b.1) (cmpI a.2 b.2)
def mayE (x : En) : Bool := decide ((x.1 = 0 ∧ x.2 = 0) ∨ (1 ≤ x.1 ∧ x.1 ≤ 1000000 ∧ 0 ≤ x.2 ∧ x.2 < 8))
theorem cmpE_cmp : Cmp cmpE := (cmpI_cmp.key fun a : En => a.1).lex (cmpI_cmp.key fun a : En => a.2)
theorem cmpE_zero (a b : En) : cmpE a b = 0 ↔ a = b := by
 unfold cmpE
 rw [orI_zero, cmpI_zero, cmpI_zero]
 exact ⟨fun h => Prod.ext h.1 h.2, fun h => by rw [h]; exact ⟨rfl, rfl⟩⟩
theorem cmpE_eq' {a b : En} (h : cmpE a b = 0) : a = b := (cmpE_zero a b).1 h
structure Rg where
 s : Nat → Int
 p : Pl
 e : Nat → En
def tab8 (f : Nat → Int) : List Int := [f 0, f 1, f 2, f 3, f 4, f 5, f 6, f 7]
def tab16 (f : Nat → En) : List En := [f 0, f 1, f 2, f 3, f 4, f 5, f 6, f 7, f 8, f 9, f 10, f 11, f 12, f 13, f 14, f 15]
theorem tab8_is (f : Nat → Int) : tab8 f = (List.range 8).map f := rfl
theorem tab16_is (f : Nat → En) : tab16 f = (List.range 16).map f := rfl
theorem tab8_at (f : Nat → Int) {j : Nat} (h : j < 8) : (tab8 f)[j]? = some (f j) := by
 rw [tab8_is, List.getElem?_map, List.getElem?_range h]
 rfl
theorem tab16_at (f : Nat → En) {j : Nat} (h : j < 16) : (tab16 f)[j]? = some (f j) := by
 rw [tab16_is, List.getElem?_map, List.getElem?_range h]
 rfl
theorem map_range_eq {β : Type} {f g : Nat → β} {n : Nat} : (List.range n).map f = (List.range n).map g ↔ ∀ j, j < n → f j = g j := by
 constructor
 ·intro h j hj
  have h1 : ((List.range n).map f)[j]? = some (f j) := by rw [List.getElem?_map, List.getElem?_range hj]; rfl
  have h2 : ((List.range n).map g)[j]? = some (g j) := by rw [List.getElem?_map, List.getElem?_range hj]; rfl
  rw [h, h2] at h1
  exact (Option.some.inj h1).symm
 ·intro h
  exact List.map_congr_left fun j hj => h j (List.mem_range.1 hj)
theorem tab8_eq {f g : Nat → Int} : tab8 f = tab8 g ↔ ∀ j, j < 8 → f j = g j := by rw [tab8_is, tab8_is]; exact map_range_eq
theorem tab16_eq {f g : Nat → En} : tab16 f = tab16 g ↔ ∀ j, j < 16 → f j = g j := by rw [tab16_is, tab16_is]; exact map_range_eq
theorem all8 {f : Nat → Int} {p : Int → Bool} : (tab8 f).all p = true ↔ ∀ j, j < 8 → p (f j) = true := by
 rw [tab8_is, List.all_map, List.all_eq_true]
 exact ⟨fun h j hj => h j (List.mem_range.2 hj), fun h j hj => h j (List.mem_range.1 hj)⟩
theorem all16 {f : Nat → En} {p : En → Bool} : (tab16 f).all p = true ↔ ∀ j, j < 16 → p (f j) = true := by
 rw [tab16_is, List.all_map, List.all_eq_true]
 exact ⟨fun h j hj => h j (List.mem_range.2 hj), fun h j hj => h j (List.mem_range.1 hj)⟩
def upd {β : Type} (f : Nat → β) (i : Nat) (x : β) : Nat → β := fun j => if j = i then x else f j
def eqR (a b : Rg) : Prop := (∀ i, i < 8 → a.s i = b.s i) ∧ a.p = b.p ∧ ∀ i, i < 16 → a.e i = b.e i
def sameR (a b : Rg) : Bool := decide (tab8 a.s = tab8 b.s) && (decide (tab16 a.e = tab16 b.e) && (cmpP a.p b.p == 0))
def statB (x : Int) : Bool := decide (0 ≤ x ∧ x ≤ 4)
def mayR (r : Rg) : Bool := (tab8 r.s).all statB && ((tab16 r.e).all mayE && mayP r.p)
def noR : Rg := ⟨fun _ => 0, (0, 0, []), fun _ => (0, 0)⟩
theorem sameR_iff {a b : Rg} : sameR a b = true ↔ eqR a b := by
 unfold sameR eqR
 rw [Bool.and_eq_true, Bool.and_eq_true, decide_eq_true_iff, decide_eq_true_iff, beq_iff_eq, tab8_eq, tab16_eq, cmpP_zero]
 exact ⟨fun ⟨h1, h2, h3⟩ => ⟨h1, h3, h2⟩, fun ⟨h1, h2, h3⟩ => ⟨h1, h3, h2⟩⟩
end
end Go.Proofs.YtcchkkdbagpgjaaGreat
