/- RgM: RgM. -/
import Derived.Test.YtnkchmafofpimaaPlaM
namespace Go.Proofs.Ytnkchmafofpimaa
section
open Go
/-- An entry: its epoch, its owner. -/
abbrev En : Type := Int × Int
def cmpE (a b : En) : Int := orI (cmpI a.1 b.1) (cmpI a.2 b.2)
def mayE (x : En) : Bool := decide ((x.1 = 0 ∧ x.2 = 0) ∨ (1 ≤ x.1 ∧ x.1 ≤ 1000000 ∧ 0 ≤ x.2 ∧ x.2 < 8))
def joinE (a b : En) : En := joinC cmpE a b
theorem cmpE_cmp : Cmp cmpE := (cmpI_cmp.key fun a : En => a.1).lex (cmpI_cmp.key fun a : En => a.2)
theorem cmpE_zero (a b : En) : cmpE a b = 0 ↔ a = b := by
  unfold cmpE
  rw [orI_zero, cmpI_zero, cmpI_zero]
  exact ⟨fun h => Prod.ext h.1 h.2, fun h => by rw [h]; exact ⟨rfl, rfl⟩⟩
theorem cmpE_eq' {a b : En} (h : cmpE a b = 0) : a = b := (cmpE_zero a b).1 h
theorem joinE_comm (a b : En) : joinE a b = joinE b a := cmpE_cmp.join_comm (fun _ _ => cmpE_eq') a b
theorem joinE_assoc (a b c : En) : joinE (joinE a b) c = joinE a (joinE b c) := cmpE_cmp.join_assoc (fun _ _ => cmpE_eq') a b c
theorem joinE_self (a : En) : joinE a a = a := joinC_self a
theorem joinE_or (a b : En) : joinE a b = a ∨ joinE a b = b := joinC_or a b
theorem joinE_le (a b : En) : cmpE a (joinE a b) ≤ 0 ∧ cmpE b (joinE a b) ≤ 0 := cmpE_cmp.join_le a b
theorem cmpE_up {a b : En} (h : b.1 < a.1) : cmpE a b = 1 := by
  unfold cmpE
  rcases cmpI_spec a.1 b.1 with ⟨h1, e⟩ | ⟨h1, e⟩ | ⟨h1, e⟩
  · omega
  · omega
  · rw [e]; rfl
section
variable {α : Type} {c : α → α → Int}
theorem Cmp.le_join (h : Cmp c) (hz : ∀ a b, c a b = 0 → a = b) {a b : α} : c a b ≤ 0 ↔ joinC c a b = b := by
  constructor
  · intro h1
    have h2 := h.join_le a b
    refine h.anti hz ?_ h2.2
    rcases joinC_or (c := c) a b with e | e <;> rw [e]
    · exact h1
    · rw [h.self]; exact Int.le_refl 0
  · intro h1
    have h2 := (h.join_le a b).1
    rwa [h1] at h2
theorem Cmp.lub (h : Cmp c) {a b m : α} : c (joinC c a b) m ≤ 0 ↔ c a m ≤ 0 ∧ c b m ≤ 0 := by
  constructor
  · intro h1
    exact ⟨h.trans (h.join_le a b).1 h1, h.trans (h.join_le a b).2 h1⟩
  · rintro ⟨h1, h2⟩
    rcases joinC_or (c := c) a b with e | e <;> rw [e] <;> assumption
end
/-- A ring. -/
structure Rg where
  s : Nat → Int
  p : Pl
  e : Nat → En
def tab8 (f : Nat → Int) : List Int := [f 0, f 1, f 2, f 3, f 4, f 5, f 6, f 7]
def tab16 (f : Nat → En) : List En := [f 0, f 1, f 2, f 3, f 4, f 5, f 6, f 7, f 8, f 9, f 10, f 11, f 12, f 13, f 14, f 15]
theorem tab8_is (f : Nat → Int) : tab8 f = (List.range 8).map f := rfl
theorem tab16_is (f : Nat → En) : tab16 f = (List.range 16).map f := rfl
theorem tab8_at (f : Nat → Int) {j : Nat} (h : j < 8) : (tab8 f)[j]? = some (f j) := by
  rw [tab8_is, List.getElem?_map, List.getElem?_range h]
  rfl
theorem tab16_at (f : Nat → En) {j : Nat} (h : j < 16) : (tab16 f)[j]? = some (f j) := by
  rw [tab16_is, List.getElem?_map, List.getElem?_range h]
  rfl
theorem map_range_eq {β : Type} {f g : Nat → β} {n : Nat} : (List.range n).map f = (List.range n).map g ↔ ∀ j, j < n → f j = g j := by
  constructor
  · intro h j hj
    have h1 : ((List.range n).map f)[j]? = some (f j) := by rw [List.getElem?_map, List.getElem?_range hj]; rfl
    have h2 : ((List.range n).map g)[j]? = some (g j) := by rw [List.getElem?_map, List.getElem?_range hj]; rfl
    rw [h, h2] at h1
    exact (Option.some.inj h1).symm
  · intro h
    exact List.map_congr_left fun j hj => h j (List.mem_range.1 hj)
theorem tab8_eq {f g : Nat → Int} : tab8 f = tab8 g ↔ ∀ j, j < 8 → f j = g j := by rw [tab8_is, tab8_is]; exact map_range_eq
theorem tab16_eq {f g : Nat → En} : tab16 f = tab16 g ↔ ∀ j, j < 16 → f j = g j := by rw [tab16_is, tab16_is]; exact map_range_eq
theorem all8 {f : Nat → Int} {p : Int → Bool} : (tab8 f).all p = true ↔ ∀ j, j < 8 → p (f j) = true := by
  rw [tab8_is, List.all_map, List.all_eq_true]
  exact ⟨fun h j hj => h j (List.mem_range.2 hj), fun h j hj => h j (List.mem_range.1 hj)⟩
theorem all16 {f : Nat → En} {p : En → Bool} : (tab16 f).all p = true ↔ ∀ j, j < 16 → p (f j) = true := by
  rw [tab16_is, List.all_map, List.all_eq_true]
  exact ⟨fun h j hj => h j (List.mem_range.2 hj), fun h j hj => h j (List.mem_range.1 hj)⟩
def upd {β : Type} (f : Nat → β) (i : Nat) (x : β) : Nat → β := fun j => if j = i then x else f j
def eqR (a b : Rg) : Prop := (∀ i, i < 8 → a.s i = b.s i) ∧ a.p = b.p ∧ ∀ i, i < 16 → a.e i = b.e i
def leR (a b : Rg) : Prop := (∀ i, i < 8 → a.s i ≤ b.s i) ∧ cmpP a.p b.p ≤ 0 ∧ ∀ i, i < 16 → cmpE (a.e i) (b.e i) ≤ 0
def joinR (a b : Rg) : Rg := ⟨fun i => max (a.s i) (b.s i), joinP a.p b.p, fun i => joinE (a.e i) (b.e i)⟩
def sameR (a b : Rg) : Bool := decide (tab8 a.s = tab8 b.s) && (decide (tab16 a.e = tab16 b.e) && (cmpP a.p b.p == 0))
def belowR (a b : Rg) : Bool := sameR (joinR a b) b
def statB (x : Int) : Bool := decide (0 ≤ x ∧ x ≤ 4)
def mayR (r : Rg) : Bool := (tab8 r.s).all statB && ((tab16 r.e).all mayE && mayP r.p)
def noR : Rg := ⟨fun _ => 0, (0, 0, []), fun _ => (0, 0)⟩
def oneR (n : Nat) : Rg := ⟨upd (fun _ => 0) n 2, (0, 0, []), fun _ => (1, (n : Int))⟩
theorem joinR_comm (a b : Rg) : joinR a b = joinR b a := by
  unfold joinR
  rw [joinP_comm]
  congr 1
  · funext i; omega
  · funext i; exact joinE_comm _ _
theorem joinR_assoc (a b c : Rg) : joinR (joinR a b) c = joinR a (joinR b c) := by
  unfold joinR
  dsimp only
  rw [joinP_assoc]
  congr 1
  · funext i; omega
  · funext i; exact joinE_assoc _ _ _
theorem joinR_self (a : Rg) : joinR a a = a := by
  unfold joinR
  rw [joinP_self]
  cases a
  congr 1
  · funext i; dsimp only; omega
  · funext i; exact joinE_self _
theorem sameR_iff {a b : Rg} : sameR a b = true ↔ eqR a b := by
  unfold sameR eqR
  rw [Bool.and_eq_true, Bool.and_eq_true, decide_eq_true_iff, decide_eq_true_iff, beq_iff_eq, tab8_eq, tab16_eq, cmpP_zero]
  exact ⟨fun ⟨h1, h2, h3⟩ => ⟨h1, h3, h2⟩, fun ⟨h1, h2, h3⟩ => ⟨h1, h3, h2⟩⟩
theorem sameR_self (a : Rg) : sameR a a = true := sameR_iff.2 ⟨fun _ _ => rfl, rfl, fun _ _ => rfl⟩
theorem belowR_iff {a b : Rg} : belowR a b = true ↔ leR a b := by
  unfold belowR
  rw [sameR_iff]
  unfold eqR leR joinR
  dsimp only
  constructor
  · rintro ⟨h1, h2, h3⟩
    exact ⟨fun i hi => by have := h1 i hi; omega, (cmpP_cmp.le_join fun _ _ => cmpP_eq).2 h2, fun i hi => (cmpE_cmp.le_join fun _ _ => cmpE_eq').2 (h3 i hi)⟩
  · rintro ⟨h1, h2, h3⟩
    exact ⟨fun i hi => by have := h1 i hi; omega, (cmpP_cmp.le_join fun _ _ => cmpP_eq).1 h2, fun i hi => (cmpE_cmp.le_join fun _ _ => cmpE_eq').1 (h3 i hi)⟩
theorem leR_trans {a b c : Rg} (h1 : leR a b) (h2 : leR b c) : leR a c :=
  ⟨fun i hi => Int.le_trans (h1.1 i hi) (h2.1 i hi), cmpP_cmp.trans h1.2.1 h2.2.1, fun i hi => cmpE_cmp.trans (h1.2.2 i hi) (h2.2.2 i hi)⟩
theorem leR_lub {a b c : Rg} : leR (joinR a b) c ↔ leR a c ∧ leR b c := by
  constructor
  · rintro ⟨h1, h2, h3⟩
    refine ⟨⟨fun i hi => ?_, (cmpP_cmp.lub.1 h2).1, fun i hi => (cmpE_cmp.lub.1 (h3 i hi)).1⟩, ⟨fun i hi => ?_, (cmpP_cmp.lub.1 h2).2, fun i hi => (cmpE_cmp.lub.1 (h3 i hi)).2⟩⟩
    · have : max (a.s i) (b.s i) ≤ c.s i := h1 i hi
      omega
    · have : max (a.s i) (b.s i) ≤ c.s i := h1 i hi
      omega
  · rintro ⟨⟨h1, h2, h3⟩, ⟨k1, k2, k3⟩⟩
    refine ⟨fun i hi => ?_, cmpP_cmp.lub.2 ⟨h2, k2⟩, fun i hi => cmpE_cmp.lub.2 ⟨h3 i hi, k3 i hi⟩⟩
    have := h1 i hi
    have := k1 i hi
    show max (a.s i) (b.s i) ≤ c.s i
    omega
theorem leR_anti {a b : Rg} : (leR a b ∧ leR b a) ↔ eqR a b := by
  constructor
  · rintro ⟨⟨h1, h2, h3⟩, ⟨k1, k2, k3⟩⟩
    exact ⟨fun i hi => Int.le_antisymm (h1 i hi) (k1 i hi), cmpP_cmp.anti (fun _ _ => cmpP_eq) h2 k2, fun i hi => cmpE_cmp.anti (fun _ _ => cmpE_eq') (h3 i hi) (k3 i hi)⟩
  · rintro ⟨h1, h2, h3⟩
    refine ⟨⟨fun i hi => by rw [h1 i hi]; exact Int.le_refl _, by rw [h2, cmpP_cmp.self]; exact Int.le_refl 0, fun i hi => by rw [h3 i hi, cmpE_cmp.self]; exact Int.le_refl 0⟩, ⟨fun i hi => by rw [h1 i hi]; exact Int.le_refl _, by rw [h2, cmpP_cmp.self]; exact Int.le_refl 0, fun i hi => by rw [h3 i hi, cmpE_cmp.self]; exact Int.le_refl 0⟩⟩
theorem below_left (a b : Rg) : belowR a (joinR a b) = true := by
  unfold belowR
  rw [← joinR_assoc, joinR_self]
  exact sameR_self _
theorem below_right (a b : Rg) : belowR b (joinR a b) = true := by
  rw [joinR_comm]
  exact below_left b a
theorem below_lub {a b c : Rg} (h : belowR a c = true) : belowR b c = belowR (joinR a b) c := by
  rw [Bool.eq_iff_iff, belowR_iff, belowR_iff, leR_lub]
  exact ⟨fun h2 => ⟨belowR_iff.1 h, h2⟩, fun h2 => h2.2⟩
theorem below_trans {a b c : Rg} (h1 : belowR a b = true) (h2 : belowR b c = true) : belowR a c = true := belowR_iff.2 (leR_trans (belowR_iff.1 h1) (belowR_iff.1 h2))
theorem below_anti {a b : Rg} (h : belowR a b = true) : belowR b a = sameR a b := by
  rw [Bool.eq_iff_iff, belowR_iff, sameR_iff, ← leR_anti]
  exact ⟨fun h2 => ⟨belowR_iff.1 h, h2⟩, fun h2 => h2.2⟩
theorem mayR_join {a b : Rg} (h1 : mayR a = true) (h2 : mayR b = true) : mayR (joinR a b) = true := by
  unfold mayR at *
  rw [Bool.and_eq_true, Bool.and_eq_true, all8, all16] at *
  refine ⟨fun j hj => ?_, fun j hj => ?_, ?_⟩
  · have k1 := of_decide_eq_true (h1.1 j hj)
    have k2 := of_decide_eq_true (h2.1 j hj)
    exact decide_eq_true (show 0 ≤ max (a.s j) (b.s j) ∧ max (a.s j) (b.s j) ≤ 4 by omega)
  · show mayE (joinE (a.e j) (b.e j)) = true
    rcases joinE_or (a.e j) (b.e j) with e | e <;> rw [e]
    · exact h1.2.1 j hj
    · exact h2.2.1 j hj
  · show mayP (joinP a.p b.p) = true
    rcases joinP_or a.p b.p with e | e <;> rw [e]
    · exact h1.2.2
    · exact h2.2.2
theorem joinR_len {a b : Rg} {n : Nat} (ha : a.p.2.2.length ≤ n) (hb : b.p.2.2.length ≤ n) : (joinR a b).p.2.2.length ≤ n := joinP_len (j := joinP a.p b.p) rfl ha hb
/-- A status is raised. -/
def riseR (r : Rg) (n x : Int) : Rg × Int := if mayR r = true ∧ nodeE n = true ∧ 1 ≤ x ∧ x ≤ 4 then (if x ≤ r.s n.toNat then (noR, 8) else (⟨upd r.s n.toNat x, r.p, r.e⟩, 0)) else (noR, 1)
theorem riseR_cases (r : Rg) (n x : Int) : (mayR r = false ∧ riseR r n x = (noR, 1)) ∨ (mayR r = true ∧ nodeE n = false ∧ riseR r n x = (noR, 1)) ∨ (mayR r = true ∧ nodeE n = true ∧ ¬ (1 ≤ x ∧ x ≤ 4) ∧ riseR r n x = (noR, 1)) ∨ (mayR r = true ∧ nodeE n = true ∧ (1 ≤ x ∧ x ≤ 4) ∧ x ≤ r.s n.toNat ∧ riseR r n x = (noR, 8)) ∨ (mayR r = true ∧ nodeE n = true ∧ (1 ≤ x ∧ x ≤ 4) ∧ ¬ x ≤ r.s n.toNat ∧ riseR r n x = (⟨upd r.s n.toNat x, r.p, r.e⟩, 0)) := by
  unfold riseR
  by_cases hx : 1 ≤ x ∧ x ≤ 4
  · cases mayR r <;> cases nodeE n <;> simp [hx]
    by_cases hs : x ≤ r.s n.toNat <;> simp [hs] <;> omega
  · cases mayR r <;> cases nodeE n <;> simp [hx]
theorem riseR_yes {r : Rg} {n x : Int} (h1 : mayR r = true) (h2 : nodeE n = true) (h3 : 1 ≤ x ∧ x ≤ 4) (h4 : ¬ x ≤ r.s n.toNat) : riseR r n x = (⟨upd r.s n.toNat x, r.p, r.e⟩, 0) := by
  unfold riseR
  rw [if_pos ⟨h1, h2, h3⟩, if_neg h4]
theorem mayR_no : mayR noR = true := by decide +kernel
theorem mayR_rise {r : Rg} {i : Nat} {x : Int} (h : mayR r = true) (hx : 1 ≤ x ∧ x ≤ 4) : mayR ⟨upd r.s i x, r.p, r.e⟩ = true := by
  unfold mayR at *
  rw [Bool.and_eq_true, Bool.and_eq_true, all8] at *
  refine ⟨fun j hj => ?_, h.2⟩
  show statB (if j = i then x else r.s j) = true
  split
  · exact decide_eq_true (by omega)
  · exact h.1 j hj
theorem below_rise {r : Rg} {i : Nat} {x : Int} (h : ¬ x ≤ r.s i) : belowR r ⟨upd r.s i x, r.p, r.e⟩ = true := by
  rw [belowR_iff]
  refine ⟨fun j _ => ?_, by rw [cmpP_cmp.self]; exact Int.le_refl 0, fun j _ => by rw [cmpE_cmp.self]; exact Int.le_refl 0⟩
  show r.s j ≤ if j = i then x else r.s j
  split
  · rename_i e
    subst e
    omega
  · exact Int.le_refl _
theorem below_rise' {r : Rg} {i : Nat} {x : Int} (hi : i < 8) (h : ¬ x ≤ r.s i) : belowR ⟨upd r.s i x, r.p, r.e⟩ r = false := by
  rw [← Bool.not_eq_true, belowR_iff]
  rintro ⟨h1, _⟩
  have h2 : (if i = i then x else r.s i) ≤ r.s i := h1 i hi
  rw [if_pos rfl] at h2
  exact h h2
theorem riseR_again {r : Rg} {n x : Int} (h1 : mayR r = true) (h2 : nodeE n = true) (h3 : 1 ≤ x ∧ x ≤ 4) : riseR ⟨upd r.s n.toNat x, r.p, r.e⟩ n x = (noR, 8) := by
  unfold riseR
  rw [if_pos ⟨mayR_rise h1 h3, h2, h3⟩, if_pos]
  show x ≤ if n.toNat = n.toNat then x else _
  rw [if_pos rfl]
  exact Int.le_refl _
end
end Go.Proofs.Ytnkchmafofpimaa
