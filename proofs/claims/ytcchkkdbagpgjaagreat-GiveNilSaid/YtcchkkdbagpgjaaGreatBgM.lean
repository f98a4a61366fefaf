/- BgM: VcM, BgM, BgP, BgS. -/
import Derived.Test.YtcchkkdbagpgjaaGreatRgM
namespace Go.Proofs.YtcchkkdbagpgjaaGreat
section
open Go
def joinV (a b : Nat → Int) : Nat → Int := fun i => max (a i) (b i)
def belowV (a b : Nat → Int) : Bool := decide (tab8 (joinV a b) = tab8 b)
def numB (x : Int) : Bool := decide (0 ≤ x ∧ x ≤ 1000000)
def mayV (a : Nat → Int) : Bool := (tab8 a).all numB
def hasV (a : Nat → Int) (d : En) : Bool := nodeE d.1 && (decide (1 ≤ d.2) && decide (d.2 ≤ a d.1.toNat))
def withV (a : Nat → Int) (d : En) : Nat → Int := if nodeE d.1 = true then upd a d.1.toNat (max (a d.1.toNat) d.2) else a
theorem belowV_iff {a b : Nat → Int} : belowV a b = true ↔ ∀ i, i < 8 → a i ≤ b i := by
 unfold belowV
 rw [decide_eq_true_iff, tab8_eq]
 constructor
 ·intro h i hi
  have h1 : max (a i) (b i) = b i := h i hi
  omega
 ·intro h i hi
  have h1 := h i hi
  show max (a i) (b i) = b i
  omega
theorem hasV_iff {a : Nat → Int} {d : En} : hasV a d = true ↔ (0 ≤ d.1 ∧ d.1 < 8) ∧ 1 ≤ d.2 ∧ d.2 ≤ a d.1.toNat := by
 unfold hasV nodeE
 rw [Bool.and_eq_true, Bool.and_eq_true, decide_eq_true_iff, decide_eq_true_iff, decide_eq_true_iff]
theorem hasV_join (a b : Nat → Int) (d : En) : hasV (joinV a b) d = (hasV a d || hasV b d) := by
 rw [Bool.eq_iff_iff, Bool.or_eq_true, hasV_iff, hasV_iff, hasV_iff]
 show (_ ∧ _ ∧ d.2 ≤ max (a d.1.toNat) (b d.1.toNat)) ↔ _
 constructor
 ·rintro ⟨h1, h2, h3⟩
  rcases (show d.2 ≤ a d.1.toNat ∨ d.2 ≤ b d.1.toNat from by omega) with h | h
  ·exact .inl ⟨h1, h2, h⟩
  ·exact .inr ⟨h1, h2, h⟩
 ·rintro (⟨h1, h2, h3⟩ | ⟨h1, h2, h3⟩)
  ·exact ⟨h1, h2, by omega⟩
  ·exact ⟨h1, h2, by omega⟩
theorem hasV_below {a b : Nat → Int} {d : En} (h : belowV a b = true) (h1 : hasV a d = true) : hasV b d = true := by
 rw [hasV_iff] at *
 exact ⟨h1.1, h1.2.1, Int.le_trans h1.2.2 (belowV_iff.1 h _ (by omega))⟩
theorem withV_out {a : Nat → Int} {d : En} (h : ¬ (0 ≤ d.1 ∧ d.1 < 8)) : withV a d = a := if_neg fun h1 => h (of_decide_eq_true h1)
theorem withV_in {a : Nat → Int} {d : En} (h : 0 ≤ d.1 ∧ d.1 < 8) : withV a d = upd a d.1.toNat (max (a d.1.toNat) d.2) := if_pos (decide_eq_true h)
theorem withV_at (a : Nat → Int) (d : En) (i : Nat) : (withV a d i = a i ∧ ¬ ((0 ≤ d.1 ∧ d.1 < 8) ∧ i = d.1.toNat)) ∨ (withV a d i = max (a i) d.2 ∧ (0 ≤ d.1 ∧ d.1 < 8) ∧ i = d.1.toNat) := by
 by_cases h : 0 ≤ d.1 ∧ d.1 < 8
 ·rw [withV_in h]
  by_cases e : i = d.1.toNat
  ·refine .inr ⟨?_, h, e⟩
   rw [e]
   exact if_pos rfl
  ·exact .inl ⟨if_neg e, fun h1 => e h1.2⟩
 ·rw [withV_out h]
  exact .inl ⟨rfl, fun h1 => h h1.1⟩
theorem belowV_with (a : Nat → Int) (d : En) : belowV a (withV a d) = true := belowV_iff.2 fun i _ => by
 rcases withV_at a d i with ⟨e, _⟩ | ⟨e, _⟩ <;> rw [e] <;> omega
theorem hasV_with {a : Nat → Int} {d : En} (h : 0 ≤ d.1 ∧ d.1 < 8) (h1 : 1 ≤ d.2) : hasV (withV a d) d = true := by
 rw [hasV_iff]
 refine ⟨h, h1, ?_⟩
 rcases withV_at a d d.1.toNat with ⟨_, e⟩ | ⟨e, _⟩
 ·exact absurd ⟨h, rfl⟩ e
 ·rw [e]; omega
theorem mayV_iff {a : Nat → Int} : mayV a = true ↔ ∀ i, i < 8 → 0 ≤ a i ∧ a i ≤ 1000000 := by
 unfold mayV
 rw [all8]
 exact ⟨fun h i hi => of_decide_eq_true (h i hi), fun h i hi => decide_eq_true (h i hi)⟩
theorem mayV_with {a : Nat → Int} {d : En} (h : mayV a = true) (h1 : d.2 ≤ 1000000) : mayV (withV a d) = true := mayV_iff.2 fun i hi => by
 have := mayV_iff.1 h i hi
 rcases withV_at a d i with ⟨e, _⟩ | ⟨e, _⟩ <;> rw [e] <;> omega
theorem mayV_no {a : Nat → Int} {k : Nat} (hk : k < 8) (h : numB (a k) = false) : mayV a = false := by
 rw [← Bool.not_eq_true]
 intro h1
 unfold mayV at h1
 rw [all8] at h1
 rw [h1 k hk] at h
 cases h
end
section
open Go
abbrev Vl : Type := En × ByteArray
structure Bg where
 k : Nat → Int
 v : List Vl
def noB : Bg := ⟨fun _ => 0, []⟩
/- Rows in order of their dots. -/
def ltV (x y : Vl) : Prop := cmpE x.1 y.1 < 0
instance (x y : Vl) : Decidable (ltV x y) := inferInstanceAs (Decidable (cmpE x.1 y.1 < 0))
abbrev Srt (l : List Vl) : Prop := l.Pairwise ltV
theorem ltV_ne {x y : Vl} (h : ltV x y) : x.1 ≠ y.1 := fun e => by
 unfold ltV at h
 rw [e, cmpE_cmp.self] at h
 omega
theorem ltV_trans {x y z : Vl} (h1 : ltV x y) (h2 : ltV y z) : ltV x z := cmpE_cmp.lt h1 (show cmpE y.1 z.1 ≤ 0 by unfold ltV at h2; omega)
theorem ltV_tri (x y : Vl) : ltV x y ∨ x.1 = y.1 ∨ ltV y x := by
 unfold ltV
 have h := cmpE_cmp.neg x.1 y.1
 rcases Int.lt_trichotomy (cmpE x.1 y.1) 0 with h1 | h1 | h1
 ·exact .inl h1
 ·exact .inr (.inl (cmpE_eq' h1))
 ·exact .inr (.inr (by omega))
def insB (x : Vl) : List Vl → List Vl
 | [] => [x]
 | y :: l => if cmpE y.1 x.1 < 0 then y :: insB x l else x :: y :: l
theorem mem_insB {x z : Vl} : ∀ {l : List Vl}, z ∈ insB x l ↔ z = x ∨ z ∈ l
 | [] => by simp [insB]
 | y :: l => by
  unfold insB
  split
  ·rw [List.mem_cons, mem_insB, List.mem_cons]
   constructor
   ·rintro (h | h | h)
    ·exact .inr (.inl h)
    ·exact .inl h
    ·exact .inr (.inr h)
   ·rintro (h | h | h)
    ·exact .inr (.inl h)
    ·exact .inl h
    ·exact .inr (.inr h)
  ·rw [List.mem_cons]
theorem insB_len (x : Vl) : ∀ l : List Vl, (insB x l).length = l.length + 1
 | [] => rfl
 | y :: l => by
  unfold insB
  split
  ·rw [List.length_cons, insB_len x l, List.length_cons]
  ·rfl
theorem srt_insB {x : Vl} : ∀ {l : List Vl}, Srt l → (∀ y ∈ l, y.1 ≠ x.1) → Srt (insB x l)
 | [], _, _ => List.pairwise_singleton _ _
 | y :: l, h, hn => by
  have h1 := List.pairwise_cons.1 h
  unfold insB
  split
  ·rename_i hlt
   refine List.pairwise_cons.2 ⟨fun z hz => ?_, srt_insB h1.2 fun z hz => hn z (List.mem_cons_of_mem _ hz)⟩
   rcases mem_insB.1 hz with e | hz
   ·rw [e]; exact hlt
   ·exact h1.1 z hz
  ·rename_i hlt
   have hxy : ltV x y := by
    rcases ltV_tri x y with q | q | q
    ·exact q
    ·exact (hn y List.mem_cons_self q.symm).elim
    ·exact (hlt q).elim
   refine List.pairwise_cons.2 ⟨fun z hz => ?_, h⟩
   rcases List.mem_cons.1 hz with e | hz
   ·rw [e]; exact hxy
   ·exact ltV_trans hxy (h1.1 z hz)
def heldL (l : List Vl) (d : En) : Bool := l.any fun x => decide (x.1 = d)
theorem heldL_iff {l : List Vl} {d : En} : heldL l d = true ↔ ∃ x ∈ l, x.1 = d := by
 unfold heldL
 rw [List.any_eq_true]
 constructor
 ·rintro ⟨x, hx, h⟩
  exact ⟨x, hx, of_decide_eq_true h⟩
 ·rintro ⟨x, hx, h⟩
  exact ⟨x, hx, decide_eq_true h⟩
def okV (k : Nat → Int) (x : Vl) : Bool := hasV k x.1 && decide (x.2.size ≤ 64)
def mayB (b : Bg) : Bool := mayV b.k && (decide (b.v.length ≤ 32) && (decide (Srt b.v) && b.v.all (okV b.k)))
structure Pre (b : Bg) : Prop where
 srt : Srt b.v
 has : ∀ x ∈ b.v, hasV b.k x.1 = true
structure MayB (b : Bg) : Prop extends Pre b where
 k : mayV b.k = true
 len : b.v.length ≤ 32
 sz : ∀ x ∈ b.v, x.2.size ≤ 64
theorem mayB_iff {b : Bg} : mayB b = true ↔ MayB b := by
 unfold mayB okV
 rw [Bool.and_eq_true, Bool.and_eq_true, Bool.and_eq_true, decide_eq_true_iff, decide_eq_true_iff, List.all_eq_true]
 constructor
 ·rintro ⟨h1, h2, h3, h4⟩
  exact ⟨⟨h3, fun x hx => (Bool.and_eq_true_iff.1 (h4 x hx)).1⟩, h1, h2, fun x hx => of_decide_eq_true (Bool.and_eq_true_iff.1 (h4 x hx)).2⟩
 ·rintro ⟨⟨h3, h4⟩, h1, h2, h5⟩
  exact ⟨h1, h2, h3, fun x hx => Bool.and_eq_true_iff.2 ⟨h4 x hx, decide_eq_true (h5 x hx)⟩⟩
/- Two are joined. -/
def leftB (b : Bg) (known : Nat → Int) : List Vl := b.v.filter fun x => !hasV known x.1
def putB (b : Bg) (known : Nat → Int) (d : En) (t : ByteArray) : Bg := ⟨withV (joinV b.k known) d, insB (d, t) (leftB b known)⟩
def dotB (d : En) : Bool := nodeE d.1 && decide (1 ≤ d.2 ∧ d.2 ≤ 1000000)
def putBR (b : Bg) (known : Nat → Int) (d : En) (t : ByteArray) : Bg × Int := if mayB b = true ∧ mayV known = true ∧ dotB d = true ∧ hasV b.k d = false ∧ t.size ≤ 64 then (if (putB b known d t).v.length ≤ 32 then (putB b known d t, 0) else (noB, 5)) else (noB, 1)
theorem dotB_iff {d : En} : dotB d = true ↔ (0 ≤ d.1 ∧ d.1 < 8) ∧ 1 ≤ d.2 ∧ d.2 ≤ 1000000 := by
 unfold dotB nodeE
 rw [Bool.and_eq_true, decide_eq_true_iff, decide_eq_true_iff]
theorem mem_leftB {b : Bg} {known : Nat → Int} {x : Vl} : x ∈ leftB b known ↔ x ∈ b.v ∧ hasV known x.1 = false := by
 unfold leftB
 rw [List.mem_filter, Bool.not_eq_true']
theorem mem_put {b : Bg} {known : Nat → Int} {d : En} {t : ByteArray} {x : Vl} : x ∈ (putB b known d t).v ↔ x = (d, t) ∨ (x ∈ b.v ∧ hasV known x.1 = false) := by
 show x ∈ insB _ _ ↔ _
 rw [mem_insB, mem_leftB]
theorem put_len (b : Bg) (known : Nat → Int) (d : En) (t : ByteArray) : (putB b known d t).v.length = (leftB b known).length + 1 := insB_len _ _
theorem pre_put {b : Bg} {known : Nat → Int} {d : En} {t : ByteArray} (hb : Pre b) (hd : dotB d = true) (hn : hasV b.k d = false) : Pre (putB b known d t) where
 srt := srt_insB (hb.srt.sublist List.filter_sublist) fun y hy e => by
  have h1 := hb.has y (mem_leftB.1 hy).1
  rw [show y.1 = d from e, hn] at h1
  cases h1
 has x hx := by
  have h := dotB_iff.1 hd
  show hasV (withV (joinV b.k known) d) x.1 = true
  rcases mem_put.1 hx with e | ⟨h1, _⟩
  ·rw [e]
   exact hasV_with h.1 h.2.1
  ·exact hasV_below (belowV_with _ _) (by rw [hasV_join, hb.has x h1]; rfl)
theorem may_put {b : Bg} {known : Nat → Int} {d : En} {t : ByteArray} (hb : MayB b) (hk : mayV known = true) (hd : dotB d = true) (hn : hasV b.k d = false) (ht : t.size ≤ 64) (hl : (putB b known d t).v.length ≤ 32) : MayB (putB b known d t) where
 toPre := pre_put hb.toPre hd hn
 k := mayV_with (mayV_iff.2 fun i hi => by
  have h1 := mayV_iff.1 hb.k i hi
  have h2 := mayV_iff.1 hk i hi
  show 0 ≤ max (b.k i) (known i) ∧ max (b.k i) (known i) ≤ 1000000
  omega) (dotB_iff.1 hd).2.2
 len := hl
 sz x hx := by
  rcases mem_put.1 hx with e | ⟨h1, _⟩
  ·rw [e]; exact ht
  ·exact hb.sz x h1
end
section
open Go
def sameB (a b : Bg) : Bool := decide (tab8 a.k = tab8 b.k) && decide (a.v = b.v)
theorem sameB_iff {a b : Bg} : sameB a b = true ↔ (∀ i, i < 8 → a.k i = b.k i) ∧ a.v = b.v := by
 unfold sameB
 rw [Bool.and_eq_true, decide_eq_true_iff, decide_eq_true_iff, tab8_eq]
theorem sameB_self (a : Bg) : sameB a a = true := sameB_iff.2 ⟨fun _ _ => rfl, rfl⟩
theorem put_of {b x : Bg} {known : Nat → Int} {d : En} {t : ByteArray} {e : Int} (hb : MayB b) (hk : mayV known = true) (hd : dotB d = true) (hn : hasV b.k d = false) (ht : t.size ≤ 64) (h : putBR b known d t = (x, e)) : (e = 0 ∧ x = putB b known d t ∧ MayB x) ∨ (e = 5 ∧ x = noB) := by
 unfold putBR at h
 rw [if_pos ⟨mayB_iff.2 hb, hk, hd, hn, ht⟩] at h
 split at h
 ·rename_i hl
  obtain ⟨h1, h2⟩ := Prod.mk.inj h
  exact .inl ⟨h2.symm, h1.symm, by rw [← h1]; exact may_put hb hk hd hn ht hl⟩
 ·obtain ⟨h1, h2⟩ := Prod.mk.inj h
  exact .inr ⟨h2.symm, h1.symm⟩
section
variable (tx : Nat → Nat → ByteArray)
theorem may_noB : MayB noB := ⟨⟨List.Pairwise.nil, fun _ h => by cases h⟩, mayV_iff.2 fun _ _ => by show (0 : Int) ≤ 0 ∧ (0 : Int) ≤ 1000000; decide, Nat.zero_le _, fun _ h => by cases h⟩
variable {tx : Nat → Nat → ByteArray}
end
/- BagJoins. -/
end
section
open Go
def posB (d : En) : List Vl → Nat
 | [] => 0
 | y :: l => if cmpE y.1 d < 0 then posB d l + 1 else 0
theorem posB_le (d : En) : ∀ l : List Vl, posB d l ≤ l.length
 | [] => Nat.le_refl _
 | y :: l => by
  have := posB_le d l
  unfold posB
  split
  ·rw [List.length_cons]; omega
  ·exact Nat.zero_le _
theorem posB_lt {d : En} : ∀ {l : List Vl} {i : Nat} {x : Vl}, l[i]? = some x → i < posB d l → cmpE x.1 d < 0
 | [], _, _, h, _ => by simp at h
 | y :: l, 0, x, h, hi => by
  obtain rfl : y = x := by simpa using h
  unfold posB at hi
  split at hi
  ·assumption
  ·omega
 | y :: l, i + 1, x, h, hi => by
  unfold posB at hi
  split at hi
  ·exact posB_lt (l := l) (i := i) (by simpa using h) (by omega)
  ·omega
theorem posB_ge {d : En} : ∀ {l : List Vl} {i : Nat} {x : Vl}, Srt l → l[i]? = some x → posB d l ≤ i → ¬ cmpE x.1 d < 0
 | [], _, _, _, h, _ => by simp at h
 | y :: l, 0, x, _, h, hi => by
  obtain rfl : y = x := by simpa using h
  unfold posB at hi
  split at hi
  ·omega
  ·assumption
 | y :: l, i + 1, x, hs, h, hi => by
  have h1 := List.pairwise_cons.1 hs
  have hx : l[i]? = some x := by simpa using h
  unfold posB at hi
  split at hi
  ·exact posB_ge h1.2 hx (by omega)
  ·rename_i hy
   intro hlt
   have hyx : ltV y x := h1.1 x (List.mem_of_getElem? hx)
   have hxd : ltV x (d, x.2) := hlt
   exact hy (ltV_trans hyx hxd)
theorem insB_at (x : Vl) : ∀ l : List Vl, insB x l = l.take (posB x.1 l) ++ x :: l.drop (posB x.1 l)
 | [] => rfl
 | y :: l => by
  unfold insB posB
  split
  ·rw [insB_at x l]
   simp
  ·simp
theorem heldL_pos {d : En} : ∀ {l : List Vl}, Srt l → (heldL l d = true ↔ ∃ x, l[posB d l]? = some x ∧ cmpE x.1 d = 0)
 | [], _ => by simp [heldL]
 | y :: l, hs => by
  have h1 := List.pairwise_cons.1 hs
  have hc : heldL (y :: l) d = (decide (y.1 = d) || heldL l d) := rfl
  rw [hc, Bool.or_eq_true, decide_eq_true_iff]
  unfold posB
  by_cases hy : cmpE y.1 d < 0
  ·rw [if_pos hy]
   have hne : y.1 ≠ d := fun e => by rw [e, cmpE_cmp.self] at hy; omega
   rw [List.getElem?_cons_succ, ← heldL_pos h1.2]
   exact ⟨fun h => h.resolve_left hne, .inr⟩
  ·rw [if_neg hy]
   rw [List.getElem?_cons_zero]
   constructor
   ·rintro (e | h)
    ·exact ⟨y, rfl, by rw [e]; exact cmpE_cmp.self _⟩
    ·obtain ⟨x, hx, e⟩ := heldL_iff.1 h
     have := h1.1 x hx
     unfold ltV at this
     rw [e] at this
     exact absurd this hy
   ·rintro ⟨x, hx, e⟩
    obtain rfl := Option.some.inj hx
    exact .inl (cmpE_eq' e)
theorem held_ways {d : En} {l : List Vl} (hs : Srt l) : (l.length ≤ posB d l ∧ heldL l d = false) ∨ (∃ y, posB d l < l.length ∧ l[posB d l]? = some y ∧ cmpE y.1 d = 0 ∧ heldL l d = true) ∨ (∃ y, posB d l < l.length ∧ l[posB d l]? = some y ∧ cmpE y.1 d ≠ 0 ∧ heldL l d = false) := by
 rcases Nat.lt_or_ge (posB d l) l.length with h | h
 ·obtain ⟨y, hy⟩ : ∃ y, l[posB d l]? = some y := ⟨_, List.getElem?_eq_getElem h⟩
  by_cases hc : cmpE y.1 d = 0
  ·exact .inr (.inl ⟨y, h, hy, hc, (heldL_pos hs).2 ⟨y, hy, hc⟩⟩)
  ·refine .inr (.inr ⟨y, h, hy, hc, ?_⟩)
   rw [← Bool.not_eq_true, heldL_pos hs]
   rintro ⟨x, hx, e⟩
   rw [hy] at hx
   obtain rfl := Option.some.inj hx
   exact hc e
 ·refine .inl ⟨h, ?_⟩
  rw [← Bool.not_eq_true, heldL_pos hs]
  rintro ⟨x, hx, e⟩
  rw [List.getElem?_eq_none h] at hx
  cases hx
theorem filter_step {α : Type} {p : α → Bool} {l : List α} {k : Nat} {x : α} (h : l[k]? = some x) : (l.take (k + 1)).filter p = (l.take k).filter p ++ if p x = true then [x] else [] := by
 rw [List.take_add_one, h, List.filter_append]
 congr 1
 show List.filter p [x] = _
 by_cases hp : p x = true
 ·rw [if_pos hp, List.filter_cons_of_pos hp]; rfl
 ·rw [if_neg hp, List.filter_cons_of_neg hp]; rfl
theorem filter_le {α : Type} (p : α → Bool) (l : List α) (k : Nat) : ((l.take k).filter p).length ≤ l.length := by
 refine Nat.le_trans (List.length_filter_le _ _) ?_
 rw [List.length_take]
 omega
/- What makes a bag, value by value. -/
theorem srt_step {l : List Vl} {k : Nat} {x : Vl} (hs : Srt (l.take k)) (hx : l[k]? = some x) (hp : k = 0 ∨ ∃ y, l[k - 1]? = some y ∧ cmpE y.1 x.1 < 0) : Srt (l.take (k + 1)) := by
 rw [List.take_add_one, hx]
 refine List.pairwise_append.2 ⟨hs, List.pairwise_singleton _ _, fun z hz u hu => ?_⟩
 obtain rfl : u = x := by simpa using hu
 rcases hp with rfl | ⟨y, hy, hlt⟩
 ·simp at hz
 ·have hk : k ≠ 0 := by
   rintro rfl
   rw [show (0 : Nat) - 1 = 0 from rfl, hx] at hy
   obtain rfl := Option.some.inj hy
   rw [cmpE_cmp.self] at hlt
   omega
  obtain ⟨i, hi⟩ := List.getElem?_of_mem hz
  rw [List.getElem?_take] at hi
  split at hi
  ·rename_i hik
   by_cases e : i = k - 1
   ·subst e
    rw [hy] at hi
    obtain rfl := Option.some.inj hi
    exact hlt
   ·have h1 : (l.take k)[i]? = some z := by rw [List.getElem?_take, if_pos hik]; exact hi
    have h2 : (l.take k)[k - 1]? = some y := by rw [List.getElem?_take, if_pos (by omega)]; exact hy
    obtain ⟨q1, e1⟩ := List.getElem?_eq_some_iff.1 h1
    obtain ⟨q2, e2⟩ := List.getElem?_eq_some_iff.1 h2
    have := List.pairwise_iff_getElem.1 hs i (k - 1) q1 q2 (by omega)
    rw [e1, e2] at this
    exact ltV_trans this hlt
  ·cases hi
theorem srt_no {l : List Vl} {k : Nat} {x y : Vl} (hx : l[k]? = some x) (hy : l[k - 1]? = some y) (hk : k ≠ 0) (hn : ¬ cmpE y.1 x.1 < 0) : ¬ Srt l := fun hs => by
 obtain ⟨q1, e1⟩ := List.getElem?_eq_some_iff.1 hx
 obtain ⟨q2, e2⟩ := List.getElem?_eq_some_iff.1 hy
 have := List.pairwise_iff_getElem.1 hs (k - 1) k q2 q1 (by omega)
 rw [e1, e2] at this
 exact hn this
theorem mayB_no1 {b : Bg} (h : mayV b.k = false) : mayB b = false := by unfold mayB; rw [h]; rfl
theorem mayB_no2 {b : Bg} (h : ¬ b.v.length ≤ 32) : mayB b = false := by unfold mayB; rw [decide_eq_false h]; simp
theorem mayB_no3 {b : Bg} {k : Nat} {x : Vl} (hx : b.v[k]? = some x) (h : okV b.k x = false) : mayB b = false := by
 rw [← Bool.not_eq_true]
 intro hm
 have := mayB_iff.1 hm
 have h1 := this.has x (List.mem_of_getElem? hx)
 have h2 := this.sz x (List.mem_of_getElem? hx)
 unfold okV at h
 rw [h1, decide_eq_true h2] at h
 cases h
theorem mayB_no4 {b : Bg} {k : Nat} {x y : Vl} (hx : b.v[k]? = some x) (hy : b.v[k - 1]? = some y) (hk : k ≠ 0) (hn : ¬ cmpE y.1 x.1 < 0) : mayB b = false := by
 rw [← Bool.not_eq_true]
 intro hm
 exact srt_no hx hy hk hn (mayB_iff.1 hm).srt
def OkT (b : Bg) (k : Nat) : Prop := Srt (b.v.take k) ∧ ∀ x ∈ b.v.take k, okV b.k x = true
theorem okT_zero (b : Bg) : OkT b 0 := ⟨List.Pairwise.nil, fun x hx => by simp at hx⟩
theorem okT_step {b : Bg} {k : Nat} {x : Vl} (h : OkT b k) (hx : b.v[k]? = some x) (ho : okV b.k x = true) (hp : k = 0 ∨ ∃ y, b.v[k - 1]? = some y ∧ cmpE y.1 x.1 < 0) : OkT b (k + 1) := by
 refine ⟨srt_step h.1 hx hp, fun z hz => ?_⟩
 rw [List.take_add_one, hx] at hz
 rcases List.mem_append.1 hz with hz | hz
 ·exact h.2 z hz
 ·obtain rfl : z = x := by simpa using hz
  exact ho
theorem okT_end {b : Bg} {k : Nat} (h : OkT b k) (hk : b.v.length ≤ k) (h1 : mayV b.k = true) (h2 : b.v.length ≤ 32) : mayB b = true := by
 have h3 := h.1
 have h4 := h.2
 rw [List.take_of_length_le hk] at h3 h4
 unfold mayB
 rw [h1, decide_eq_true h2, decide_eq_true h3, List.all_eq_true.2 h4]
 rfl
end
end Go.Proofs.YtcchkkdbagpgjaaGreat
