/- BgM: VcM, BgM, BgP, BgS. -/
import Derived.Test.YtcchkkdbagpgjaaGreatRgM
namespace Go.Proofs.YtcchkkdbagpgjaaGreat
section
open Go
def joinV (a b : Nat → Int) : Nat → Int := fun i => max (a i) (b i)
def belowV (a b : Nat → Int) : Bool := decide (tab8 (joinV a b) = tab8 b)
def numB (x : Int) : Bool := decide (0 ≤ x ∧ x ≤ 1000000)
def mayV (a : Nat → Int) : Bool := (tab8 a).all numB
def hasV (a : Nat → Int) (d : En) : Bool := nodeE d.1 && (decide (1 ≤ d.2) && decide (d.2 ≤ a d.1.toNat))
def withV (a : Nat → Int) (d : En) : Nat → Int := if nodeE d.1 = true then upd a d.1.toNat (max (a d.1.toNat) d.2) else a
theorem belowV_iff {a b : Nat → Int} : belowV a b = true ↔ ∀ i, i < 8 → a i ≤ b i := by
 unfold belowV
 rw [decide_eq_true_iff, tab8_eq]
 constructor
 ·intro h i hi
  have h1 : max (a i) (b i) = b i := h i hi
  omega
 ·intro h i hi
  have h1 := h i hi
  show max (a i) (b i) = b i
  omega
theorem belowV_left (a b : Nat → Int) : belowV a (joinV a b) = true := belowV_iff.2 fun i _ => by show a i ≤ max (a i) (b i); omega
theorem hasV_iff {a : Nat → Int} {d : En} : hasV a d = true ↔ (0 ≤ d.1 ∧ d.1 < 8) ∧ 1 ≤ d.2 ∧ d.2 ≤ a d.1.toNat := by
 unfold hasV nodeE
 rw [Bool.and_eq_true, Bool.and_eq_true, decide_eq_true_iff, decide_eq_true_iff, decide_eq_true_iff]
theorem hasV_join (a b : Nat → Int) (d : En) : hasV (joinV a b) d = (hasV a d || hasV b d) := by
 rw [Bool.eq_iff_iff, Bool.or_eq_true, hasV_iff, hasV_iff, hasV_iff]
 show (_ ∧ _ ∧ d.2 ≤ max (a d.1.toNat) (b d.1.toNat)) ↔ _
 constructor
 ·rintro ⟨h1, h2, h3⟩
  rcases (show d.2 ≤ a d.1.toNat ∨ d.2 ≤ b d.1.toNat from by omega) with h | h
  ·exact .inl ⟨h1, h2, h⟩
  ·exact .inr ⟨h1, h2, h⟩
 ·rintro (⟨h1, h2, h3⟩ | ⟨h1, h2, h3⟩)
  ·exact ⟨h1, h2, by omega⟩
  ·exact ⟨h1, h2, by omega⟩
theorem hasV_below {a b : Nat → Int} {d : En} (h : belowV a b = true) (h1 : hasV a d = true) : hasV b d = true := by
 rw [hasV_iff] at *
 exact ⟨h1.1, h1.2.1, Int.le_trans h1.2.2 (belowV_iff.1 h _ (by omega))⟩
theorem withV_out {a : Nat → Int} {d : En} (h : ¬ (0 ≤ d.1 ∧ d.1 < 8)) : withV a d = a := if_neg fun h1 => h (of_decide_eq_true h1)
theorem withV_in {a : Nat → Int} {d : En} (h : 0 ≤ d.1 ∧ d.1 < 8) : withV a d = upd a d.1.toNat (max (a d.1.toNat) d.2) := if_pos (decide_eq_true h)
theorem withV_at (a : Nat → Int) (d : En) (i : Nat) : (withV a d i = a i ∧ ¬ ((0 ≤ d.1 ∧ d.1 < 8) ∧ i = d.1.toNat)) ∨ (withV a d i = max (a i) d.2 ∧ (0 ≤ d.1 ∧ d.1 < 8) ∧ i = d.1.toNat) := by
 by_cases h : 0 ≤ d.1 ∧ d.1 < 8
 ·rw [withV_in h]
  by_cases e : i = d.1.toNat
  ·refine .inr ⟨?_, h, e⟩
   rw [e]
   exact if_pos rfl
  ·exact .inl ⟨if_neg e, fun h1 => e h1.2⟩
 ·rw [withV_out h]
  exact .inl ⟨rfl, fun h1 => h h1.1⟩
theorem belowV_with (a : Nat → Int) (d : En) : belowV a (withV a d) = true := belowV_iff.2 fun i _ => by
 rcases withV_at a d i with ⟨e, _⟩ | ⟨e, _⟩ <;> rw [e] <;> omega
theorem hasV_with {a : Nat → Int} {d : En} (h : 0 ≤ d.1 ∧ d.1 < 8) (h1 : 1 ≤ d.2) : hasV (withV a d) d = true := by
 rw [hasV_iff]
 refine ⟨h, h1, ?_⟩
 rcases withV_at a d d.1.toNat with ⟨_, e⟩ | ⟨e, _⟩
 ·exact absurd ⟨h, rfl⟩ e
 ·rw [e]; omega
theorem mayV_iff {a : Nat → Int} : mayV a = true ↔ ∀ i, i < 8 → 0 ≤ a i ∧ a i ≤ 1000000 := by
 unfold mayV
 rw [all8]
 exact ⟨fun h i hi => of_decide_eq_true (h i hi), fun h i hi => decide_eq_true (h i hi)⟩
theorem mayV_with {a : Nat → Int} {d : En} (h : mayV a = true) (h1 : d.2 ≤ 1000000) : mayV (withV a d) = true := mayV_iff.2 fun i hi => by
 have := mayV_iff.1 h i hi
 rcases withV_at a d i with ⟨e, _⟩ | ⟨e, _⟩ <;> rw [e] <;> omega
theorem mayV_no {a : Nat → Int} {k : Nat} (hk : k < 8) (h : numB (a k) = false) : mayV a = false := by
 rw [← Bool.not_eq_true]
 intro h1
 unfold mayV at h1
 rw [all8] at h1
 rw [h1 k hk] at h
 cases h
end
section
open Go
abbrev Vl : Type := En × ByteArray
structure Bg where
 k : Nat → Int
 v : List Vl
def noB : Bg := ⟨fun _ => 0, []⟩
/- Rows in order of their dots. -/
def ltV (x y : Vl) : Prop := cmpE x.1 y.1 < 0
instance (x y : Vl) : Decidable (ltV x y) := inferInstanceAs (Decidable (cmpE x.1 y.1 < 0))
abbrev Srt (l : List Vl) : Prop := l.Pairwise ltV
theorem ltV_ne {x y : Vl} (h : ltV x y) : x.1 ≠ y.1 := fun e => by
 unfold ltV at h
 rw [e, cmpE_cmp.self] at h
 omega
theorem ltV_trans {x y z : Vl} (h1 : ltV x y) (h2 : ltV y z) : ltV x z := cmpE_cmp.lt h1 (show cmpE y.1 z.1 ≤ 0 by unfold ltV at h2; omega)
theorem ltV_asymm {x y : Vl} (h1 : ltV x y) (h2 : ltV y x) : False := ltV_ne (ltV_trans h1 h2) rfl
theorem ltV_tri (x y : Vl) : ltV x y ∨ x.1 = y.1 ∨ ltV y x := by
 unfold ltV
 have h := cmpE_cmp.neg x.1 y.1
 rcases Int.lt_trichotomy (cmpE x.1 y.1) 0 with h1 | h1 | h1
 ·exact .inl h1
 ·exact .inr (.inl (cmpE_eq' h1))
 ·exact .inr (.inr (by omega))
theorem srt_ext : ∀ {l m : List Vl}, Srt l → Srt m → (∀ x, x ∈ l ↔ x ∈ m) → l = m
 | [], [], _, _, _ => rfl
 | [], y :: m, _, _, h => by have := (h y).2 List.mem_cons_self; cases this
 | x :: l, [], _, _, h => by have := (h x).1 List.mem_cons_self; cases this
 | x :: l, y :: m, hl, hm, h => by
  have h1 := List.pairwise_cons.1 hl
  have h2 := List.pairwise_cons.1 hm
  have e : x = y := by
   rcases List.mem_cons.1 ((h x).1 List.mem_cons_self) with e | hx
   ·exact e
   ·rcases List.mem_cons.1 ((h y).2 List.mem_cons_self) with e | hy
    ·exact e.symm
    ·exact (ltV_asymm (h2.1 x hx) (h1.1 y hy)).elim
  subst e
  rw [srt_ext h1.2 h2.2 fun z => ?_]
  constructor
  ·intro hz
   rcases List.mem_cons.1 ((h z).1 (List.mem_cons_of_mem _ hz)) with e | hz'
   ·exact (ltV_ne (h1.1 z hz) (by rw [e])).elim
   ·exact hz'
  ·intro hz
   rcases List.mem_cons.1 ((h z).2 (List.mem_cons_of_mem _ hz)) with e | hz'
   ·exact (ltV_ne (h2.1 z hz) (by rw [e])).elim
   ·exact hz'
def insB (x : Vl) : List Vl → List Vl
 | [] => [x]
 | y :: l => if cmpE y.1 x.1 < 0 then y :: insB x l else x :: y :: l
theorem mem_insB {x z : Vl} : ∀ {l : List Vl}, z ∈ insB x l ↔ z = x ∨ z ∈ l
 | [] => by simp [insB]
 | y :: l => by
  unfold insB
  split
  ·rw [List.mem_cons, mem_insB, List.mem_cons]
   constructor
   ·rintro (h | h | h)
    ·exact .inr (.inl h)
    ·exact .inl h
    ·exact .inr (.inr h)
   ·rintro (h | h | h)
    ·exact .inr (.inl h)
    ·exact .inl h
    ·exact .inr (.inr h)
  ·rw [List.mem_cons]
theorem insB_len (x : Vl) : ∀ l : List Vl, (insB x l).length = l.length + 1
 | [] => rfl
 | y :: l => by
  unfold insB
  split
  ·rw [List.length_cons, insB_len x l, List.length_cons]
  ·rfl
theorem srt_insB {x : Vl} : ∀ {l : List Vl}, Srt l → (∀ y ∈ l, y.1 ≠ x.1) → Srt (insB x l)
 | [], _, _ => List.pairwise_singleton _ _
 | y :: l, h, hn => by
  have h1 := List.pairwise_cons.1 h
  unfold insB
  split
  ·rename_i hlt
   refine List.pairwise_cons.2 ⟨fun z hz => ?_, srt_insB h1.2 fun z hz => hn z (List.mem_cons_of_mem _ hz)⟩
   rcases mem_insB.1 hz with e | hz
   ·rw [e]; exact hlt
   ·exact h1.1 z hz
  ·rename_i hlt
   have hxy : ltV x y := by
    rcases ltV_tri x y with q | q | q
    ·exact q
    ·exact (hn y List.mem_cons_self q.symm).elim
    ·exact (hlt q).elim
   refine List.pairwise_cons.2 ⟨fun z hz => ?_, h⟩
   rcases List.mem_cons.1 hz with e | hz
   ·rw [e]; exact hxy
   ·exact ltV_trans hxy (h1.1 z hz)
def heldL (l : List Vl) (d : En) : Bool := l.any fun x => decide (x.1 = d)
theorem heldL_iff {l : List Vl} {d : En} : heldL l d = true ↔ ∃ x ∈ l, x.1 = d := by
 unfold heldL
 rw [List.any_eq_true]
 constructor
 ·rintro ⟨x, hx, h⟩
  exact ⟨x, hx, of_decide_eq_true h⟩
 ·rintro ⟨x, hx, h⟩
  exact ⟨x, hx, decide_eq_true h⟩
def foldI (l m : List Vl) : List Vl := m.foldl (fun l y => insB y l) l
theorem mem_foldI {z : Vl} : ∀ {m l : List Vl}, z ∈ foldI l m ↔ z ∈ l ∨ z ∈ m
 | [], l => by simp [foldI]
 | y :: m, l => by
  show z ∈ foldI (insB y l) m ↔ _
  rw [mem_foldI, mem_insB, List.mem_cons]
  constructor
  ·rintro ((h | h) | h)
   ·exact .inr (.inl h)
   ·exact .inl h
   ·exact .inr (.inr h)
  ·rintro (h | h | h)
   ·exact .inl (.inr h)
   ·exact .inl (.inl h)
   ·exact .inr h
theorem foldI_len : ∀ (m l : List Vl), (foldI l m).length = l.length + m.length
 | [], l => rfl
 | y :: m, l => by
  show (foldI (insB y l) m).length = _
  rw [foldI_len m, insB_len, List.length_cons]
  omega
theorem srt_foldI : ∀ {m l : List Vl}, Srt l → Srt m → (∀ x ∈ l, ∀ y ∈ m, x.1 ≠ y.1) → Srt (foldI l m)
 | [], _, h, _, _ => h
 | y :: m, l, h, hm, hn => by
  have h1 := List.pairwise_cons.1 hm
  refine srt_foldI (m := m) (l := insB y l) (srt_insB h fun x hx => hn x hx y List.mem_cons_self) h1.2 fun x hx z hz => ?_
  rcases mem_insB.1 hx with e | hx
  ·rw [e]; exact ltV_ne (h1.1 z hz)
  ·exact hn x hx z (List.mem_cons_of_mem _ hz)
/- What may be. -/
def okV (k : Nat → Int) (x : Vl) : Bool := hasV k x.1 && decide (x.2.size ≤ 64)
def mayB (b : Bg) : Bool := mayV b.k && (decide (b.v.length ≤ 32) && (decide (Srt b.v) && b.v.all (okV b.k)))
structure Pre (b : Bg) : Prop where
 srt : Srt b.v
 has : ∀ x ∈ b.v, hasV b.k x.1 = true
structure MayB (b : Bg) : Prop extends Pre b where
 k : mayV b.k = true
 len : b.v.length ≤ 32
 sz : ∀ x ∈ b.v, x.2.size ≤ 64
theorem mayB_iff {b : Bg} : mayB b = true ↔ MayB b := by
 unfold mayB okV
 rw [Bool.and_eq_true, Bool.and_eq_true, Bool.and_eq_true, decide_eq_true_iff, decide_eq_true_iff, List.all_eq_true]
 constructor
 ·rintro ⟨h1, h2, h3, h4⟩
  exact ⟨⟨h3, fun x hx => (Bool.and_eq_true_iff.1 (h4 x hx)).1⟩, h1, h2, fun x hx => of_decide_eq_true (Bool.and_eq_true_iff.1 (h4 x hx)).2⟩
 ·rintro ⟨⟨h3, h4⟩, h1, h2, h5⟩
  exact ⟨h1, h2, h3, fun x hx => Bool.and_eq_true_iff.2 ⟨h4 x hx, decide_eq_true (h5 x hx)⟩⟩
/- Two are joined. -/
def keptA (a b : Bg) : List Vl := a.v.filter fun x => heldL b.v x.1 || !hasV b.k x.1
def keptB (a b : Bg) : List Vl := b.v.filter fun x => !hasV a.k x.1
def joinB (a b : Bg) : Bg := ⟨joinV a.k b.k, foldI (keptA a b) (keptB a b)⟩
def joinBR (a b : Bg) : Bg × Int := if mayB a = true ∧ mayB b = true then (if (joinB a b).v.length ≤ 32 then (joinB a b, 0) else (noB, 5)) else (noB, 1)
theorem mem_keptA {a b : Bg} {x : Vl} : x ∈ keptA a b ↔ x ∈ a.v ∧ (heldL b.v x.1 = true ∨ hasV b.k x.1 = false) := by
 unfold keptA
 rw [List.mem_filter, Bool.or_eq_true, Bool.not_eq_true']
theorem mem_keptB {a b : Bg} {x : Vl} : x ∈ keptB a b ↔ x ∈ b.v ∧ hasV a.k x.1 = false := by
 unfold keptB
 rw [List.mem_filter, Bool.not_eq_true']
theorem mem_join {a b : Bg} {x : Vl} : x ∈ (joinB a b).v ↔ (x ∈ a.v ∧ (heldL b.v x.1 = true ∨ hasV b.k x.1 = false)) ∨ (x ∈ b.v ∧ hasV a.k x.1 = false) := by
 show x ∈ foldI _ _ ↔ _
 rw [mem_foldI, mem_keptA, mem_keptB]
theorem pre_join {a b : Bg} (ha : Pre a) (hb : Pre b) : Pre (joinB a b) where
 srt := srt_foldI (ha.srt.sublist List.filter_sublist) (hb.srt.sublist List.filter_sublist) fun x hx y hy e => by
  have h1 := ha.has x (mem_keptA.1 hx).1
  rw [e, (mem_keptB.1 hy).2] at h1
  cases h1
 has x hx := by
  show hasV (joinV a.k b.k) x.1 = true
  rw [hasV_join, Bool.or_eq_true]
  rcases mem_join.1 hx with ⟨h, _⟩ | ⟨h, _⟩
  ·exact .inl (ha.has x h)
  ·exact .inr (hb.has x h)
theorem may_join {a b : Bg} (ha : MayB a) (hb : MayB b) (hl : (joinB a b).v.length ≤ 32) : MayB (joinB a b) where
 toPre := pre_join ha.toPre hb.toPre
 k := mayV_iff.2 fun i hi => by
  have h1 := mayV_iff.1 ha.k i hi
  have h2 := mayV_iff.1 hb.k i hi
  show 0 ≤ max (a.k i) (b.k i) ∧ max (a.k i) (b.k i) ≤ 1000000
  omega
 len := hl
 sz x hx := by
  rcases mem_join.1 hx with ⟨h, _⟩ | ⟨h, _⟩
  ·exact ha.sz x h
  ·exact hb.sz x h
def stB (b : Bg) (d : En) : Nat := if hasV b.k d = true then (if heldL b.v d = true then 1 else 2) else 0
theorem stB_one {b : Bg} (h : Pre b) {d : En} : stB b d = 1 ↔ heldL b.v d = true := by
 unfold stB
 by_cases h1 : hasV b.k d = true
 ·rw [if_pos h1]
  by_cases h2 : heldL b.v d = true
  ·rw [if_pos h2]; exact ⟨fun _ => h2, fun _ => rfl⟩
  ·rw [if_neg h2]; exact ⟨fun q => by omega, fun q => absurd q h2⟩
 ·rw [if_neg h1]
  refine ⟨fun q => by omega, fun q => ?_⟩
  obtain ⟨x, hx, e⟩ := heldL_iff.1 q
  have := h.has x hx
  rw [e] at this
  exact absurd this h1
theorem stB_le (b : Bg) (d : En) : stB b d ≤ 2 := by
 unfold stB
 split
 ·split <;> omega
 ·omega
theorem stB_zero {b : Bg} {d : En} : stB b d = 0 ↔ hasV b.k d = false := by
 unfold stB
 by_cases h1 : hasV b.k d = true
 ·rw [if_pos h1, h1]
  split <;> simp
 ·rw [if_neg h1]
  simpa using h1
theorem stB_two {b : Bg} {d : En} : stB b d = 2 ↔ hasV b.k d = true ∧ heldL b.v d = false := by
 unfold stB
 by_cases h1 : hasV b.k d = true
 ·rw [if_pos h1, h1]
  by_cases h2 : heldL b.v d = true
  ·rw [if_pos h2, h2]; simp
  ·rw [if_neg h2]; simpa using h2
 ·rw [if_neg h1]
  simp [h1]
theorem stB_join {a b : Bg} (ha : Pre a) (hb : Pre b) (d : En) : stB (joinB a b) d = max (stB a d) (stB b d) := by
 have hj := pre_join ha hb
 have hh : hasV (joinB a b).k d = (hasV a.k d || hasV b.k d) := hasV_join _ _ _
 have key : heldL (joinB a b).v d = true ↔ (stB a d = 1 ∧ stB b d ≤ 1) ∨ (stB b d = 1 ∧ stB a d = 0) := by
  rw [heldL_iff]
  constructor
  ·rintro ⟨x, hx, e⟩
   subst e
   rcases mem_join.1 hx with ⟨h1, h2⟩ | ⟨h1, h2⟩
   ·left
    refine ⟨(stB_one ha).2 (heldL_iff.2 ⟨x, h1, rfl⟩), ?_⟩
    rcases h2 with h2 | h2
    ·rw [(stB_one hb).2 h2]; omega
    ·rw [stB_zero.2 h2]; omega
   ·right
    exact ⟨(stB_one hb).2 (heldL_iff.2 ⟨x, h1, rfl⟩), stB_zero.2 h2⟩
  ·rintro (⟨h1, h2⟩ | ⟨h1, h2⟩)
   ·obtain ⟨x, hx, e⟩ := heldL_iff.1 ((stB_one ha).1 h1)
    refine ⟨x, mem_join.2 (.inl ⟨hx, ?_⟩), e⟩
    rw [e]
    rcases (show stB b d = 1 ∨ stB b d = 0 by omega) with h3 | h3
    ·exact .inl ((stB_one hb).1 h3)
    ·exact .inr (stB_zero.1 h3)
   ·obtain ⟨x, hx, e⟩ := heldL_iff.1 ((stB_one hb).1 h1)
    exact ⟨x, mem_join.2 (.inr ⟨hx, by rw [e]; exact stB_zero.1 h2⟩), e⟩
 have b1 := stB_le a d
 have b2 := stB_le b d
 by_cases h0 : heldL (joinB a b).v d = true
 ·rw [(stB_one hj).2 h0]
  rcases key.1 h0 with ⟨h1, h2⟩ | ⟨h1, h2⟩ <;> omega
 ·have h1 : ¬ ((stB a d = 1 ∧ stB b d ≤ 1) ∨ (stB b d = 1 ∧ stB a d = 0)) := fun q => h0 (key.2 q)
  by_cases h2 : stB a d = 0 ∧ stB b d = 0
  ·rw [stB_zero.2 (by rw [hh, stB_zero.1 h2.1, stB_zero.1 h2.2]; rfl), h2.1, h2.2]
   rfl
  ·rw [stB_two.2 ⟨?_, by simpa using h0⟩]
   ·omega
   ·rw [hh, Bool.or_eq_true]
    rcases (show stB a d ≠ 0 ∨ stB b d ≠ 0 by omega) with h3 | h3
    ·left
     cases q : hasV a.k d
     ·exact absurd (stB_zero.2 q) h3
     ·rfl
    ·right
     cases q : hasV b.k d
     ·exact absurd (stB_zero.2 q) h3
     ·rfl
/- Where a dot has one text, a bag's values are what it holds. -/
def DatB (dat : En → ByteArray) (b : Bg) : Prop := ∀ x ∈ b.v, x.2 = dat x.1
theorem dat_join {dat : En → ByteArray} {a b : Bg} (ha : DatB dat a) (hb : DatB dat b) : DatB dat (joinB a b) := fun x hx => by
 rcases mem_join.1 hx with ⟨h, _⟩ | ⟨h, _⟩
 ·exact ha x h
 ·exact hb x h
theorem bag_ext {dat : En → ByteArray} {a b : Bg} (ha : Pre a) (hb : Pre b) (da : DatB dat a) (db : DatB dat b) (h : ∀ d, stB a d = stB b d) : a.v = b.v := by
 refine srt_ext ha.srt hb.srt fun x => ?_
 have key : ∀ {c : Bg}, Pre c → DatB dat c → (x ∈ c.v ↔ stB c x.1 = 1 ∧ x.2 = dat x.1) := fun {c} hc dc => by
  rw [stB_one hc, heldL_iff]
  constructor
  ·intro hx
   exact ⟨⟨x, hx, rfl⟩, dc x hx⟩
  ·rintro ⟨⟨y, hy, e⟩, e2⟩
   have e3 : y = x := Prod.ext e (by rw [dc y hy, e2, e])
   rwa [← e3]
 rw [key ha da, key hb db, h]
def leB (a b : Bg) : Prop := (∀ i, i < 8 → a.k i ≤ b.k i) ∧ ∀ d, stB a d ≤ stB b d
theorem leB_refl (a : Bg) : leB a a := ⟨fun _ _ => Int.le_refl _, fun _ => Nat.le_refl _⟩
theorem leB_trans {a b c : Bg} (h1 : leB a b) (h2 : leB b c) : leB a c := ⟨fun i hi => Int.le_trans (h1.1 i hi) (h2.1 i hi), fun d => Nat.le_trans (h1.2 d) (h2.2 d)⟩
theorem join_le {dat : En → ByteArray} {a b : Bg} (ha : Pre a) (hb : Pre b) (da : DatB dat a) (db : DatB dat b) (h : leB a b) : (joinB a b).v = b.v ∧ (∀ i, i < 8 → (joinB a b).k i = b.k i) ∧ (joinB b a).v = b.v ∧ (∀ i, i < 8 → (joinB b a).k i = b.k i) := by
 refine ⟨bag_ext (pre_join ha hb) hb (dat_join da db) db fun d => ?_, fun i hi => ?_, bag_ext (pre_join hb ha) hb (dat_join db da) db fun d => ?_, fun i hi => ?_⟩
 ·rw [stB_join ha hb]; have := h.2 d; omega
 ·have := h.1 i hi
  show max (a.k i) (b.k i) = b.k i
  omega
 ·rw [stB_join hb ha]; have := h.2 d; omega
 ·have := h.1 i hi
  show max (b.k i) (a.k i) = b.k i
  omega
/- A write. -/
def leftB (b : Bg) (known : Nat → Int) : List Vl := b.v.filter fun x => !hasV known x.1
def putB (b : Bg) (known : Nat → Int) (d : En) (t : ByteArray) : Bg := ⟨withV (joinV b.k known) d, insB (d, t) (leftB b known)⟩
def dotB (d : En) : Bool := nodeE d.1 && decide (1 ≤ d.2 ∧ d.2 ≤ 1000000)
def putBR (b : Bg) (known : Nat → Int) (d : En) (t : ByteArray) : Bg × Int := if mayB b = true ∧ mayV known = true ∧ dotB d = true ∧ hasV b.k d = false ∧ t.size ≤ 64 then (if (putB b known d t).v.length ≤ 32 then (putB b known d t, 0) else (noB, 5)) else (noB, 1)
theorem dotB_iff {d : En} : dotB d = true ↔ (0 ≤ d.1 ∧ d.1 < 8) ∧ 1 ≤ d.2 ∧ d.2 ≤ 1000000 := by
 unfold dotB nodeE
 rw [Bool.and_eq_true, decide_eq_true_iff, decide_eq_true_iff]
theorem mem_leftB {b : Bg} {known : Nat → Int} {x : Vl} : x ∈ leftB b known ↔ x ∈ b.v ∧ hasV known x.1 = false := by
 unfold leftB
 rw [List.mem_filter, Bool.not_eq_true']
theorem mem_put {b : Bg} {known : Nat → Int} {d : En} {t : ByteArray} {x : Vl} : x ∈ (putB b known d t).v ↔ x = (d, t) ∨ (x ∈ b.v ∧ hasV known x.1 = false) := by
 show x ∈ insB _ _ ↔ _
 rw [mem_insB, mem_leftB]
theorem put_len (b : Bg) (known : Nat → Int) (d : En) (t : ByteArray) : (putB b known d t).v.length = (leftB b known).length + 1 := insB_len _ _
theorem pre_put {b : Bg} {known : Nat → Int} {d : En} {t : ByteArray} (hb : Pre b) (hd : dotB d = true) (hn : hasV b.k d = false) : Pre (putB b known d t) where
 srt := srt_insB (hb.srt.sublist List.filter_sublist) fun y hy e => by
  have h1 := hb.has y (mem_leftB.1 hy).1
  rw [show y.1 = d from e, hn] at h1
  cases h1
 has x hx := by
  have h := dotB_iff.1 hd
  show hasV (withV (joinV b.k known) d) x.1 = true
  rcases mem_put.1 hx with e | ⟨h1, _⟩
  ·rw [e]
   exact hasV_with h.1 h.2.1
  ·exact hasV_below (belowV_with _ _) (by rw [hasV_join, hb.has x h1]; rfl)
theorem may_put {b : Bg} {known : Nat → Int} {d : En} {t : ByteArray} (hb : MayB b) (hk : mayV known = true) (hd : dotB d = true) (hn : hasV b.k d = false) (ht : t.size ≤ 64) (hl : (putB b known d t).v.length ≤ 32) : MayB (putB b known d t) where
 toPre := pre_put hb.toPre hd hn
 k := mayV_with (mayV_iff.2 fun i hi => by
  have h1 := mayV_iff.1 hb.k i hi
  have h2 := mayV_iff.1 hk i hi
  show 0 ≤ max (b.k i) (known i) ∧ max (b.k i) (known i) ≤ 1000000
  omega) (dotB_iff.1 hd).2.2
 len := hl
 sz x hx := by
  rcases mem_put.1 hx with e | ⟨h1, _⟩
  ·rw [e]; exact ht
  ·exact hb.sz x h1
theorem leB_put {b : Bg} {known : Nat → Int} {d : En} {t : ByteArray} (hb : Pre b) (hd : dotB d = true) (hn : hasV b.k d = false) : leB b (putB b known d t) := by
 have hp := pre_put (known := known) (t := t) hb hd hn
 have hbel : belowV b.k (putB b known d t).k = true := belowV_iff.2 fun i hi => Int.le_trans (belowV_iff.1 (belowV_left b.k known) i hi) (belowV_iff.1 (belowV_with (joinV b.k known) d) i hi)
 refine ⟨fun i hi => belowV_iff.1 hbel i hi, fun e => ?_⟩
 rcases (show stB b e = 0 ∨ stB b e = 1 ∨ stB b e = 2 by have := stB_le b e; omega) with h | h | h
 ·omega
 ·have h1 : hasV b.k e = true := by
   cases q : hasV b.k e
   ·rw [stB_zero.2 q] at h; omega
   ·rfl
  have h2 := hasV_below hbel h1
  have : stB (putB b known d t) e ≠ 0 := fun q => by rw [stB_zero.1 q] at h2; cases h2
  omega
 ·obtain ⟨h1, h2⟩ := stB_two.1 h
  rw [stB_two.2 ⟨hasV_below hbel h1, ?_⟩]
  ·omega
  ·rw [← Bool.not_eq_true, heldL_iff]
   rintro ⟨x, hx, ex⟩
   rcases mem_put.1 hx with q | ⟨q, _⟩
   ·subst q
    rw [show d = e from ex] at hn
    rw [hn] at h1
    cases h1
   ·have : heldL b.v e = true := heldL_iff.2 ⟨x, q, ex⟩
    rw [h2] at this
    cases this
theorem dat_put {dat : En → ByteArray} {b : Bg} {known : Nat → Int} {d : En} {t : ByteArray} (hb : DatB dat b) (ht : t = dat d) : DatB dat (putB b known d t) := fun x hx => by
 rcases mem_put.1 hx with e | ⟨h1, _⟩
 ·rw [e]; exact ht
 ·exact hb x h1
/- Texts: each once. -/
end
section
open Go
def sameB (a b : Bg) : Bool := decide (tab8 a.k = tab8 b.k) && decide (a.v = b.v)
def belowB (a b : Bg) : Bool := decide ((joinBR a b).2 = 0) && sameB (joinBR a b).1 b
theorem sameB_iff {a b : Bg} : sameB a b = true ↔ (∀ i, i < 8 → a.k i = b.k i) ∧ a.v = b.v := by
 unfold sameB
 rw [Bool.and_eq_true, decide_eq_true_iff, decide_eq_true_iff, tab8_eq]
theorem sameB_self (a : Bg) : sameB a a = true := sameB_iff.2 ⟨fun _ _ => rfl, rfl⟩
theorem joinBR_ok {a b : Bg} (ha : MayB a) (hb : MayB b) : joinBR a b = if (joinB a b).v.length ≤ 32 then (joinB a b, 0) else (noB, 5) := if_pos ⟨mayB_iff.2 ha, mayB_iff.2 hb⟩
theorem join_of {a b x : Bg} {e : Int} (ha : MayB a) (hb : MayB b) (h : joinBR a b = (x, e)) : (e = 0 ∧ x = joinB a b ∧ MayB x) ∨ (e = 5 ∧ x = noB) := by
 rw [joinBR_ok ha hb] at h
 split at h
 ·rename_i hl
  obtain ⟨h1, h2⟩ := Prod.mk.inj h
  exact .inl ⟨h2.symm, h1.symm, by rw [← h1]; exact may_join ha hb hl⟩
 ·obtain ⟨h1, h2⟩ := Prod.mk.inj h
  exact .inr ⟨h2.symm, h1.symm⟩
theorem put_of {b x : Bg} {known : Nat → Int} {d : En} {t : ByteArray} {e : Int} (hb : MayB b) (hk : mayV known = true) (hd : dotB d = true) (hn : hasV b.k d = false) (ht : t.size ≤ 64) (h : putBR b known d t = (x, e)) : (e = 0 ∧ x = putB b known d t ∧ MayB x) ∨ (e = 5 ∧ x = noB) := by
 unfold putBR at h
 rw [if_pos ⟨mayB_iff.2 hb, hk, hd, hn, ht⟩] at h
 split at h
 ·rename_i hl
  obtain ⟨h1, h2⟩ := Prod.mk.inj h
  exact .inl ⟨h2.symm, h1.symm, by rw [← h1]; exact may_put hb hk hd hn ht hl⟩
 ·obtain ⟨h1, h2⟩ := Prod.mk.inj h
  exact .inr ⟨h2.symm, h1.symm⟩
theorem below_of {dat : En → ByteArray} {a b : Bg} (ha : MayB a) (hb : MayB b) (da : DatB dat a) (db : DatB dat b) (h : leB a b) : joinBR a b = (joinB a b, 0) ∧ joinBR b a = (joinB b a, 0) ∧ sameB (joinB a b) b = true ∧ sameB (joinB b a) b = true ∧ belowB a b = true := by
 obtain ⟨h1, h2, h3, h4⟩ := join_le ha.toPre hb.toPre da db h
 have e1 : joinBR a b = (joinB a b, 0) := by rw [joinBR_ok ha hb, if_pos (by rw [h1]; exact hb.len)]
 have e2 : joinBR b a = (joinB b a, 0) := by rw [joinBR_ok hb ha, if_pos (by rw [h3]; exact hb.len)]
 have s1 : sameB (joinB a b) b = true := sameB_iff.2 ⟨h2, h1⟩
 refine ⟨e1, e2, s1, sameB_iff.2 ⟨h4, h3⟩, ?_⟩
 unfold belowB
 rw [e1, s1]
 rfl
/- Three who write. -/
section
variable (tx : Nat → Nat → ByteArray)
theorem may_noB : MayB noB := ⟨⟨List.Pairwise.nil, fun _ h => by cases h⟩, mayV_iff.2 fun _ _ => by show (0 : Int) ≤ 0 ∧ (0 : Int) ≤ 1000000; decide, Nat.zero_le _, fun _ h => by cases h⟩
variable {tx : Nat → Nat → ByteArray}
end
/- BagJoins. -/
end
section
open Go
def posB (d : En) : List Vl → Nat
 | [] => 0
 | y :: l => if cmpE y.1 d < 0 then posB d l + 1 else 0
theorem posB_le (d : En) : ∀ l : List Vl, posB d l ≤ l.length
 | [] => Nat.le_refl _
 | y :: l => by
  have := posB_le d l
  unfold posB
  split
  ·rw [List.length_cons]; omega
  ·exact Nat.zero_le _
theorem posB_lt {d : En} : ∀ {l : List Vl} {i : Nat} {x : Vl}, l[i]? = some x → i < posB d l → cmpE x.1 d < 0
 | [], _, _, h, _ => by simp at h
 | y :: l, 0, x, h, hi => by
  obtain rfl : y = x := by simpa using h
  unfold posB at hi
  split at hi
  ·assumption
  ·omega
 | y :: l, i + 1, x, h, hi => by
  unfold posB at hi
  split at hi
  ·exact posB_lt (l := l) (i := i) (by simpa using h) (by omega)
  ·omega
theorem posB_ge {d : En} : ∀ {l : List Vl} {i : Nat} {x : Vl}, Srt l → l[i]? = some x → posB d l ≤ i → ¬ cmpE x.1 d < 0
 | [], _, _, _, h, _ => by simp at h
 | y :: l, 0, x, _, h, hi => by
  obtain rfl : y = x := by simpa using h
  unfold posB at hi
  split at hi
  ·omega
  ·assumption
 | y :: l, i + 1, x, hs, h, hi => by
  have h1 := List.pairwise_cons.1 hs
  have hx : l[i]? = some x := by simpa using h
  unfold posB at hi
  split at hi
  ·exact posB_ge h1.2 hx (by omega)
  ·rename_i hy
   intro hlt
   have hyx : ltV y x := h1.1 x (List.mem_of_getElem? hx)
   have hxd : ltV x (d, x.2) := hlt
   exact hy (ltV_trans hyx hxd)
theorem insB_at (x : Vl) : ∀ l : List Vl, insB x l = l.take (posB x.1 l) ++ x :: l.drop (posB x.1 l)
 | [] => rfl
 | y :: l => by
  unfold insB posB
  split
  ·rw [insB_at x l]
   simp
  ·simp
theorem heldL_pos {d : En} : ∀ {l : List Vl}, Srt l → (heldL l d = true ↔ ∃ x, l[posB d l]? = some x ∧ cmpE x.1 d = 0)
 | [], _ => by simp [heldL]
 | y :: l, hs => by
  have h1 := List.pairwise_cons.1 hs
  have hc : heldL (y :: l) d = (decide (y.1 = d) || heldL l d) := rfl
  rw [hc, Bool.or_eq_true, decide_eq_true_iff]
  unfold posB
  by_cases hy : cmpE y.1 d < 0
  ·rw [if_pos hy]
   have hne : y.1 ≠ d := fun e => by rw [e, cmpE_cmp.self] at hy; omega
   rw [List.getElem?_cons_succ, ← heldL_pos h1.2]
   exact ⟨fun h => h.resolve_left hne, .inr⟩
  ·rw [if_neg hy]
   rw [List.getElem?_cons_zero]
   constructor
   ·rintro (e | h)
    ·exact ⟨y, rfl, by rw [e]; exact cmpE_cmp.self _⟩
    ·obtain ⟨x, hx, e⟩ := heldL_iff.1 h
     have := h1.1 x hx
     unfold ltV at this
     rw [e] at this
     exact absurd this hy
   ·rintro ⟨x, hx, e⟩
    obtain rfl := Option.some.inj hx
    exact .inl (cmpE_eq' e)
theorem held_ways {d : En} {l : List Vl} (hs : Srt l) : (l.length ≤ posB d l ∧ heldL l d = false) ∨ (∃ y, posB d l < l.length ∧ l[posB d l]? = some y ∧ cmpE y.1 d = 0 ∧ heldL l d = true) ∨ (∃ y, posB d l < l.length ∧ l[posB d l]? = some y ∧ cmpE y.1 d ≠ 0 ∧ heldL l d = false) := by
 rcases Nat.lt_or_ge (posB d l) l.length with h | h
 ·obtain ⟨y, hy⟩ : ∃ y, l[posB d l]? = some y := ⟨_, List.getElem?_eq_getElem h⟩
  by_cases hc : cmpE y.1 d = 0
  ·exact .inr (.inl ⟨y, h, hy, hc, (heldL_pos hs).2 ⟨y, hy, hc⟩⟩)
  ·refine .inr (.inr ⟨y, h, hy, hc, ?_⟩)
   rw [← Bool.not_eq_true, heldL_pos hs]
   rintro ⟨x, hx, e⟩
   rw [hy] at hx
   obtain rfl := Option.some.inj hx
   exact hc e
 ·refine .inl ⟨h, ?_⟩
  rw [← Bool.not_eq_true, heldL_pos hs]
  rintro ⟨x, hx, e⟩
  rw [List.getElem?_eq_none h] at hx
  cases hx
theorem srt_take {l : List Vl} (h : Srt l) (n : Nat) : Srt (l.take n) := h.sublist (List.take_sublist _ _)
theorem filter_step {α : Type} {p : α → Bool} {l : List α} {k : Nat} {x : α} (h : l[k]? = some x) : (l.take (k + 1)).filter p = (l.take k).filter p ++ if p x = true then [x] else [] := by
 rw [List.take_add_one, h, List.filter_append]
 congr 1
 show List.filter p [x] = _
 by_cases hp : p x = true
 ·rw [if_pos hp, List.filter_cons_of_pos hp]; rfl
 ·rw [if_neg hp, List.filter_cons_of_neg hp]; rfl
theorem filter_le {α : Type} (p : α → Bool) (l : List α) (k : Nat) : ((l.take k).filter p).length ≤ l.length := by
 refine Nat.le_trans (List.length_filter_le _ _) ?_
 rw [List.length_take]
 omega
/- What makes a bag, value by value. -/
theorem srt_step {l : List Vl} {k : Nat} {x : Vl} (hs : Srt (l.take k)) (hx : l[k]? = some x) (hp : k = 0 ∨ ∃ y, l[k - 1]? = some y ∧ cmpE y.1 x.1 < 0) : Srt (l.take (k + 1)) := by
 rw [List.take_add_one, hx]
 refine List.pairwise_append.2 ⟨hs, List.pairwise_singleton _ _, fun z hz u hu => ?_⟩
 obtain rfl : u = x := by simpa using hu
 rcases hp with rfl | ⟨y, hy, hlt⟩
 ·simp at hz
 ·have hk : k ≠ 0 := by
   rintro rfl
   rw [show (0 : Nat) - 1 = 0 from rfl, hx] at hy
   obtain rfl := Option.some.inj hy
   rw [cmpE_cmp.self] at hlt
   omega
  obtain ⟨i, hi⟩ := List.getElem?_of_mem hz
  rw [List.getElem?_take] at hi
  split at hi
  ·rename_i hik
   by_cases e : i = k - 1
   ·subst e
    rw [hy] at hi
    obtain rfl := Option.some.inj hi
    exact hlt
   ·have h1 : (l.take k)[i]? = some z := by rw [List.getElem?_take, if_pos hik]; exact hi
    have h2 : (l.take k)[k - 1]? = some y := by rw [List.getElem?_take, if_pos (by omega)]; exact hy
    obtain ⟨q1, e1⟩ := List.getElem?_eq_some_iff.1 h1
    obtain ⟨q2, e2⟩ := List.getElem?_eq_some_iff.1 h2
    have := List.pairwise_iff_getElem.1 hs i (k - 1) q1 q2 (by omega)
    rw [e1, e2] at this
    exact ltV_trans this hlt
  ·cases hi
theorem srt_no {l : List Vl} {k : Nat} {x y : Vl} (hx : l[k]? = some x) (hy : l[k - 1]? = some y) (hk : k ≠ 0) (hn : ¬ cmpE y.1 x.1 < 0) : ¬ Srt l := fun hs => by
 obtain ⟨q1, e1⟩ := List.getElem?_eq_some_iff.1 hx
 obtain ⟨q2, e2⟩ := List.getElem?_eq_some_iff.1 hy
 have := List.pairwise_iff_getElem.1 hs (k - 1) k q2 q1 (by omega)
 rw [e1, e2] at this
 exact hn this
theorem mayB_no1 {b : Bg} (h : mayV b.k = false) : mayB b = false := by unfold mayB; rw [h]; rfl
theorem mayB_no2 {b : Bg} (h : ¬ b.v.length ≤ 32) : mayB b = false := by unfold mayB; rw [decide_eq_false h]; simp
theorem mayB_no3 {b : Bg} {k : Nat} {x : Vl} (hx : b.v[k]? = some x) (h : okV b.k x = false) : mayB b = false := by
 rw [← Bool.not_eq_true]
 intro hm
 have := mayB_iff.1 hm
 have h1 := this.has x (List.mem_of_getElem? hx)
 have h2 := this.sz x (List.mem_of_getElem? hx)
 unfold okV at h
 rw [h1, decide_eq_true h2] at h
 cases h
theorem mayB_no4 {b : Bg} {k : Nat} {x y : Vl} (hx : b.v[k]? = some x) (hy : b.v[k - 1]? = some y) (hk : k ≠ 0) (hn : ¬ cmpE y.1 x.1 < 0) : mayB b = false := by
 rw [← Bool.not_eq_true]
 intro hm
 exact srt_no hx hy hk hn (mayB_iff.1 hm).srt
def OkT (b : Bg) (k : Nat) : Prop := Srt (b.v.take k) ∧ ∀ x ∈ b.v.take k, okV b.k x = true
theorem okT_zero (b : Bg) : OkT b 0 := ⟨List.Pairwise.nil, fun x hx => by simp at hx⟩
theorem okT_step {b : Bg} {k : Nat} {x : Vl} (h : OkT b k) (hx : b.v[k]? = some x) (ho : okV b.k x = true) (hp : k = 0 ∨ ∃ y, b.v[k - 1]? = some y ∧ cmpE y.1 x.1 < 0) : OkT b (k + 1) := by
 refine ⟨srt_step h.1 hx hp, fun z hz => ?_⟩
 rw [List.take_add_one, hx] at hz
 rcases List.mem_append.1 hz with hz | hz
 ·exact h.2 z hz
 ·obtain rfl : z = x := by simpa using hz
  exact ho
theorem okT_end {b : Bg} {k : Nat} (h : OkT b k) (hk : b.v.length ≤ k) (h1 : mayV b.k = true) (h2 : b.v.length ≤ 32) : mayB b = true := by
 have h3 := h.1
 have h4 := h.2
 rw [List.take_of_length_le hk] at h3 h4
 unfold mayB
 rw [h1, decide_eq_true h2, decide_eq_true h3, List.all_eq_true.2 h4]
 rfl
end
end Go.Proofs.YtcchkkdbagpgjaaGreat
