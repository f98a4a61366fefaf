/- Bags: values beside one another; without any program. -/
import Derived.Test.YtneeidedadlioaaVcM
namespace Go.Proofs.Ytneeidedadlioaa
open Go

/-- A value: its dot, its text. -/
abbrev Vl : Type := En × ByteArray
structure Bg where
  k : Nat → Int
  v : List Vl
theorem bg_ext {a b : Bg} (h1 : a.k = b.k) (h2 : a.v = b.v) : a = b := by
  cases a
  cases b
  cases h1
  cases h2
  rfl
def noB : Bg := ⟨fun _ => 0, []⟩
/- Rows in order of their dots. -/
def ltV (x y : Vl) : Prop := cmpE x.1 y.1 < 0
instance (x y : Vl) : Decidable (ltV x y) := inferInstanceAs (Decidable (cmpE x.1 y.1 < 0))
abbrev Srt (l : List Vl) : Prop := l.Pairwise ltV
theorem ltV_ne {x y : Vl} (h : ltV x y) : x.1 ≠ y.1 := fun e => by
  unfold ltV at h
  rw [e, cmpE_cmp.self] at h
  omega
theorem ltV_trans {x y z : Vl} (h1 : ltV x y) (h2 : ltV y z) : ltV x z := cmpE_cmp.lt h1 (show cmpE y.1 z.1 ≤ 0 by unfold ltV at h2; omega)
theorem ltV_asymm {x y : Vl} (h1 : ltV x y) (h2 : ltV y x) : False := ltV_ne (ltV_trans h1 h2) rfl
theorem ltV_tri (x y : Vl) : ltV x y ∨ x.1 = y.1 ∨ ltV y x := by
  unfold ltV
  have h := cmpE_cmp.neg x.1 y.1
  rcases Int.lt_trichotomy (cmpE x.1 y.1) 0 with h1 | h1 | h1
  · exact .inl h1
  · exact .inr (.inl (cmpE_eq' h1))
  · exact .inr (.inr (by omega))
theorem srt_ext : ∀ {l m : List Vl}, Srt l → Srt m → (∀ x, x ∈ l ↔ x ∈ m) → l = m
  | [], [], _, _, _ => rfl
  | [], y :: m, _, _, h => by have := (h y).2 List.mem_cons_self; cases this
  | x :: l, [], _, _, h => by have := (h x).1 List.mem_cons_self; cases this
  | x :: l, y :: m, hl, hm, h => by
    have h1 := List.pairwise_cons.1 hl
    have h2 := List.pairwise_cons.1 hm
    have e : x = y := by
      rcases List.mem_cons.1 ((h x).1 List.mem_cons_self) with e | hx
      · exact e
      · rcases List.mem_cons.1 ((h y).2 List.mem_cons_self) with e | hy
        · exact e.symm
        · exact (ltV_asymm (h2.1 x hx) (h1.1 y hy)).elim
    subst e
    rw [srt_ext h1.2 h2.2 fun z => ?_]
    constructor
    · intro hz
      rcases List.mem_cons.1 ((h z).1 (List.mem_cons_of_mem _ hz)) with e | hz'
      · exact (ltV_ne (h1.1 z hz) (by rw [e])).elim
      · exact hz'
    · intro hz
      rcases List.mem_cons.1 ((h z).2 (List.mem_cons_of_mem _ hz)) with e | hz'
      · exact (ltV_ne (h2.1 z hz) (by rw [e])).elim
      · exact hz'
theorem srt_dot {l : List Vl} (h : Srt l) {x y : Vl} (hx : x ∈ l) (hy : y ∈ l) (e : x.1 = y.1) : x = y := by
  induction l with
  | nil => cases hx
  | cons z l ih =>
    have h1 := List.pairwise_cons.1 h
    rcases List.mem_cons.1 hx with ex | hx' <;> rcases List.mem_cons.1 hy with ey | hy'
    · rw [ex, ey]
    · exact (ltV_ne (h1.1 y hy') (by rw [← ex]; exact e)).elim
    · exact (ltV_ne (h1.1 x hx') (by rw [← ey]; exact e.symm)).elim
    · exact ih h1.2 hx' hy'
/-- One is put where it belongs. -/
def insB (x : Vl) : List Vl → List Vl
  | [] => [x]
  | y :: l => if cmpE y.1 x.1 < 0 then y :: insB x l else x :: y :: l
theorem mem_insB {x z : Vl} : ∀ {l : List Vl}, z ∈ insB x l ↔ z = x ∨ z ∈ l
  | [] => by simp [insB]
  | y :: l => by
    unfold insB
    split
    · rw [List.mem_cons, mem_insB, List.mem_cons]
      constructor
      · rintro (h | h | h)
        · exact .inr (.inl h)
        · exact .inl h
        · exact .inr (.inr h)
      · rintro (h | h | h)
        · exact .inr (.inl h)
        · exact .inl h
        · exact .inr (.inr h)
    · rw [List.mem_cons]
theorem insB_len (x : Vl) : ∀ l : List Vl, (insB x l).length = l.length + 1
  | [] => rfl
  | y :: l => by
    unfold insB
    split
    · rw [List.length_cons, insB_len x l, List.length_cons]
    · rfl
theorem srt_insB {x : Vl} : ∀ {l : List Vl}, Srt l → (∀ y ∈ l, y.1 ≠ x.1) → Srt (insB x l)
  | [], _, _ => List.pairwise_singleton _ _
  | y :: l, h, hn => by
    have h1 := List.pairwise_cons.1 h
    unfold insB
    split
    · rename_i hlt
      refine List.pairwise_cons.2 ⟨fun z hz => ?_, srt_insB h1.2 fun z hz => hn z (List.mem_cons_of_mem _ hz)⟩
      rcases mem_insB.1 hz with e | hz
      · rw [e]; exact hlt
      · exact h1.1 z hz
    · rename_i hlt
      have hxy : ltV x y := by
        rcases ltV_tri x y with q | q | q
        · exact q
        · exact (hn y List.mem_cons_self q.symm).elim
        · exact (hlt q).elim
      refine List.pairwise_cons.2 ⟨fun z hz => ?_, h⟩
      rcases List.mem_cons.1 hz with e | hz
      · rw [e]; exact hxy
      · exact ltV_trans hxy (h1.1 z hz)
def heldL (l : List Vl) (d : En) : Bool := l.any fun x => decide (x.1 = d)
theorem heldL_iff {l : List Vl} {d : En} : heldL l d = true ↔ ∃ x ∈ l, x.1 = d := by
  unfold heldL
  rw [List.any_eq_true]
  constructor
  · rintro ⟨x, hx, h⟩
    exact ⟨x, hx, of_decide_eq_true h⟩
  · rintro ⟨x, hx, h⟩
    exact ⟨x, hx, decide_eq_true h⟩
def foldI (l m : List Vl) : List Vl := m.foldl (fun l y => insB y l) l
theorem mem_foldI {z : Vl} : ∀ {m l : List Vl}, z ∈ foldI l m ↔ z ∈ l ∨ z ∈ m
  | [], l => by simp [foldI]
  | y :: m, l => by
    show z ∈ foldI (insB y l) m ↔ _
    rw [mem_foldI, mem_insB, List.mem_cons]
    constructor
    · rintro ((h | h) | h)
      · exact .inr (.inl h)
      · exact .inl h
      · exact .inr (.inr h)
    · rintro (h | h | h)
      · exact .inl (.inr h)
      · exact .inl (.inl h)
      · exact .inr h
theorem foldI_len : ∀ (m l : List Vl), (foldI l m).length = l.length + m.length
  | [], l => rfl
  | y :: m, l => by
    show (foldI (insB y l) m).length = _
    rw [foldI_len m, insB_len, List.length_cons]
    omega
theorem srt_foldI : ∀ {m l : List Vl}, Srt l → Srt m → (∀ x ∈ l, ∀ y ∈ m, x.1 ≠ y.1) → Srt (foldI l m)
  | [], _, h, _, _ => h
  | y :: m, l, h, hm, hn => by
    have h1 := List.pairwise_cons.1 hm
    refine srt_foldI (m := m) (l := insB y l) (srt_insB h fun x hx => hn x hx y List.mem_cons_self) h1.2 fun x hx z hz => ?_
    rcases mem_insB.1 hx with e | hx
    · rw [e]; exact ltV_ne (h1.1 z hz)
    · exact hn x hx z (List.mem_cons_of_mem _ hz)
/- What may be. -/
def okV (k : Nat → Int) (x : Vl) : Bool := hasV k x.1 && decide (x.2.size ≤ 64)
def mayB (b : Bg) : Bool := mayV b.k && (decide (b.v.length ≤ 32) && (decide (Srt b.v) && b.v.all (okV b.k)))
/-- In order, and all of it known. -/
structure Pre (b : Bg) : Prop where
  srt : Srt b.v
  has : ∀ x ∈ b.v, hasV b.k x.1 = true
structure MayB (b : Bg) : Prop extends Pre b where
  k : mayV b.k = true
  len : b.v.length ≤ 32
  sz : ∀ x ∈ b.v, x.2.size ≤ 64
theorem mayB_iff {b : Bg} : mayB b = true ↔ MayB b := by
  unfold mayB okV
  rw [Bool.and_eq_true, Bool.and_eq_true, Bool.and_eq_true, decide_eq_true_iff, decide_eq_true_iff, List.all_eq_true]
  constructor
  · rintro ⟨h1, h2, h3, h4⟩
    exact ⟨⟨h3, fun x hx => (Bool.and_eq_true_iff.1 (h4 x hx)).1⟩, h1, h2, fun x hx => of_decide_eq_true (Bool.and_eq_true_iff.1 (h4 x hx)).2⟩
  · rintro ⟨⟨h3, h4⟩, h1, h2, h5⟩
    exact ⟨h1, h2, h3, fun x hx => Bool.and_eq_true_iff.2 ⟨h4 x hx, decide_eq_true (h5 x hx)⟩⟩
/- Two are joined. -/
def keptA (a b : Bg) : List Vl := a.v.filter fun x => heldL b.v x.1 || !hasV b.k x.1
def keptB (a b : Bg) : List Vl := b.v.filter fun x => !hasV a.k x.1
def joinB (a b : Bg) : Bg := ⟨joinV a.k b.k, foldI (keptA a b) (keptB a b)⟩
def joinBR (a b : Bg) : Bg × Int := if mayB a = true ∧ mayB b = true then (if (joinB a b).v.length ≤ 32 then (joinB a b, 0) else (noB, 5)) else (noB, 1)
theorem mem_keptA {a b : Bg} {x : Vl} : x ∈ keptA a b ↔ x ∈ a.v ∧ (heldL b.v x.1 = true ∨ hasV b.k x.1 = false) := by
  unfold keptA
  rw [List.mem_filter, Bool.or_eq_true, Bool.not_eq_true']
theorem mem_keptB {a b : Bg} {x : Vl} : x ∈ keptB a b ↔ x ∈ b.v ∧ hasV a.k x.1 = false := by
  unfold keptB
  rw [List.mem_filter, Bool.not_eq_true']
theorem mem_join {a b : Bg} {x : Vl} : x ∈ (joinB a b).v ↔ (x ∈ a.v ∧ (heldL b.v x.1 = true ∨ hasV b.k x.1 = false)) ∨ (x ∈ b.v ∧ hasV a.k x.1 = false) := by
  show x ∈ foldI _ _ ↔ _
  rw [mem_foldI, mem_keptA, mem_keptB]
theorem join_len (a b : Bg) : (joinB a b).v.length = (keptA a b).length + (keptB a b).length := foldI_len _ _
theorem pre_join {a b : Bg} (ha : Pre a) (hb : Pre b) : Pre (joinB a b) where
  srt := srt_foldI (ha.srt.sublist List.filter_sublist) (hb.srt.sublist List.filter_sublist) fun x hx y hy e => by
    have h1 := ha.has x (mem_keptA.1 hx).1
    rw [e, (mem_keptB.1 hy).2] at h1
    cases h1
  has x hx := by
    show hasV (joinV a.k b.k) x.1 = true
    rw [hasV_join, Bool.or_eq_true]
    rcases mem_join.1 hx with ⟨h, _⟩ | ⟨h, _⟩
    · exact .inl (ha.has x h)
    · exact .inr (hb.has x h)
theorem may_join {a b : Bg} (ha : MayB a) (hb : MayB b) (hl : (joinB a b).v.length ≤ 32) : MayB (joinB a b) where
  toPre := pre_join ha.toPre hb.toPre
  k := mayV_iff.2 fun i hi => by
    have h1 := mayV_iff.1 ha.k i hi
    have h2 := mayV_iff.1 hb.k i hi
    show 0 ≤ max (a.k i) (b.k i) ∧ max (a.k i) (b.k i) ≤ 1000000
    omega
  len := hl
  sz x hx := by
    rcases mem_join.1 hx with ⟨h, _⟩ | ⟨h, _⟩
    · exact ha.sz x h
    · exact hb.sz x h
/-- What a bag holds of a dot: 0: it does not know it, 1: it stands there, 2: it is gone. -/
def stB (b : Bg) (d : En) : Nat := if hasV b.k d = true then (if heldL b.v d = true then 1 else 2) else 0
theorem stB_one {b : Bg} (h : Pre b) {d : En} : stB b d = 1 ↔ heldL b.v d = true := by
  unfold stB
  by_cases h1 : hasV b.k d = true
  · rw [if_pos h1]
    by_cases h2 : heldL b.v d = true
    · rw [if_pos h2]; exact ⟨fun _ => h2, fun _ => rfl⟩
    · rw [if_neg h2]; exact ⟨fun q => by omega, fun q => absurd q h2⟩
  · rw [if_neg h1]
    refine ⟨fun q => by omega, fun q => ?_⟩
    obtain ⟨x, hx, e⟩ := heldL_iff.1 q
    have := h.has x hx
    rw [e] at this
    exact absurd this h1
theorem stB_le (b : Bg) (d : En) : stB b d ≤ 2 := by
  unfold stB
  split
  · split <;> omega
  · omega
theorem stB_zero {b : Bg} {d : En} : stB b d = 0 ↔ hasV b.k d = false := by
  unfold stB
  by_cases h1 : hasV b.k d = true
  · rw [if_pos h1, h1]
    split <;> simp
  · rw [if_neg h1]
    simpa using h1
theorem stB_two {b : Bg} {d : En} : stB b d = 2 ↔ hasV b.k d = true ∧ heldL b.v d = false := by
  unfold stB
  by_cases h1 : hasV b.k d = true
  · rw [if_pos h1, h1]
    by_cases h2 : heldL b.v d = true
    · rw [if_pos h2, h2]; simp
    · rw [if_neg h2]; simpa using h2
  · rw [if_neg h1]
    simp [h1]
/-- **The join of two bags is, dot by dot, the greater of what they hold.** -/
theorem stB_join {a b : Bg} (ha : Pre a) (hb : Pre b) (d : En) : stB (joinB a b) d = max (stB a d) (stB b d) := by
  have hj := pre_join ha hb
  have hh : hasV (joinB a b).k d = (hasV a.k d || hasV b.k d) := hasV_join _ _ _
  have key : heldL (joinB a b).v d = true ↔ (stB a d = 1 ∧ stB b d ≤ 1) ∨ (stB b d = 1 ∧ stB a d = 0) := by
    rw [heldL_iff]
    constructor
    · rintro ⟨x, hx, e⟩
      subst e
      rcases mem_join.1 hx with ⟨h1, h2⟩ | ⟨h1, h2⟩
      · left
        refine ⟨(stB_one ha).2 (heldL_iff.2 ⟨x, h1, rfl⟩), ?_⟩
        rcases h2 with h2 | h2
        · rw [(stB_one hb).2 h2]; omega
        · rw [stB_zero.2 h2]; omega
      · right
        exact ⟨(stB_one hb).2 (heldL_iff.2 ⟨x, h1, rfl⟩), stB_zero.2 h2⟩
    · rintro (⟨h1, h2⟩ | ⟨h1, h2⟩)
      · obtain ⟨x, hx, e⟩ := heldL_iff.1 ((stB_one ha).1 h1)
        refine ⟨x, mem_join.2 (.inl ⟨hx, ?_⟩), e⟩
        rw [e]
        rcases (show stB b d = 1 ∨ stB b d = 0 by omega) with h3 | h3
        · exact .inl ((stB_one hb).1 h3)
        · exact .inr (stB_zero.1 h3)
      · obtain ⟨x, hx, e⟩ := heldL_iff.1 ((stB_one hb).1 h1)
        exact ⟨x, mem_join.2 (.inr ⟨hx, by rw [e]; exact stB_zero.1 h2⟩), e⟩
  have b1 := stB_le a d
  have b2 := stB_le b d
  by_cases h0 : heldL (joinB a b).v d = true
  · rw [(stB_one hj).2 h0]
    rcases key.1 h0 with ⟨h1, h2⟩ | ⟨h1, h2⟩ <;> omega
  · have h1 : ¬ ((stB a d = 1 ∧ stB b d ≤ 1) ∨ (stB b d = 1 ∧ stB a d = 0)) := fun q => h0 (key.2 q)
    by_cases h2 : stB a d = 0 ∧ stB b d = 0
    · rw [stB_zero.2 (by rw [hh, stB_zero.1 h2.1, stB_zero.1 h2.2]; rfl), h2.1, h2.2]
      rfl
    · rw [stB_two.2 ⟨?_, by simpa using h0⟩]
      · omega
      · rw [hh, Bool.or_eq_true]
        rcases (show stB a d ≠ 0 ∨ stB b d ≠ 0 by omega) with h3 | h3
        · left
          cases q : hasV a.k d
          · exact absurd (stB_zero.2 q) h3
          · rfl
        · right
          cases q : hasV b.k d
          · exact absurd (stB_zero.2 q) h3
          · rfl
/- Where a dot has one text, a bag's values are what it holds. -/
def DatB (dat : En → ByteArray) (b : Bg) : Prop := ∀ x ∈ b.v, x.2 = dat x.1
theorem dat_join {dat : En → ByteArray} {a b : Bg} (ha : DatB dat a) (hb : DatB dat b) : DatB dat (joinB a b) := fun x hx => by
  rcases mem_join.1 hx with ⟨h, _⟩ | ⟨h, _⟩
  · exact ha x h
  · exact hb x h
theorem bag_ext {dat : En → ByteArray} {a b : Bg} (ha : Pre a) (hb : Pre b) (da : DatB dat a) (db : DatB dat b) (h : ∀ d, stB a d = stB b d) : a.v = b.v := by
  refine srt_ext ha.srt hb.srt fun x => ?_
  have key : ∀ {c : Bg}, Pre c → DatB dat c → (x ∈ c.v ↔ stB c x.1 = 1 ∧ x.2 = dat x.1) := fun {c} hc dc => by
    rw [stB_one hc, heldL_iff]
    constructor
    · intro hx
      exact ⟨⟨x, hx, rfl⟩, dc x hx⟩
    · rintro ⟨⟨y, hy, e⟩, e2⟩
      have e3 : y = x := Prod.ext e (by rw [dc y hy, e2, e])
      rwa [← e3]
  rw [key ha da, key hb db, h]
theorem joinB_comm {dat : En → ByteArray} {a b : Bg} (ha : Pre a) (hb : Pre b) (da : DatB dat a) (db : DatB dat b) : joinB a b = joinB b a := by
  have h1 := bag_ext (pre_join ha hb) (pre_join hb ha) (dat_join da db) (dat_join db da) fun d => by rw [stB_join ha hb, stB_join hb ha]; omega
  exact bg_ext (joinV_comm _ _) h1
theorem joinB_assoc {dat : En → ByteArray} {a b c : Bg} (ha : Pre a) (hb : Pre b) (hc : Pre c) (da : DatB dat a) (db : DatB dat b) (dc : DatB dat c) : joinB (joinB a b) c = joinB a (joinB b c) := by
  have h1 := bag_ext (pre_join (pre_join ha hb) hc) (pre_join ha (pre_join hb hc)) (dat_join (dat_join da db) dc) (dat_join da (dat_join db dc)) fun d => by
    rw [stB_join (pre_join ha hb) hc, stB_join ha hb, stB_join ha (pre_join hb hc), stB_join hb hc]
    omega
  exact bg_ext (joinV_assoc _ _ _) h1
/-- What one holds is no more than what the other does. -/
def leB (a b : Bg) : Prop := (∀ i, i < 8 → a.k i ≤ b.k i) ∧ ∀ d, stB a d ≤ stB b d
theorem leB_refl (a : Bg) : leB a a := ⟨fun _ _ => Int.le_refl _, fun _ => Nat.le_refl _⟩
theorem leB_trans {a b c : Bg} (h1 : leB a b) (h2 : leB b c) : leB a c := ⟨fun i hi => Int.le_trans (h1.1 i hi) (h2.1 i hi), fun d => Nat.le_trans (h1.2 d) (h2.2 d)⟩
theorem leB_left {a b : Bg} (ha : Pre a) (hb : Pre b) : leB a (joinB a b) := ⟨fun i _ => by show a.k i ≤ max (a.k i) (b.k i); omega, fun d => by rw [stB_join ha hb]; omega⟩
theorem leB_right {a b : Bg} (ha : Pre a) (hb : Pre b) : leB b (joinB a b) := ⟨fun i _ => by show b.k i ≤ max (a.k i) (b.k i); omega, fun d => by rw [stB_join ha hb]; omega⟩
/-- Joined with what it is above of, it is itself. -/
theorem join_le {dat : En → ByteArray} {a b : Bg} (ha : Pre a) (hb : Pre b) (da : DatB dat a) (db : DatB dat b) (h : leB a b) : (joinB a b).v = b.v ∧ (∀ i, i < 8 → (joinB a b).k i = b.k i) ∧ (joinB b a).v = b.v ∧ (∀ i, i < 8 → (joinB b a).k i = b.k i) := by
  refine ⟨bag_ext (pre_join ha hb) hb (dat_join da db) db fun d => ?_, fun i hi => ?_, bag_ext (pre_join hb ha) hb (dat_join db da) db fun d => ?_, fun i hi => ?_⟩
  · rw [stB_join ha hb]; have := h.2 d; omega
  · have := h.1 i hi
    show max (a.k i) (b.k i) = b.k i
    omega
  · rw [stB_join hb ha]; have := h.2 d; omega
  · have := h.1 i hi
    show max (b.k i) (a.k i) = b.k i
    omega
/- A write. -/
def leftB (b : Bg) (known : Nat → Int) : List Vl := b.v.filter fun x => !hasV known x.1
def putB (b : Bg) (known : Nat → Int) (d : En) (t : ByteArray) : Bg := ⟨withV (joinV b.k known) d, insB (d, t) (leftB b known)⟩
def dotB (d : En) : Bool := nodeE d.1 && decide (1 ≤ d.2 ∧ d.2 ≤ 1000000)
def putBR (b : Bg) (known : Nat → Int) (d : En) (t : ByteArray) : Bg × Int := if mayB b = true ∧ mayV known = true ∧ dotB d = true ∧ hasV b.k d = false ∧ t.size ≤ 64 then (if (putB b known d t).v.length ≤ 32 then (putB b known d t, 0) else (noB, 5)) else (noB, 1)
theorem dotB_iff {d : En} : dotB d = true ↔ (0 ≤ d.1 ∧ d.1 < 8) ∧ 1 ≤ d.2 ∧ d.2 ≤ 1000000 := by
  unfold dotB nodeE
  rw [Bool.and_eq_true, decide_eq_true_iff, decide_eq_true_iff]
theorem mem_leftB {b : Bg} {known : Nat → Int} {x : Vl} : x ∈ leftB b known ↔ x ∈ b.v ∧ hasV known x.1 = false := by
  unfold leftB
  rw [List.mem_filter, Bool.not_eq_true']
theorem mem_put {b : Bg} {known : Nat → Int} {d : En} {t : ByteArray} {x : Vl} : x ∈ (putB b known d t).v ↔ x = (d, t) ∨ (x ∈ b.v ∧ hasV known x.1 = false) := by
  show x ∈ insB _ _ ↔ _
  rw [mem_insB, mem_leftB]
theorem put_len (b : Bg) (known : Nat → Int) (d : En) (t : ByteArray) : (putB b known d t).v.length = (leftB b known).length + 1 := insB_len _ _
theorem pre_put {b : Bg} {known : Nat → Int} {d : En} {t : ByteArray} (hb : Pre b) (hd : dotB d = true) (hn : hasV b.k d = false) : Pre (putB b known d t) where
  srt := srt_insB (hb.srt.sublist List.filter_sublist) fun y hy e => by
    have h1 := hb.has y (mem_leftB.1 hy).1
    rw [show y.1 = d from e, hn] at h1
    cases h1
  has x hx := by
    have h := dotB_iff.1 hd
    show hasV (withV (joinV b.k known) d) x.1 = true
    rcases mem_put.1 hx with e | ⟨h1, _⟩
    · rw [e]
      exact hasV_with h.1 h.2.1
    · exact hasV_below (belowV_with _ _) (by rw [hasV_join, hb.has x h1]; rfl)
theorem may_put {b : Bg} {known : Nat → Int} {d : En} {t : ByteArray} (hb : MayB b) (hk : mayV known = true) (hd : dotB d = true) (hn : hasV b.k d = false) (ht : t.size ≤ 64) (hl : (putB b known d t).v.length ≤ 32) : MayB (putB b known d t) where
  toPre := pre_put hb.toPre hd hn
  k := mayV_with (mayV_iff.2 fun i hi => by
    have h1 := mayV_iff.1 hb.k i hi
    have h2 := mayV_iff.1 hk i hi
    show 0 ≤ max (b.k i) (known i) ∧ max (b.k i) (known i) ≤ 1000000
    omega) (dotB_iff.1 hd).2.2
  len := hl
  sz x hx := by
    rcases mem_put.1 hx with e | ⟨h1, _⟩
    · rw [e]; exact ht
    · exact hb.sz x h1
/-- A write takes nothing back. -/
theorem leB_put {b : Bg} {known : Nat → Int} {d : En} {t : ByteArray} (hb : Pre b) (hd : dotB d = true) (hn : hasV b.k d = false) : leB b (putB b known d t) := by
  have hp := pre_put (known := known) (t := t) hb hd hn
  have hbel : belowV b.k (putB b known d t).k = true := belowV_iff.2 fun i hi => Int.le_trans (belowV_iff.1 (belowV_left b.k known) i hi) (belowV_iff.1 (belowV_with (joinV b.k known) d) i hi)
  refine ⟨fun i hi => belowV_iff.1 hbel i hi, fun e => ?_⟩
  rcases (show stB b e = 0 ∨ stB b e = 1 ∨ stB b e = 2 by have := stB_le b e; omega) with h | h | h
  · omega
  · have h1 : hasV b.k e = true := by
      cases q : hasV b.k e
      · rw [stB_zero.2 q] at h; omega
      · rfl
    have h2 := hasV_below hbel h1
    have : stB (putB b known d t) e ≠ 0 := fun q => by rw [stB_zero.1 q] at h2; cases h2
    omega
  · obtain ⟨h1, h2⟩ := stB_two.1 h
    rw [stB_two.2 ⟨hasV_below hbel h1, ?_⟩]
    · omega
    · rw [← Bool.not_eq_true, heldL_iff]
      rintro ⟨x, hx, ex⟩
      rcases mem_put.1 hx with q | ⟨q, _⟩
      · subst q
        rw [show d = e from ex] at hn
        rw [hn] at h1
        cases h1
      · have : heldL b.v e = true := heldL_iff.2 ⟨x, q, ex⟩
        rw [h2] at this
        cases this
theorem dat_put {dat : En → ByteArray} {b : Bg} {known : Nat → Int} {d : En} {t : ByteArray} (hb : DatB dat b) (ht : t = dat d) : DatB dat (putB b known d t) := fun x hx => by
  rcases mem_put.1 hx with e | ⟨h1, _⟩
  · rw [e]; exact ht
  · exact hb x h1
/- Texts: each once. -/
def heldT (l : List ByteArray) (t : ByteArray) : Bool := l.any fun s => decide (s = t)
theorem heldT_iff {l : List ByteArray} {t : ByteArray} : heldT l t = true ↔ t ∈ l := by
  unfold heldT
  rw [List.any_eq_true]
  exact ⟨fun ⟨s, h, e⟩ => by rw [← of_decide_eq_true e]; exact h, fun h => ⟨t, h, decide_eq_true rfl⟩⟩
def textsL : List Vl → List ByteArray → List ByteArray
  | [], acc => acc
  | x :: l, acc => textsL l (if heldT acc x.2 = true then acc else acc ++ [x.2])
theorem textsL_mem {t : ByteArray} : ∀ {l : List Vl} {acc : List ByteArray}, t ∈ textsL l acc ↔ t ∈ acc ∨ ∃ x ∈ l, x.2 = t
  | [], acc => by simp [textsL]
  | x :: l, acc => by
    unfold textsL
    rw [textsL_mem]
    by_cases h : heldT acc x.2 = true
    · rw [if_pos h]
      constructor
      · rintro (q | ⟨y, hy, q⟩)
        · exact .inl q
        · exact .inr ⟨y, List.mem_cons_of_mem _ hy, q⟩
      · rintro (q | ⟨y, hy, q⟩)
        · exact .inl q
        · rcases List.mem_cons.1 hy with e | hy
          · subst e; subst q
            exact .inl (heldT_iff.1 h)
          · exact .inr ⟨y, hy, q⟩
    · rw [if_neg h, List.mem_append, List.mem_singleton]
      constructor
      · rintro ((q | q) | ⟨y, hy, q⟩)
        · exact .inl q
        · exact .inr ⟨x, List.mem_cons_self, q.symm⟩
        · exact .inr ⟨y, List.mem_cons_of_mem _ hy, q⟩
      · rintro (q | ⟨y, hy, q⟩)
        · exact .inl (.inl q)
        · rcases List.mem_cons.1 hy with e | hy
          · subst e
            exact .inl (.inr q.symm)
          · exact .inr ⟨y, hy, q⟩
theorem textsL_nodup : ∀ {l : List Vl} {acc : List ByteArray}, acc.Nodup → (textsL l acc).Nodup
  | [], _, h => h
  | x :: l, acc, h => by
    unfold textsL
    refine textsL_nodup ?_
    by_cases q : heldT acc x.2 = true
    · rw [if_pos q]; exact h
    · rw [if_neg q]
      rw [List.nodup_append]
      refine ⟨h, List.nodup_cons.2 ⟨List.not_mem_nil, List.nodup_nil⟩, fun a ha b hb e => ?_⟩
      rw [List.mem_singleton] at hb
      subst hb; subst e
      exact q (heldT_iff.2 ha)
theorem textsL_len : ∀ (l : List Vl) (acc : List ByteArray), (textsL l acc).length ≤ acc.length + l.length
  | [], acc => by simp [textsL]
  | x :: l, acc => by
    unfold textsL
    refine Nat.le_trans (textsL_len l _) ?_
    rw [List.length_cons]
    split
    · omega
    · rw [List.length_append, List.length_singleton]
      omega
end Go.Proofs.Ytneeidedadlioaa
