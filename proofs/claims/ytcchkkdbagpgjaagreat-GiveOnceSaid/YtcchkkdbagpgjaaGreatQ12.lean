/- Q12: VtQ, FdM. -/
import Derived.Test.YtcchkkdbagpgjaaGreatVtM
import Derived.Test.YtcchkkdbagpgjaaGreatPB
namespace Go.Proofs.YtcchkkdbagpgjaaGreat
open Go
theorem ofK_range {k : ByteArray} (h : keyB k = true) : 0 ≤ ofK k ∧ ofK k < 16 := by
 unfold ofK
 rw [if_pos (show mayK k = true from h)]
 omega
theorem ofK_no {k : ByteArray} (h : keyB k = false) : ofK k = -1 := by
 unfold ofK
 rw [if_neg (by rw [show mayK k = false from h]; exact Bool.false_ne_true)]
def sumK (S : Vt) : Nat → Nat
 | 0 => 0
 | i + 1 => sumK S i + (keysV S (i : Int)).length
theorem keysV_len (S : Vt) (n : Int) : (keysV S n).length = S.b.countP fun p => decide (ofK p.1 = n) := by
 unfold keysV
 rw [List.length_map, List.countP_eq_length_filter]
theorem countP_split (i : Nat) : ∀ l : List Kb, (l.countP fun p => decide (0 ≤ ofK p.1 ∧ ofK p.1 < ((i + 1 : Nat) : Int))) = (l.countP fun p => decide (0 ≤ ofK p.1 ∧ ofK p.1 < (i : Int))) + l.countP fun p => decide (ofK p.1 = (i : Int))
 | [] => rfl
 | p :: l => by
  rw [List.countP_cons, List.countP_cons, List.countP_cons, countP_split i l]
  by_cases h1 : 0 ≤ ofK p.1 ∧ ofK p.1 < (i : Int)
  ·rw [if_pos (decide_eq_true (by omega)), if_pos (decide_eq_true h1), if_neg (by simp; omega)]
   omega
  ·by_cases h2 : ofK p.1 = (i : Int)
   ·rw [if_pos (decide_eq_true (by omega)), if_neg (by simp; omega), if_pos (decide_eq_true h2)]
    omega
   ·rw [if_neg (by simp; omega), if_neg (by simp; omega), if_neg (by simp; omega)]
    omega
theorem sumK_count (S : Vt) : ∀ i : Nat, sumK S i = S.b.countP fun p => decide (0 ≤ ofK p.1 ∧ ofK p.1 < (i : Int))
 | 0 => by
  show 0 = _
  rw [eq_comm, List.countP_eq_zero]
  intro p _
  simp
  try omega
 | i + 1 => by
  show sumK S i + _ = _
  rw [sumK_count S i, keysV_len, countP_split]
theorem sumK_all {S : Vt} (h : VtOk S) : sumK S 16 = S.b.length := by
 rw [sumK_count, List.countP_eq_length]
 intro p hp
 have := ofK_range (h.key p hp)
 exact decide_eq_true ⟨this.1, by have := this.2; omega⟩
theorem mem_keysV {S : Vt} {n : Int} {k : ByteArray} : k ∈ keysV S n ↔ (∃ x, (k, x) ∈ S.b) ∧ ofK k = n := by
 unfold keysV
 rw [List.mem_map]
 constructor
 ·rintro ⟨p, hp, rfl⟩
  rw [List.mem_filter] at hp
  exact ⟨⟨p.2, hp.1⟩, of_decide_eq_true hp.2⟩
 ·rintro ⟨⟨x, hx⟩, hn⟩
  exact ⟨(k, x), List.mem_filter.2 ⟨hx, decide_eq_true hn⟩, rfl⟩
theorem hasK_iff {S : Vt} (h : SrtK S.b) {k : ByteArray} : hasK S k = true ↔ ∃ x, (k, x) ∈ S.b := by
 unfold hasK
 rw [Option.isSome_iff_exists]
 exact ⟨fun ⟨x, hx⟩ => ⟨x, getK_mem hx⟩, fun ⟨x, hx⟩ => ⟨x, getK_of h hx⟩⟩
theorem keysV_srt {S : Vt} (h : SrtK S.b) (n : Int) : (keysV S n).Pairwise ltK := by
 unfold keysV
 exact List.pairwise_map.2 (h.sublist List.filter_sublist)
/- A Drop. -/
theorem hasK_put {S : Vt} {d : Dd} (h : d.kind = 3) (k : ByteArray) : hasK (countD S d) k = (hasK S k || decide (k = d.key)) := by
 rw [countD_3 h]
 unfold hasK
 show (getK (putK d.key d.b S.b) k).isSome = _
 by_cases e : k = d.key
 ·rw [e, getK_put, decide_eq_true rfl, Bool.or_true]
  rfl
 ·rw [getK_other _ e, decide_eq_false e, Bool.or_false]
end Go.Proofs.YtcchkkdbagpgjaaGreat
namespace Go.Proofs.YtcchkkdbagpgjaaGreat
open Go
structure Fd where
 part : Int
 any : Bool
 last : ByteArray
 due : List ByteArray
def newF (part : Int) : Fd := ⟨part, false, ⟨#[]⟩, []⟩
def hasL (ks : List ByteArray) (k : ByteArray) : Bool := ks.any fun x => decide (x = k)
theorem hasL_iff {ks : List ByteArray} {k : ByteArray} : hasL ks k = true ↔ k ∈ ks := by
 unfold hasL
 rw [List.any_eq_true]
 constructor
 ·rintro ⟨x, hx, h⟩
  exact of_decide_eq_true h ▸ hx
 ·exact fun h => ⟨k, h, decide_eq_true rfl⟩
def popD (ks : List ByteArray) : List ByteArray → Option ByteArray × List ByteArray
 | [] => (none, [])
 | k :: l => if hasL ks k = true then (some k, l) else popD ks l
def newK (F : Fd) (k : ByteArray) : Bool := !F.any || decide (ltK F.last k)
def nextF (F : Fd) (ks : List ByteArray) : Fd × Option ByteArray :=
 match popD ks F.due with
 | (some k, l) => (⟨F.part, F.any, F.last, l⟩, some k)
 | (none, _) =>
  match ks.find? (newK F) with
  | some k => (⟨F.part, true, k, []⟩, some k)
  | none => (⟨F.part, F.any, F.last, []⟩, none)
def insK (k : ByteArray) : List ByteArray → List ByteArray
 | [] => [k]
 | x :: l => if k = x then x :: l else if ltK k x then k :: x :: l else x :: insK k l
def backB (F : Fd) (k : ByteArray) : Bool := decide (ofK k = F.part) && (F.any && !decide (ltK F.last k))
def backF (F : Fd) (k : ByteArray) : Fd := if backB F k = true then ⟨F.part, F.any, F.last, insK k F.due⟩ else F
def overF (F : Fd) (ks : List ByteArray) : Bool := (nextF F ks).2.isNone
theorem mem_insK {k x : ByteArray} : ∀ {l : List ByteArray}, x ∈ insK k l ↔ x = k ∨ x ∈ l
 | [] => by simp [insK]
 | y :: l => by
  unfold insK
  by_cases h : k = y
  ·rw [if_pos h, h]
   simp
  ·rw [if_neg h]
   by_cases h2 : ltK k y
   ·rw [if_pos h2]
    simp
   ·rw [if_neg h2]
    simp only [List.mem_cons, mem_insK (l := l)]
    constructor
    ·rintro (h | h | h)
     ·exact .inr (.inl h)
     ·exact .inl h
     ·exact .inr (.inr h)
    ·rintro (h | h | h)
     ·exact .inr (.inl h)
     ·exact .inl h
     ·exact .inr (.inr h)
theorem srt_insK {k : ByteArray} : ∀ {l : List ByteArray}, l.Pairwise ltK → (insK k l).Pairwise ltK
 | [], _ => by simp [insK]
 | y :: l, h => by
  obtain ⟨h1, h2⟩ := List.pairwise_cons.1 h
  unfold insK
  by_cases e : k = y
  ·rw [if_pos e]
   exact h
  ·rw [if_neg e]
   by_cases e2 : ltK k y
   ·rw [if_pos e2]
    refine List.pairwise_cons.2 ⟨fun z hz => ?_, h⟩
    rcases List.mem_cons.1 hz with rfl | hz
    ·exact e2
    ·exact ltK_trans e2 (h1 z hz)
   ·rw [if_neg e2]
    refine List.pairwise_cons.2 ⟨fun z hz => ?_, srt_insK h2⟩
    rcases mem_insK.1 hz with rfl | hz
    ·rcases ltK_tri z y with h3 | h3 | h3
     ·exact absurd h3 e2
     ·exact absurd h3 e
     ·exact h3
    ·exact h1 z hz
structure FdOk (F : Fd) : Prop where
 part : 0 ≤ F.part ∧ F.part < 16
 srt : F.due.Pairwise ltK
 due : ∀ k ∈ F.due, ofK k = F.part ∧ F.any = true ∧ ¬ ltK F.last k
theorem FdOk.new {n : Int} (h : 0 ≤ n ∧ n < 16) : FdOk (newF n) := ⟨h, List.Pairwise.nil, fun k hk => by cases hk⟩
theorem popD_sub (ks : List ByteArray) : ∀ l : List ByteArray, (popD ks l).2.Sublist l
 | [] => List.Sublist.refl _
 | k :: l => by
  unfold popD
  split
  ·exact List.sublist_cons_self _ _
  ·exact (popD_sub ks l).cons _
theorem popD_some {ks : List ByteArray} {k : ByteArray} {r : List ByteArray} : ∀ {l : List ByteArray}, popD ks l = (some k, r) → k ∈ ks ∧ k ∈ l ∧ ∃ a, l = a ++ k :: r ∧ ∀ x ∈ a, x ∉ ks
 | [], h => by cases h
 | y :: l, h => by
  unfold popD at h
  split at h
  ·rename_i hy
   have e1 : y = k := Option.some.inj (Prod.mk.inj h).1
   have e2 : l = r := (Prod.mk.inj h).2
   subst e1 e2
   exact ⟨hasL_iff.1 hy, List.mem_cons_self, [], rfl, fun _ h => by cases h⟩
  ·rename_i hy
   obtain ⟨h1, h2, a, h3, h4⟩ := popD_some h
   refine ⟨h1, List.mem_cons_of_mem _ h2, y :: a, by rw [h3]; rfl, fun x hx => ?_⟩
   rcases List.mem_cons.1 hx with rfl | hx
   ·exact fun hm => hy (hasL_iff.2 hm)
   ·exact h4 x hx
theorem popD_none {ks : List ByteArray} {r : List ByteArray} : ∀ {l : List ByteArray}, popD ks l = (none, r) → r = [] ∧ ∀ x ∈ l, x ∉ ks
 | [], h => ⟨(Prod.mk.inj h).2.symm, fun _ h => by cases h⟩
 | y :: l, h => by
  unfold popD at h
  split at h
  ·cases h
  ·rename_i hy
   obtain ⟨h1, h2⟩ := popD_none h
   refine ⟨h1, fun x hx => ?_⟩
   rcases List.mem_cons.1 hx with rfl | hx
   ·exact fun hm => hy (hasL_iff.2 hm)
   ·exact h2 x hx
theorem next_ways (F : Fd) (ks : List ByteArray) : (∃ k r, popD ks F.due = (some k, r) ∧ nextF F ks = (⟨F.part, F.any, F.last, r⟩, some k)) ∨ (∃ k, popD ks F.due = (none, []) ∧ ks.find? (newK F) = some k ∧ nextF F ks = (⟨F.part, true, k, []⟩, some k)) ∨ (popD ks F.due = (none, []) ∧ ks.find? (newK F) = none ∧ nextF F ks = (⟨F.part, F.any, F.last, []⟩, none)) := by
 unfold nextF
 obtain ⟨o, r, h⟩ : ∃ o r, popD ks F.due = (o, r) := ⟨_, _, rfl⟩
 rw [h]
 cases o with
 | some k => exact .inl ⟨k, r, rfl, rfl⟩
 | none =>
  obtain rfl := (popD_none h).1
  dsimp only
  cases hf : ks.find? (newK F) with
  | some k => exact .inr (.inl ⟨k, rfl, rfl, rfl⟩)
  | none => exact .inr (.inr ⟨rfl, rfl, rfl⟩)
theorem FdOk.next {F : Fd} (h : FdOk F) (ks : List ByteArray) : FdOk (nextF F ks).1 := by
 have hs := popD_sub ks F.due
 rcases next_ways F ks with ⟨k, r, h1, h2⟩ | ⟨k, h1, _, h2⟩ | ⟨h1, _, h2⟩
 ·rw [h1] at hs
  rw [h2]
  exact ⟨h.part, h.srt.sublist hs, fun x hx => h.due x (hs.subset hx)⟩
 ·rw [h2]
  exact ⟨h.part, List.Pairwise.nil, fun x hx => by cases hx⟩
 ·rw [h2]
  exact ⟨h.part, List.Pairwise.nil, fun x hx => by cases hx⟩
theorem FdOk.back {F : Fd} (h : FdOk F) (k : ByteArray) : FdOk (backF F k) := by
 unfold backF
 split
 ·rename_i hb
  unfold backB at hb
  simp only [Bool.and_eq_true, decide_eq_true_eq, Bool.not_eq_true', decide_eq_false_iff_not] at hb
  refine ⟨h.part, srt_insK h.srt, fun x hx => ?_⟩
  rcases mem_insK.1 hx with rfl | hx
  ·exact hb
  ·exact h.due x hx
 ·exact h
theorem next_part (F : Fd) (ks : List ByteArray) : (nextF F ks).1.part = F.part := by
 rcases next_ways F ks with ⟨k, r, _, h⟩ | ⟨k, _, _, h⟩ | ⟨_, _, h⟩ <;> rw [h]
theorem back_part (F : Fd) (k : ByteArray) : (backF F k).part = F.part := by
 unfold backF
 split <;> rfl
theorem next_mem {F : Fd} {ks : List ByteArray} {k : ByteArray} (h : (nextF F ks).2 = some k) : k ∈ ks := by
 rcases next_ways F ks with ⟨x, r, h1, h2⟩ | ⟨x, _, h1, h2⟩ | ⟨_, _, h2⟩
 ·rw [h2] at h
  obtain rfl := Option.some.inj h
  exact (popD_some h1).1
 ·rw [h2] at h
  obtain rfl := Option.some.inj h
  exact List.mem_of_find?_eq_some h1
 ·rw [h2] at h
  cases h
structure Told (F : Fd) (ks : List ByteArray) (i : Nat) : Prop where
 due : F.due = []
 at_ : (i = 0 ∧ F.any = false) ∨ (0 < i ∧ i ≤ ks.length ∧ F.any = true ∧ ks[i - 1]? = some F.last)
theorem Told.new (n : Int) (ks : List ByteArray) : Told (newF n) ks 0 := ⟨rfl, .inl ⟨rfl, rfl⟩⟩
theorem srt_lt {ks : List ByteArray} (h : ks.Pairwise ltK) {i j : Nat} {a b : ByteArray} (ha : ks[i]? = some a) (hb : ks[j]? = some b) (hij : i < j) : ltK a b := by
 obtain ⟨h1, rfl⟩ := List.getElem?_eq_some_iff.1 ha
 obtain ⟨h2, rfl⟩ := List.getElem?_eq_some_iff.1 hb
 exact List.pairwise_iff_getElem.1 h i j h1 h2 hij
theorem srt_le {ks : List ByteArray} (h : ks.Pairwise ltK) {i j : Nat} {a b : ByteArray} (ha : ks[i]? = some a) (hb : ks[j]? = some b) (hij : i ≤ j) : ¬ ltK b a := by
 rcases Nat.lt_or_eq_of_le hij with h1 | rfl
 ·intro h2
  exact ltK_irrefl a (ltK_trans (srt_lt h ha hb h1) h2)
 ·rw [ha] at hb
  obtain rfl := Option.some.inj hb
  exact ltK_irrefl _
theorem Told.new_iff {F : Fd} {ks : List ByteArray} {i : Nat} (h : Told F ks i) (hs : ks.Pairwise ltK) {j : Nat} {k : ByteArray} (hk : ks[j]? = some k) : newK F k = decide (i ≤ j) := by
 unfold newK
 rcases h.at_ with ⟨rfl, h2⟩ | ⟨h0, h1, h2, h3⟩
 ·rw [h2, decide_eq_true (Nat.zero_le j)]
  rfl
 ·rw [h2, Bool.not_true, Bool.false_or]
  by_cases hij : i ≤ j
  ·rw [decide_eq_true hij, decide_eq_true (srt_lt hs h3 hk (by omega))]
  ·rw [decide_eq_false hij, decide_eq_false (srt_le hs hk h3 (by omega))]
theorem find_at {ks : List ByteArray} {p : ByteArray → Bool} {i : Nat} (h : ∀ j k, ks[j]? = some k → p k = decide (i ≤ j)) : ks.find? p = ks[i]? := by
 induction ks generalizing i with
 | nil => rfl
 | cons x l ih =>
  have hx := h 0 x rfl
  rw [List.find?_cons]
  cases i with
  | zero =>
   rw [hx]
   rfl
  | succ i =>
   rw [hx]
   show l.find? p = l[i]?
   exact ih fun j k hk => by
    rw [h (j + 1) k (by rw [List.getElem?_cons_succ]; exact hk)]
    exact decide_eq_decide.2 (by omega)
theorem Told.next {F : Fd} {ks : List ByteArray} {i : Nat} (h : Told F ks i) (hs : ks.Pairwise ltK) : (nextF F ks).2 = ks[i]? ∧ (i < ks.length → Told (nextF F ks).1 ks (i + 1)) ∧ (ks.length ≤ i → Told (nextF F ks).1 ks i) := by
 have hf := find_at fun j k hk => h.new_iff hs hk
 have hp : popD ks F.due = (none, []) := by rw [h.due]; rfl
 rcases next_ways F ks with ⟨k, r, h1, _⟩ | ⟨k, _, h1, h2⟩ | ⟨_, h1, h2⟩
 ·rw [hp] at h1
  cases h1
 ·rw [h2, ← hf, h1]
  refine ⟨rfl, fun hi => ⟨rfl, .inr ⟨by omega, hi, rfl, ?_⟩⟩, fun hi => ?_⟩
  ·show ks[i + 1 - 1]? = some k
   rw [Nat.add_sub_cancel, ← hf, h1]
  ·rw [hf, List.getElem?_eq_none hi] at h1
   cases h1
 ·rw [h2, ← hf, h1]
  refine ⟨rfl, fun hi => ?_, fun _ => ⟨rfl, h.at_⟩⟩
  rw [hf, List.getElem?_eq_getElem hi] at h1
  cases h1
end Go.Proofs.YtcchkkdbagpgjaaGreat
