/- Lead: who leads, and what it does; mathematics. -/
import Derived.Test.YtdfmfcbeebfdhaaRgL
import Derived.Test.YtdfmfcbeebfdhaaClmO
import Derived.Test.YtdfmfcbeebfdhaaRgE
namespace Go.Proofs.Ytdfmfcbeebfdhaa
open Go

/- Nodes of a status. -/
theorem ofR_mem {a : Rg} {f t x : Int} : x ∈ ofR a f t ↔ ∃ m : Nat, x = (m : Int) ∧ m < 8 ∧ f ≤ a.s m ∧ a.s m ≤ t := by
  unfold ofR
  rw [List.mem_map]
  constructor
  · rintro ⟨m, hm, rfl⟩
    rw [List.mem_filter] at hm
    have h2 := of_decide_eq_true hm.2
    exact ⟨m, rfl, List.mem_range.1 hm.1, h2.1, h2.2⟩
  · rintro ⟨m, rfl, h1, h2, h3⟩
    exact ⟨m, List.mem_filter.2 ⟨List.mem_range.2 h1, decide_eq_true ⟨h2, h3⟩⟩, rfl⟩
theorem ofR_memN {a : Rg} {f t : Int} {m : Nat} (hm : m < 8) : (m : Int) ∈ ofR a f t ↔ f ≤ a.s m ∧ a.s m ≤ t := by
  rw [ofR_mem]
  constructor
  · rintro ⟨k, h1, _, h2⟩
    rw [show m = k by omega]
    exact h2
  · rintro h
    exact ⟨m, rfl, hm, h⟩
theorem ofR_Asc (a : Rg) (f t : Int) : Asc (ofR a f t) := by
  unfold Asc nodesK
  rw [List.filter_map]
  conv => lhs; unfold ofR
  congr 1
  refine List.filter_congr fun j hj => ?_
  have hj8 := List.mem_range.1 hj
  rw [Bool.eq_iff_iff, Function.comp_apply, List.contains_iff_mem, ofR_memN hj8, decide_eq_true_iff]
theorem ofR_ok (a : Rg) (f t : Int) : MemOk (ofR a f t) := asc_ok (ofR_Asc a f t)
theorem ofR_peers (a : Rg) (f t : Int) : peersOf (ofR a f t) (-1) = ofR a f t := peers_of_asc (ofR_Asc a f t)
theorem ofR_congr {a b : Rg} {f t g u : Int} (h : ∀ i, i < 8 → ((f ≤ a.s i ∧ a.s i ≤ t) ↔ (g ≤ b.s i ∧ b.s i ≤ u))) : ofR a f t = ofR b g u := by
  unfold ofR
  congr 1
  refine List.filter_congr fun i hi => ?_
  rw [Bool.eq_iff_iff, decide_eq_true_iff, decide_eq_true_iff]
  exact h i (List.mem_range.1 hi)

/- Who leads. -/
def leaderR (a : Rg) (here : List Int) : Int := ((ofR a 2 3).find? fun n => here.contains n).getD (-1)
theorem leader_ways (a : Rg) (here : List Int) : (leaderR a here = -1 ∧ ∀ m : Nat, m < 8 → 2 ≤ a.s m ∧ a.s m ≤ 3 → (m : Int) ∉ here) ∨ (∃ n : Nat, leaderR a here = (n : Int) ∧ n < 8 ∧ (2 ≤ a.s n ∧ a.s n ≤ 3) ∧ (n : Int) ∈ here ∧ ∀ m : Nat, m < n → 2 ≤ a.s m ∧ a.s m ≤ 3 → (m : Int) ∉ here) := by
  unfold leaderR
  cases h : (ofR a 2 3).find? fun n => here.contains n with
  | none =>
    refine .inl ⟨rfl, fun m hm hs hin => ?_⟩
    rw [List.find?_eq_none] at h
    exact h m ((ofR_memN hm).2 hs) (List.contains_iff_mem.2 hin)
  | some x =>
    right
    obtain ⟨h1, l1, l2, h2, h3⟩ := List.find?_eq_some_iff_append.1 h
    have hx : x ∈ ofR a 2 3 := by rw [h2]; simp
    obtain ⟨n, rfl, hn, hs⟩ := ofR_mem.1 hx
    refine ⟨n, rfl, hn, hs, List.contains_iff_mem.1 h1, fun m hm hms hin => ?_⟩
    have hmm : (m : Int) ∈ ofR a 2 3 := (ofR_memN (by omega)).2 hms
    have hp := ofR_asc a 2 3
    rw [h2] at hmm hp
    rcases List.mem_append.1 hmm with h4 | h4
    · have := h3 _ h4
      rw [List.contains_iff_mem.2 hin] at this
      exact absurd this (by decide)
    · rcases List.mem_cons.1 h4 with h5 | h5
      · omega
      · have := (List.pairwise_cons.1 (List.pairwise_append.1 hp).2.1).1 _ h5
        omega
theorem leader_node {a : Rg} {here : List Int} (h : leaderR a here ≠ -1) : nodeE (leaderR a here) = true := by
  rcases leader_ways a here with ⟨h1, _⟩ | ⟨n, h1, h2, _⟩
  · exact absurd h1 h
  · rw [h1]; exact decide_eq_true (by omega)
theorem leader_sub {a : Rg} {here cut : List Int} (h : ∀ x ∈ cut, x ∈ here) : leaderR a cut = -1 ∨ (leaderR a here ≠ -1 ∧ leaderR a here ≤ leaderR a cut) := by
  rcases leader_ways a cut with ⟨h1, _⟩ | ⟨m, h1, h2, h3, h4, _⟩
  · exact .inl h1
  · right
    rcases leader_ways a here with ⟨k1, k2⟩ | ⟨n, k1, k2, k3, k4, k5⟩
    · exact absurd (h _ h4) (k2 m h2 h3)
    · rw [k1, h1]
      refine ⟨by omega, ?_⟩
      rcases Nat.lt_or_ge m n with hlt | hge
      · exact absurd (h _ h4) (k5 m hlt h3)
      · omega

/- Whose each part is, and is to be. -/
def ownersL (a : Rg) : List Int := (List.range 16).map fun p : Nat => ownerR a p
def targetsL (a : Rg) : List Int := (List.range 16).map fun p : Nat => targetR a p
def hasP (a : Rg) : Bool := targetR a 0 != -1
def nowL (a : Rg) : List Int := if hasP a = true then targetsL a else ownersL a
theorem ownersL_len (a : Rg) : (ownersL a).length = 16 := by simp [ownersL]
theorem targetsL_len (a : Rg) : (targetsL a).length = 16 := by simp [targetsL]
theorem nowL_len (a : Rg) : (nowL a).length = 16 := by
  unfold nowL
  split
  · exact targetsL_len a
  · exact ownersL_len a
theorem ownersL_at (a : Rg) {p : Nat} (h : p < 16) : (ownersL a)[p]? = some (ownerR a p) := by simp [ownersL, h]
theorem targetsL_at (a : Rg) {p : Nat} (h : p < 16) : (targetsL a)[p]? = some (targetR a p) := by simp [targetsL, h]
theorem ownersL_mem {a : Rg} {x : Int} : x ∈ ownersL a ↔ ∃ p : Nat, p < 16 ∧ ownerR a p = x := by
  unfold ownersL
  rw [List.mem_map]
  exact ⟨fun ⟨p, h, e⟩ => ⟨p, List.mem_range.1 h, e⟩, fun ⟨p, h, e⟩ => ⟨p, List.mem_range.2 h, e⟩⟩
theorem targetsL_mem {a : Rg} {x : Int} : x ∈ targetsL a ↔ ∃ p : Nat, p < 16 ∧ targetR a p = x := by
  unfold targetsL
  rw [List.mem_map]
  exact ⟨fun ⟨p, h, e⟩ => ⟨p, List.mem_range.1 h, e⟩, fun ⟨p, h, e⟩ => ⟨p, List.mem_range.2 h, e⟩⟩
theorem partB_nat {p : Nat} (h : p < 16) : partB (p : Int) = true := decide_eq_true (by omega)
theorem plan_full {a : Rg} (hm : mayP a.p = true) (h0 : a.p.2.2 ≠ []) : targetsL a = a.p.2.2 ∧ hasP a = true := by
  have hl := may_len hm h0
  have hat : ∀ p : Nat, p < 16 → some (targetR a p) = a.p.2.2[p]? := fun p hp => by
    unfold targetR
    rw [if_pos ⟨partB_nat hp, h0, hm⟩, Int.toNat_natCast, List.getD_eq_getElem?_getD, List.getElem?_eq_getElem (by omega)]
    rfl
  refine ⟨?_, ?_⟩
  · apply List.ext_getElem?
    intro p
    by_cases hp : p < 16
    · rw [targetsL_at a hp]; exact hat p hp
    · rw [List.getElem?_eq_none (by rw [targetsL_len]; omega), List.getElem?_eq_none (by omega)]
  · have h1 := hat 0 (by decide)
    have h2 := may_tgt hm h0
    unfold tgtL at h2
    have h3 := List.all_eq_true.1 (Bool.and_eq_true_iff.1 h2).2
    unfold hasP
    rw [bne_iff_ne]
    intro h4
    have h4' : targetR a ((0 : Nat) : Int) = -1 := h4
    rw [h4'] at h1
    have h5 := h3 (-1) (List.mem_of_getElem? h1.symm)
    exact absurd h5 (by decide)
theorem plan_none {a : Rg} (h : a.p.2.2 = [] ∨ mayP a.p = false) (p : Int) : targetR a p = -1 := by
  unfold targetR
  rw [if_neg]
  rintro ⟨_, h1, h2⟩
  rcases h with h | h
  · exact h1 h
  · rw [h] at h2; cases h2
theorem now_full {a : Rg} (hm : mayP a.p = true) (h0 : a.p.2.2 ≠ []) : nowL a = a.p.2.2 := by
  obtain ⟨h1, h2⟩ := plan_full hm h0
  unfold nowL
  rw [if_pos h2, h1]
theorem now_none {a : Rg} (h : a.p.2.2 = []) : nowL a = ownersL a := by
  unfold nowL hasP
  rw [plan_none (.inl h), if_neg (by decide)]
theorem owners_congr {a b : Rg} (h : a.e = b.e) : ownersL a = ownersL b := by
  unfold ownersL
  congr 1
  funext p
  unfold ownerR
  rw [h]
theorem targets_congr {a b : Rg} (h : a.p = b.p) : targetsL a = targetsL b := by
  unfold targetsL
  congr 1
  funext p
  unfold targetR
  rw [h]

/- The leader's work. -/
def memS (a : Rg) : Nat → Int := fun i => if 1 ≤ a.s i ∧ a.s i ≤ 2 then 2 else a.s i
def withR (a : Rg) (self : Int) : Rg × Int :=
  if ofR a 1 2 = [] then (a, 0)
  else if assignOf (nowL a) (ofR a 1 2) = a.p.2.2 then (⟨memS a, a.p, a.e⟩, 0)
  else if (nextP a.p self (assignOf (nowL a) (ofR a 1 2))).2 = 0 then (⟨memS a, (nextP a.p self (assignOf (nowL a) (ofR a 1 2))).1, a.e⟩, 0)
  else (noR, (nextP a.p self (assignOf (nowL a) (ofR a 1 2))).2)
def goneB (a : Rg) (i : Nat) : Bool := decide (3 ≤ a.s i ∧ a.s i ≤ 3) && (!(ownersL a).contains (i : Int) && !(targetsL a).contains (i : Int))
def goneR (a : Rg) : Rg := ⟨fun i => if goneB a i = true then 4 else a.s i, a.p, a.e⟩
def stageR (a : Rg) (self : Int) (here : List Int) : Rg × Int :=
  if mayR a = true ∧ nodeE self = true then
    if leaderR a here = self then
      if (withR a self).2 = 0 then
        if sameR (goneR (withR a self).1) a = true then (noR, 9) else (goneR (withR a self).1, 0)
      else (noR, (withR a self).2)
    else (noR, 10)
  else (noR, 1)
def settledR (a : Rg) : Bool := hasP a && (decide (ownersL a = targetsL a) && !(decide (ofR a 1 1 ≠ []) || decide (ofR a 3 3 ≠ [])))
theorem ofR_nil {a : Rg} {f t : Int} : ofR a f t = [] ↔ ∀ i, i < 8 → ¬ (f ≤ a.s i ∧ a.s i ≤ t) := by
  constructor
  · intro h i hi hs
    have := (ofR_memN hi).2 hs
    rw [h] at this
    cases this
  · intro h
    rw [List.eq_nil_iff_forall_not_mem]
    intro x hx
    obtain ⟨m, rfl, hm, h1⟩ := ofR_mem.1 hx
    exact h m hm h1
theorem assign_tgt {now M : List Int} (h : MemOk M) (hM : M ≠ []) : tgtL (assignOf now M) = true := by
  have ha := assigned (now := now) h hM
  unfold tgtL
  rw [Bool.and_eq_true, decide_eq_true_iff, List.all_eq_true]
  refine ⟨ha.len, fun x hx => ?_⟩
  obtain ⟨p, hp⟩ := List.getElem?_of_mem hx
  exact decide_eq_true (h.node x (ha.each p x hp))
theorem may_s {a : Rg} (h : mayR a = true) {i : Nat} (hi : i < 8) : 0 ≤ a.s i ∧ a.s i ≤ 4 := may_stat h hi
theorem may_p {a : Rg} (h : mayR a = true) : mayP a.p = true := by
  unfold mayR at h
  rw [Bool.and_eq_true, Bool.and_eq_true] at h
  exact h.2.2
theorem may_e {a : Rg} (h : mayR a = true) {i : Nat} (hi : i < 16) : mayE (a.e i) = true := by
  unfold mayR at h
  rw [Bool.and_eq_true, Bool.and_eq_true, all16] at h
  exact h.2.1 i hi
theorem may_of {a : Rg} (h1 : ∀ i, i < 8 → 0 ≤ a.s i ∧ a.s i ≤ 4) (h2 : mayP a.p = true) (h3 : ∀ i, i < 16 → mayE (a.e i) = true) : mayR a = true := by
  unfold mayR
  rw [Bool.and_eq_true, Bool.and_eq_true, all8, all16]
  exact ⟨fun j hj => decide_eq_true (h1 j hj), h3, h2⟩
/-- What the work comes to, if it goes. -/
structure Worked (a b : Rg) (me : Int) : Prop where
  e : b.e = a.e
  s : b.s = memS a ∨ (b.s = a.s ∧ ofR a 1 2 = [])
  p : (b.p = a.p ∧ (ofR a 1 2 = [] ∨ a.p.2.2 = assignOf (nowL a) (ofR a 1 2))) ∨ (b.p = (a.p.1 + 1, me, assignOf (nowL a) (ofR a 1 2)) ∧ ofR a 1 2 ≠ [] ∧ a.p.2.2 ≠ assignOf (nowL a) (ofR a 1 2))
  may : mayP b.p = true
theorem with_ways {a : Rg} {self : Int} (hm : mayR a = true) (hn : nodeE self = true) : ((withR a self).2 = 0 ∧ Worked a (withR a self).1 self) ∨ withR a self = (noR, 6) := by
  unfold withR
  by_cases h0 : ofR a 1 2 = []
  · rw [if_pos h0]
    exact .inl ⟨rfl, ⟨rfl, .inr ⟨rfl, h0⟩, .inl ⟨rfl, .inl h0⟩, (show mayP a.p = true from may_p hm)⟩⟩
  · rw [if_neg h0]
    by_cases h1 : assignOf (nowL a) (ofR a 1 2) = a.p.2.2
    · rw [if_pos h1]
      exact .inl ⟨rfl, ⟨rfl, .inl rfl, .inl ⟨rfl, .inr h1.symm⟩, (show mayP a.p = true from may_p hm)⟩⟩
    · rw [if_neg h1]
      have ht := assign_tgt (now := nowL a) (ofR_ok a 1 2) h0
      rcases nextP_cases a.p self (assignOf (nowL a) (ofR a 1 2)) with ⟨q, _⟩ | ⟨_, q, _⟩ | ⟨_, _, q, _⟩ | ⟨_, _, _, _, q⟩ | ⟨_, _, _, hv, q⟩
      · rw [may_p hm] at q; cases q
      · rw [hn] at q; cases q
      · rw [ht] at q; cases q
      · rw [q]
        exact .inr rfl
      · rw [q, if_pos rfl]
        exact .inl ⟨rfl, ⟨rfl, .inl rfl, .inr ⟨rfl, h0, fun h => h1 h.symm⟩, mayP_next (may_p hm) hn ht hv⟩⟩
/-- What Stage comes to, if it goes. -/
structure Staged (a b : Rg) (me : Int) (here : List Int) : Prop where
  mayA : mayR a = true
  node : nodeE me = true
  lead : leaderR a here = me
  ne : sameR b a = false
  from_ : ∃ c, Worked a c me ∧ b = goneR c
theorem stage_ways (a : Rg) (self : Int) (here : List Int) : ((stageR a self here).2 = 0 ∧ Staged a (stageR a self here).1 self here) ∨ (∃ e, stageR a self here = (noR, e) ∧ ((e = 1 ∧ (mayR a = false ∨ nodeE self = false)) ∨ (e = 10 ∧ leaderR a here ≠ self) ∨ (e = 6 ∧ mayR a = true) ∨ (e = 9 ∧ mayR a = true))) := by
  unfold stageR
  by_cases h0 : mayR a = true ∧ nodeE self = true
  · rw [if_pos h0]
    by_cases h1 : leaderR a here = self
    · rw [if_pos h1]
      rcases with_ways h0.1 h0.2 with ⟨h2, hw⟩ | h2
      · rw [if_pos h2]
        by_cases h3 : sameR (goneR (withR a self).1) a = true
        · rw [if_pos h3]
          exact .inr ⟨9, rfl, .inr (.inr (.inr ⟨rfl, h0.1⟩))⟩
        · rw [if_neg h3]
          exact .inl ⟨rfl, ⟨h0.1, h0.2, h1, by simpa using h3, _, hw, rfl⟩⟩
      · rw [h2, if_neg (by decide)]
        exact .inr ⟨6, rfl, .inr (.inr (.inl ⟨rfl, h0.1⟩))⟩
    · rw [if_neg h1]
      exact .inr ⟨10, rfl, .inr (.inl ⟨rfl, h1⟩)⟩
  · rw [if_neg h0]
    refine .inr ⟨1, rfl, .inl ⟨rfl, ?_⟩⟩
    cases h1 : mayR a
    · exact .inl rfl
    · right
      cases h2 : nodeE self
      · rfl
      · exact absurd ⟨h1, h2⟩ h0
theorem gone_s (b : Rg) (i : Nat) : ((goneR b).s i = b.s i ∧ ¬ goneB b i = true) ∨ ((goneR b).s i = 4 ∧ b.s i = 3 ∧ (i : Int) ∉ ownersL b ∧ (i : Int) ∉ targetsL b) := by
  by_cases h : goneB b i = true
  · right
    refine ⟨if_pos h, ?_⟩
    unfold goneB at h
    simp only [Bool.and_eq_true, decide_eq_true_eq, Bool.not_eq_true', ← Bool.not_eq_true, List.contains_iff_mem] at h
    exact ⟨by omega, h.2.1, h.2.2⟩
  · exact .inl ⟨if_neg h, h⟩
theorem mem_s (a : Rg) (i : Nat) : (memS a i = a.s i ∧ ¬ a.s i = 1) ∨ (memS a i = 2 ∧ a.s i = 1) := by
  unfold memS
  split
  · rename_i h
    by_cases h1 : a.s i = 1
    · exact .inr ⟨rfl, h1⟩
    · exact .inl ⟨by omega, h1⟩
  · rename_i h
    exact .inl ⟨rfl, by omega⟩
namespace Worked
variable {a b : Rg} {self : Int}
theorem st (h : Worked a b self) {i : Nat} (hi : i < 8) : (b.s i = a.s i ∧ ¬ a.s i = 1) ∨ (b.s i = 2 ∧ a.s i = 1) := by
  rcases h.s with e | ⟨e, h0⟩
  · rw [e]; exact mem_s a i
  · rw [e]
    refine .inl ⟨rfl, fun h1 => ofR_nil.1 h0 i hi (by omega)⟩
theorem members (h : Worked a b self) : ofR b 1 2 = ofR a 1 2 := ofR_congr fun i hi => by
  rcases h.st hi with ⟨e, _⟩ | ⟨e, e1⟩ <;> rw [e] <;> omega
theorem full (h : Worked a b self) (h0 : ofR a 1 2 ≠ []) : b.p.2.2 = assignOf (nowL a) (ofR a 1 2) ∧ b.p.2.2 ≠ [] := by
  have h1 : b.p.2.2 = assignOf (nowL a) (ofR a 1 2) := by
    rcases h.p with ⟨e, h1 | h1⟩ | ⟨e, _⟩
    · exact absurd h1 h0
    · rw [e, h1]
    · rw [e]
  refine ⟨h1, fun h2 => ?_⟩
  have := (assigned (now := nowL a) (ofR_ok a 1 2) h0).len
  rw [← h1, h2] at this
  simp at this
end Worked
namespace Staged
variable {a s : Rg} {self : Int} {here : List Int}
theorem e (h : Staged a s self here) : s.e = a.e := by
  obtain ⟨b, hb, rfl⟩ := h.from_
  exact hb.e
theorem st (h : Staged a s self here) {i : Nat} (hi : i < 8) : (s.s i = a.s i ∧ ¬ a.s i = 1) ∨ (s.s i = 2 ∧ a.s i = 1) ∨ (s.s i = 4 ∧ a.s i = 3 ∧ (i : Int) ∉ ownersL a ∧ (i : Int) ∉ targetsL s) := by
  obtain ⟨b, hb, rfl⟩ := h.from_
  rcases gone_s b i with ⟨e1, _⟩ | ⟨e1, e2, e3, e4⟩
  · rw [e1]
    rcases hb.st hi with h1 | h1
    · exact .inl h1
    · exact .inr (.inl h1)
  · refine .inr (.inr ⟨e1, ?_, by rwa [owners_congr hb.e] at e3, e4⟩)
    rcases hb.st hi with ⟨h1, _⟩ | ⟨h1, _⟩
    · omega
    · omega
theorem leave (h : Staged a s self here) {i : Nat} (_hi : i < 8) (h3 : s.s i = 3) : (i : Int) ∈ ownersL s ∨ (i : Int) ∈ targetsL s := by
  obtain ⟨b, hb, rfl⟩ := h.from_
  rcases gone_s b i with ⟨e1, e2⟩ | ⟨e1, _⟩
  · rw [e1] at h3
    unfold goneB at e2
    rw [decide_eq_true (show 3 ≤ b.s i ∧ b.s i ≤ 3 by omega), Bool.true_and, Bool.and_eq_true, Bool.not_eq_true', Bool.not_eq_true', ← Bool.not_eq_true, ← Bool.not_eq_true, List.contains_iff_mem, List.contains_iff_mem] at e2
    show (i : Int) ∈ ownersL b ∨ (i : Int) ∈ targetsL b
    by_cases h4 : (i : Int) ∈ ownersL b
    · exact .inl h4
    · right
      by_cases h5 : (i : Int) ∈ targetsL b
      · exact h5
      · exact absurd ⟨h4, h5⟩ e2
  · omega
theorem plan (h : Staged a s self here) : (s.p = a.p ∧ (ofR a 1 2 = [] ∨ a.p.2.2 = assignOf (nowL a) (ofR a 1 2))) ∨ (s.p = (a.p.1 + 1, self, assignOf (nowL a) (ofR a 1 2)) ∧ ofR a 1 2 ≠ [] ∧ a.p.2.2 ≠ assignOf (nowL a) (ofR a 1 2)) := by
  obtain ⟨b, hb, rfl⟩ := h.from_
  exact hb.p
theorem mayp (h : Staged a s self here) : mayP s.p = true := by
  obtain ⟨b, hb, rfl⟩ := h.from_
  exact hb.may
theorem members (h : Staged a s self here) : ofR s 1 2 = ofR a 1 2 := ofR_congr fun i hi => by
  rcases h.st hi with ⟨e, _⟩ | ⟨e, e1⟩ | ⟨e, e1, _⟩ <;> rw [e] <;> omega
theorem full (h : Staged a s self here) (h0 : ofR a 1 2 ≠ []) : s.p.2.2 = assignOf (nowL a) (ofR a 1 2) ∧ s.p.2.2 ≠ [] := by
  obtain ⟨b, hb, rfl⟩ := h.from_
  exact hb.full h0
theorem may (h : Staged a s self here) : mayR s = true := may_of (fun i hi => by
  have := may_s h.mayA hi
  rcases h.st hi with ⟨e, _⟩ | ⟨e, e1⟩ | ⟨e, e1, _⟩ <;> omega) h.mayp fun i hi => by rw [h.e]; exact may_e h.mayA hi
theorem le (h : Staged a s self here) : leR a s := by
  refine ⟨fun i hi => ?_, ?_, fun i _ => by rw [h.e, cmpE_cmp.self]; exact Int.le_refl 0⟩
  · rcases h.st hi with ⟨e, _⟩ | ⟨e, e1⟩ | ⟨e, e1, _⟩ <;> omega
  · rcases h.plan with ⟨e, _⟩ | ⟨e, _⟩
    · rw [e, cmpP_cmp.self]; exact Int.le_refl 0
    · have : cmpP s.p a.p = 1 := cmpP_v (by rw [e]; show a.p.1 < a.p.1 + 1; omega)
      have h2 := cmpP_cmp.neg a.p s.p
      omega
theorem below (h : Staged a s self here) : belowR a s = true := belowR_iff.2 h.le
theorem ne' (h : Staged a s self here) : sameR a s = false := by
  rw [← Bool.not_eq_true, sameR_iff]
  rintro ⟨h1, h2, h3⟩
  have h4 := h.ne
  rw [← Bool.not_eq_true, sameR_iff] at h4
  exact h4 ⟨fun i hi => (h1 i hi).symm, h2.symm, fun i hi => (h3 i hi).symm⟩
theorem now (h : Staged a s self here) (h0 : ofR a 1 2 ≠ []) : nowL s = assignOf (nowL a) (ofR a 1 2) := by
  rw [now_full h.mayp (h.full h0).2, (h.full h0).1]
theorem targets (h : Staged a s self here) (h0 : ofR a 1 2 ≠ []) : targetsL s = assignOf (nowL a) (ofR a 1 2) := by
  rw [(plan_full h.mayp (h.full h0).2).1, (h.full h0).1]
/-- The work done again changes nothing. -/
theorem idle (h : Staged a s self here) (n : Int) : (withR s n).2 = 0 ∧ eqR (goneR (withR s n).1) s := by
  have hw : (withR s n).2 = 0 ∧ (∀ i, i < 8 → (withR s n).1.s i = s.s i) ∧ (withR s n).1.p = s.p ∧ (withR s n).1.e = s.e := by
    unfold withR
    rw [h.members]
    by_cases h0 : ofR a 1 2 = []
    · rw [if_pos h0]
      exact ⟨rfl, fun _ _ => rfl, rfl, rfl⟩
    · rw [if_neg h0, h.now h0, assign_again (ofR_ok a 1 2) h0, (h.full h0).1, if_pos rfl]
      refine ⟨rfl, fun i hi => ?_, rfl, rfl⟩
      rcases mem_s s i with ⟨e, _⟩ | ⟨e, e1⟩
      · exact e
      · rcases h.st hi with ⟨k, k1⟩ | ⟨k, k1⟩ | ⟨k, k1, _⟩ <;> omega
  obtain ⟨w2, ws, wp, we⟩ := hw
  refine ⟨w2, fun i hi => ?_, wp, fun i _ => congrFun we i⟩
  rcases gone_s (withR s n).1 i with ⟨e1, _⟩ | ⟨e1, e2, e3, e4⟩
  · rw [e1]; exact ws i hi
  · rw [ws i hi] at e2
    rw [owners_congr we] at e3
    rw [targets_congr wp] at e4
    rcases h.leave hi e2 with h1 | h1
    · exact absurd h1 e3
    · exact absurd h1 e4
/-- Staged again. -/
theorem again (h : Staged a s self here) (n : Int) (there : List Int) : stageR s n there = (noR, if nodeE n = true then (if leaderR s there = n then 9 else 10) else 1) := by
  unfold stageR
  obtain ⟨h1, h2⟩ := h.idle n
  by_cases hn : nodeE n = true
  · rw [if_pos ⟨h.may, hn⟩, if_pos hn]
    by_cases hl : leaderR s there = n
    · rw [if_pos hl, if_pos hl, if_pos h1, if_pos (sameR_iff.2 h2)]
    · rw [if_neg hl, if_neg hl]
  · rw [if_neg (fun h3 => hn h3.2), if_neg hn]
theorem target (h : Staged a s self here) (h0 : ofR a 1 2 ≠ []) {p : Nat} (hp : p < 16) : ∃ t : Nat, targetR s p = (t : Int) ∧ t < 8 ∧ s.s t = 2 := by
  have h1 := targetsL_at s hp
  rw [h.targets h0] at h1
  have h2 := (assigned (now := nowL a) (ofR_ok a 1 2) h0).each p _ h1
  obtain ⟨m, e, hm, h3, h4⟩ := ofR_mem.1 h2
  refine ⟨m, e, hm, ?_⟩
  rcases h.st hm with ⟨k, k1⟩ | ⟨k, k1⟩ | ⟨k, k1, _⟩ <;> omega
theorem even (h : Staged a s self here) (h0 : ofR a 1 2 ≠ []) : assignOf (targetsL s) (ofR a 1 2) = targetsL s := by
  rw [h.targets h0]
  exact assign_again (ofR_ok a 1 2) h0
theorem joined (h : Staged a s self here) : ofR s 1 1 = [] := ofR_nil.2 fun i hi => by
  rcases h.st hi with ⟨k, k1⟩ | ⟨k, k1⟩ | ⟨k, k1, _⟩ <;> omega
theorem len (h : Staged a s self here) {n : Nat} (ha : a.p.2.2.length ≤ n) (hn : 16 ≤ n) : s.p.2.2.length ≤ n := by
  rcases h.plan with ⟨e, _⟩ | ⟨e, h0, _⟩
  · rw [e]; exact ha
  · rw [e]
    show (assignOf (nowL a) (ofR a 1 2)).length ≤ n
    rw [(assigned (now := nowL a) (ofR_ok a 1 2) h0).len]
    exact hn
end Staged
end Go.Proofs.Ytdfmfcbeebfdhaa
