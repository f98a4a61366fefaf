/- Lead: what the laws' rings are; mathematics. -/
import Derived.Test.YtdfmfcbeebfdhaaLdS
namespace Go.Proofs.Ytdfmfcbeebfdhaa
open Go

/- awake -/
def twoR : Rg := ⟨upd (oneR 0).s 1 1, (0, 0, []), (oneR 0).e⟩
set_option maxRecDepth 100000 in
theorem awake_stage : ∃ s, stageR twoR 0 [0] = (s, 0) ∧ (s.p.1 == 1) = true ∧ (s.s 1 == 2) = true ∧ targetR s 8 = 1 ∧ stageR s 0 [0] = (noR, 9) ∧ s.p.2.2.length ≤ 1000 := by
  refine ⟨(stageR twoR 0 [0]).1, Prod.ext rfl (by decide +kernel), by decide +kernel, by decide +kernel, by decide +kernel, ?_, by decide +kernel⟩
  rcases stage_ways twoR 0 [0] with ⟨_, h⟩ | ⟨e, h, _⟩
  · rw [h.again 0 [0], show leaderR (stageR twoR 0 [0]).1 [0] = 0 from by decide +kernel]
    rfl
  · have : (stageR twoR 0 [0]).2 = 0 := by decide +kernel
    have h2 : (stageR twoR 0 [0]).1.s 1 = 2 := by decide +kernel
    rw [h] at h2
    exact absurd h2 (by show (0 : Int) ≠ 2; decide)

/- LeadOne -/
theorem one_ways (a : Rg) (h : List Int) (k : Nat) : (leaderR a h = -1 ∧ leaderR a (h.take k) = -1) ∨ (∃ n : Nat, leaderR a h = (n : Int) ∧ n < 8 ∧ h.contains (n : Int) = true ∧ (∀ m : Nat, m < n → 2 ≤ a.s m ∧ a.s m ≤ 3 → (m : Int) ∉ h) ∧ (leaderR a (h.take k) = -1 ∨ (n : Int) ≤ leaderR a (h.take k))) := by
  have h1 := leader_sub (a := a) (here := h) (cut := h.take k) fun x hx => List.mem_of_mem_take hx
  rcases leader_ways a h with ⟨e, _⟩ | ⟨n, e, h2, _, h4, h5⟩
  · refine .inl ⟨e, ?_⟩
    rcases h1 with h1 | ⟨h1, _⟩
    · exact h1
    · exact absurd e h1
  · refine .inr ⟨n, e, h2, List.contains_iff_mem.2 h4, h5, ?_⟩
    rw [e] at h1
    exact h1.imp id fun h => h.2

/- LeadTwo -/
theorem two_e {a x y : Rg} (hx : x.e = a.e) (hy : y.e = a.e) : tab16 (joinR x y).e = tab16 a.e := tab16_eq.2 fun j _ => by
  show joinE (x.e j) (y.e j) = a.e j
  rw [hx, hy, joinE_self]

/- LeadGoes -/
theorem asc_one {m : Nat} (h : m < 8) : Asc [(m : Int)] := by
  rcases (show m = 0 ∨ m = 1 ∨ m = 2 ∨ m = 3 ∨ m = 4 ∨ m = 5 ∨ m = 6 ∨ m = 7 from by omega) with rfl | rfl | rfl | rfl | rfl | rfl | rfl | rfl <;> rfl
theorem assign_one {now : List Int} {m : Nat} (h : m < 8) : assignOf now [(m : Int)] = List.replicate 16 (m : Int) := by
  have ha := assigned (now := now) (asc_ok (asc_one h)) (by simp)
  refine List.eq_replicate_iff.2 ⟨ha.len, fun x hx => ?_⟩
  obtain ⟨p, hp⟩ := List.getElem?_of_mem hx
  simpa using ha.each p x hp
structure GoesR (n m : Nat) (s : Rg) : Prop where
  n8 : n < 8
  m8 : m < 8
  ne : n ≠ m
  sn : s.s n = 3
  sm : s.s m = 2
  so : ∀ i, i < 8 → i ≠ n → i ≠ m → s.s i = 0
  e : ∀ p, p < 16 → s.e p = (1, (n : Int)) ∨ s.e p = (2, (m : Int))
namespace GoesR
variable {n m : Nat} {s : Rg}
theorem members (h : GoesR n m s) : ofR s 1 2 = [(m : Int)] := by
  refine asc_ext (ofR_Asc _ _ _) (asc_one h.m8) fun x => ?_
  rw [ofR_mem, List.mem_singleton]
  constructor
  · rintro ⟨i, rfl, hi, h1, h2⟩
    by_cases e1 : i = n
    · rw [e1, h.sn] at h2; omega
    · by_cases e2 : i = m
      · rw [e2]
      · rw [h.so i hi e1 e2] at h1; omega
  · rintro rfl
    exact ⟨m, rfl, h.m8, by rw [h.sm]; decide, by rw [h.sm]; decide⟩
theorem leavers (h : GoesR n m s) : ofR s 3 3 = [(n : Int)] := by
  refine asc_ext (ofR_Asc _ _ _) (asc_one h.n8) fun x => ?_
  rw [ofR_mem, List.mem_singleton]
  constructor
  · rintro ⟨i, rfl, hi, h1, h2⟩
    by_cases e1 : i = n
    · rw [e1]
    · by_cases e2 : i = m
      · rw [e2, h.sm] at h1; omega
      · rw [h.so i hi e1 e2] at h1; omega
  · rintro rfl
    exact ⟨n, rfl, h.n8, by rw [h.sn]; decide, by rw [h.sn]; decide⟩
theorem leader (h : GoesR n m s) : leaderR s [(n : Int), (m : Int)] = ((min n m : Nat) : Int) := by
  have hn := h.sn
  have hm := h.sm
  rcases leader_ways s [(n : Int), (m : Int)] with ⟨_, h2⟩ | ⟨k, h1, h2, h3, h4, h5⟩
  · exact absurd (List.mem_cons_self) (h2 n h.n8 (by omega))
  · rw [h1]
    simp only [List.mem_cons, List.not_mem_nil, or_false] at h4
    have a1 : ¬ n < k := fun hlt => h5 n hlt (by omega) List.mem_cons_self
    have a2 : ¬ m < k := fun hlt => h5 m hlt (by omega) (List.mem_cons_of_mem _ List.mem_cons_self)
    omega
theorem owner (h : GoesR n m s) {p : Nat} (hp : p < 16) : ownerR s p = (s.e p).2 := by
  have hn := h.n8
  have hm := h.m8
  unfold ownerR
  rw [Int.toNat_natCast, if_pos]
  refine ⟨partB_nat hp, ?_, ?_⟩
  · rcases h.e p hp with e | e <;> rw [e] <;> simp
  · rcases h.e p hp with e | e <;> rw [e] <;> exact decide_eq_true (.inr (by omega))
theorem ownN (h : GoesR n m s) : (n : Int) ∈ ownersL s ↔ ∃ p, p < 16 ∧ s.e p = (1, (n : Int)) := by
  have hne := h.ne
  rw [ownersL_mem]
  constructor
  · rintro ⟨p, hp, h1⟩
    refine ⟨p, hp, ?_⟩
    rw [h.owner hp] at h1
    rcases h.e p hp with e | e
    · exact e
    · rw [e] at h1; dsimp only at h1; omega
  · rintro ⟨p, hp, h1⟩
    exact ⟨p, hp, by rw [h.owner hp, h1]⟩
theorem st (h : GoesR n m s) {i : Nat} (hi : i < 8) : memS s i = s.s i := by
  rcases mem_s s i with ⟨e, _⟩ | ⟨_, e⟩
  · exact e
  · by_cases e1 : i = n
    · rw [e1, h.sn] at e; omega
    · by_cases e2 : i = m
      · rw [e2, h.sm] at e; omega
      · rw [h.so i hi e1 e2] at e; omega
theorem may (h : GoesR n m s) (hp : mayP s.p = true) : mayR s = true := by
  have hn := h.n8
  have hm := h.m8
  refine may_of (fun i hi => ?_) hp fun p hpp => ?_
  · by_cases e1 : i = n
    · rw [e1, h.sn]; decide
    · by_cases e2 : i = m
      · rw [e2, h.sm]; decide
      · rw [h.so i hi e1 e2]; decide
  · rcases h.e p hpp with e | e <;> rw [e] <;> exact decide_eq_true (.inr (by omega))
end GoesR
def goR (n m : Nat) : Rg := ⟨upd (upd (oneR n).s m 2) n 3, (0, 0, []), (oneR n).e⟩
theorem go_goes {n m : Nat} (hn : n < 8) (hm : m < 8) (hne : n ≠ m) : GoesR n m (goR n m) where
  n8 := hn
  m8 := hm
  ne := hne
  sn := if_pos rfl
  sm := (if_neg (fun h => hne h.symm)).trans (if_pos rfl)
  so _i _ h1 h2 := (if_neg h1).trans ((if_neg h2).trans (if_neg h1))
  e _ _ := .inl rfl
theorem go_rises {n m : Nat} (hn : n < 8) (hm : m < 8) (hne : n ≠ m) : riseR (oneR n) (m : Int) 2 = (⟨upd (oneR n).s m 2, (0, 0, []), (oneR n).e⟩, 0) ∧ riseR ⟨upd (oneR n).s m 2, (0, 0, []), (oneR n).e⟩ (n : Int) 3 = (goR n m, 0) := by
  have h1 : riseR (oneR n) (m : Int) 2 = (⟨upd (oneR n).s m 2, (0, 0, []), (oneR n).e⟩, 0) := by
    rw [riseR_yes (mayR_one hn) (node_nat hm) (by decide), Int.toNat_natCast]
    · rfl
    · rw [Int.toNat_natCast]
      show ¬ (2 : Int) ≤ if m = n then 2 else 0
      rw [if_neg (fun h => hne h.symm)]
      decide
  refine ⟨h1, ?_⟩
  rw [riseR_yes (r := ⟨upd (oneR n).s m 2, (0, 0, []), (oneR n).e⟩) (show mayR ⟨upd (oneR n).s m 2, (oneR n).p, (oneR n).e⟩ = true from mayR_rise (mayR_one hn) (by decide)) (node_nat hn) (by decide), Int.toNat_natCast]
  · rfl
  · rw [Int.toNat_natCast]
    show ¬ (3 : Int) ≤ if n = m then 2 else if n = n then 2 else 0
    rw [if_neg hne, if_pos rfl]
    decide
/-- What Stage makes of it, and flips behind it. -/
structure GoesS (n m : Nat) (s : Rg) : Prop extends GoesR n m s where
  p : s.p = (1, ((min n m : Nat) : Int), List.replicate 16 (m : Int))
theorem rep_tgt {m : Nat} (hm : m < 8) : tgtL (List.replicate 16 (m : Int)) = true := by
  unfold tgtL
  rw [Bool.and_eq_true, List.all_eq_true]
  refine ⟨by simp, fun x hx => ?_⟩
  rw [(List.mem_replicate.1 hx).2]
  exact node_nat hm
theorem goes_stage {n m : Nat} (hn : n < 8) (hm : m < 8) (hne : n ≠ m) : ∃ s, stageR (goR n m) ((min n m : Nat) : Int) [(n : Int), (m : Int)] = (s, 0) ∧ GoesS n m s ∧ ∀ p, p < 16 → s.e p = (1, (n : Int)) := by
  have hg := go_goes hn hm hne
  have hk : min n m < 8 := by omega
  have hmay := hg.may (show mayP (0, 0, []) = true by decide)
  have hnow : nowL (goR n m) = ownersL (goR n m) := now_none rfl
  have hnx : nextP ((goR n m).p.1, (goR n m).p.2.1, (goR n m).p.2.2) ((min n m : Nat) : Int) (List.replicate 16 (m : Int)) = ((1, ((min n m : Nat) : Int), List.replicate 16 (m : Int)), 0) := by
    show nextP (0, 0, []) _ _ = _
    unfold nextP
    rw [if_pos ⟨by decide, node_nat hk, rep_tgt hm⟩, if_neg (by decide)]
    rfl
  have hw := with_next (a := goR n m) (n := ((min n m : Nat) : Int)) hg.members (assign_one hm) (by simp) (by simp [goR]) hnx
  rw [if_pos rfl] at hw
  have hst := stage_to (a := goR n m) hmay (node_nat hk) hg.leader hw
  rw [if_pos rfl] at hst
  have hgone : ∀ i, i < 8 → (goneR ⟨memS (goR n m), (1, ((min n m : Nat) : Int), List.replicate 16 (m : Int)), (goR n m).e⟩).s i = (goR n m).s i := fun i hi => by
    rcases gone_s ⟨memS (goR n m), (1, ((min n m : Nat) : Int), List.replicate 16 (m : Int)), (goR n m).e⟩ i with ⟨e, _⟩ | ⟨_, e2, e3, _⟩
    · rw [e]; exact hg.st hi
    · have e2' : (goR n m).s i = 3 := (hg.st hi).symm.trans e2
      have hin : i = n := by
        by_cases e1 : i = n
        · exact e1
        · by_cases e4 : i = m
          · rw [e4, hg.sm] at e2'; omega
          · rw [hg.so i hi e1 e4] at e2'; omega
      subst hin
      exact absurd ((owners_congr (a := ⟨memS (goR i m), (1, ((min i m : Nat) : Int), List.replicate 16 (m : Int)), (goR i m).e⟩) (b := goR i m) rfl) ▸ hg.ownN.2 ⟨0, by decide, rfl⟩) e3
  have hsame : ¬ sameR (goneR ⟨memS (goR n m), (1, ((min n m : Nat) : Int), List.replicate 16 (m : Int)), (goR n m).e⟩) (goR n m) = true := fun h => by
    have h2 := (sameR_iff.1 h).2.1
    exact absurd (congrArg Prod.fst h2) (by show (1 : Int) ≠ 0; decide)
  rw [if_neg hsame] at hst
  refine ⟨_, hst, ⟨⟨hn, hm, hne, ?_, ?_, fun i hi h1 h2 => ?_, fun p hp => .inl rfl⟩, rfl⟩, fun p _ => rfl⟩
  · rw [hgone n hn]; exact hg.sn
  · rw [hgone m hm]; exact hg.sm
  · rw [hgone i hi]; exact hg.so i hi h1 h2
theorem goes_else {n m : Nat} (hn : n < 8) (hm : m < 8) (hne : n ≠ m) (h : m < n) : stageR (goR n m) (n : Int) [(n : Int), (m : Int)] = (noR, 10) := by
  have hg := go_goes hn hm hne
  refine stage_else (hg.may (show mayP (0, 0, []) = true by decide)) (node_nat hn) ?_
  rw [hg.leader]
  omega
namespace GoesS
variable {n m : Nat} {s : Rg}
theorem mayp (h : GoesS n m s) : mayP s.p = true := by
  have hn := h.n8
  have hm := h.m8
  rw [h.p]
  unfold mayP
  dsimp only
  rw [rep_tgt h.m8, node_nat (show min n m < 8 by omega)]
  rfl
theorem tne (h : GoesS n m s) : s.p.2.2 ≠ [] := by rw [h.p]; simp
theorem tgts (h : GoesS n m s) : targetsL s = List.replicate 16 (m : Int) := by rw [(plan_full h.mayp h.tne).1, h.p]
theorem target (h : GoesS n m s) {p : Nat} (hp : p < 16) : targetR s p = (m : Int) := by
  have h1 := targetsL_at s hp
  rw [h.tgts, List.getElem?_replicate, if_pos hp] at h1
  exact (Option.some.inj h1).symm
theorem mov (h : GoesS n m s) : movR s n = ((List.range 16).filter fun p => decide (s.e p = (1, (n : Int)))).map fun p : Nat => (p : Int) := by
  have hne := h.ne
  unfold movR
  congr 1
  refine List.filter_congr fun p hp => ?_
  have hp := List.mem_range.1 hp
  rw [Bool.eq_iff_iff, decide_eq_true_iff, decide_eq_true_iff, h.target hp, h.owner hp]
  constructor
  · rintro ⟨_, h1, _⟩
    rcases h.e p hp with e | e
    · exact e
    · rw [e] at h1; dsimp only at h1; omega
  · intro e
    rw [e]
    exact ⟨node_nat h.n8, rfl, by omega, by omega⟩
theorem mov_all (h : GoesS n m s) (ha : ∀ p, p < 16 → s.e p = (1, (n : Int))) : (movR s n).length = 16 := by
  rw [h.mov, List.length_map, List.filter_eq_self.2, List.length_range]
  intro p hp
  exact decide_eq_true (ha p (List.mem_range.1 hp))
theorem mov_nil (h : GoesS n m s) : (movR s n).length = 0 ↔ ∀ p, p < 16 → s.e p = (2, (m : Int)) := by
  have hne := h.ne
  rw [h.mov, List.length_map, List.length_eq_zero_iff, List.filter_eq_nil_iff]
  constructor
  · intro h1 p hp
    rcases h.e p hp with e | e
    · exact absurd (decide_eq_true e) (h1 p (List.mem_range.2 hp))
    · exact e
  · intro h1 p hp h2
    have h3 := of_decide_eq_true h2
    rw [h1 p (List.mem_range.1 hp)] at h3
    exact absurd (congrArg Prod.fst h3) (by show (2 : Int) ≠ 1; decide)
theorem not_settled (h : GoesS n m s) : settledR s = false := by
  unfold settledR
  rw [h.leavers, decide_eq_true (show [(n : Int)] ≠ [] by simp), Bool.or_true, Bool.not_true, Bool.and_false, Bool.and_false]
theorem set (h : GoesS n m s) {q : Nat} : GoesS n m ⟨s.s, s.p, upd s.e q (2, (m : Int))⟩ where
  n8 := h.n8
  m8 := h.m8
  ne := h.ne
  sn := h.sn
  sm := h.sm
  so := h.so
  p := h.p
  e p hp := by
    show (if p = q then (2, (m : Int)) else s.e p) = _ ∨ (if p = q then (2, (m : Int)) else s.e p) = _
    split
    · exact .inr rfl
    · exact h.e p hp
theorem stage (h : GoesS n m s) : stageR s ((min n m : Nat) : Int) [(n : Int), (m : Int)] = if sameR (goneR ⟨memS s, s.p, s.e⟩) s = true then (noR, 9) else (goneR ⟨memS s, s.p, s.e⟩, 0) := by
  have hn := h.n8
  have hm := h.m8
  have hk : min n m < 8 := by omega
  have hw := with_eq (a := s) (n := ((min n m : Nat) : Int)) h.members (assign_one h.m8) (by simp) (by rw [h.p])
  have hst := stage_to (a := s) (h.may h.mayp) (node_nat hk) h.leader hw
  rwa [if_pos rfl] at hst
theorem stays (h : GoesS n m s) (hl : (movR s n).length ≠ 0) : stageR s ((min n m : Nat) : Int) [(n : Int), (m : Int)] = (noR, 9) := by
  rw [h.stage, if_pos]
  rw [sameR_iff]
  refine ⟨fun i hi => ?_, rfl, fun _ _ => rfl⟩
  rcases gone_s ⟨memS s, s.p, s.e⟩ i with ⟨e, _⟩ | ⟨_, e2, e3, _⟩
  · rw [e]; exact h.st hi
  · exfalso
    have e2' : s.s i = 3 := (h.st hi).symm.trans e2
    have hin : i = n := by
      by_cases e1 : i = n
      · exact e1
      · by_cases e4 : i = m
        · rw [e4, h.sm] at e2'; omega
        · rw [h.so i hi e1 e4] at e2'; omega
    subst hin
    rw [owners_congr (a := ⟨memS s, s.p, s.e⟩) (b := s) rfl, h.ownN] at e3
    apply hl
    rw [h.mov_nil]
    intro p hp
    rcases h.e p hp with e | e
    · exact absurd ⟨p, hp, e⟩ e3
    · exact e
theorem goes (h : GoesS n m s) (hl : (movR s n).length = 0) : ∃ t, stageR s ((min n m : Nat) : Int) [(n : Int), (m : Int)] = (t, 0) ∧ t.s n = 4 ∧ settledR t = true ∧ t.p = s.p := by
  have hne := h.ne
  have he := h.mov_nil.1 hl
  have hgn : goneB ⟨memS s, s.p, s.e⟩ n = true := by
    have h1 : (⟨memS s, s.p, s.e⟩ : Rg).s n = 3 := (h.st h.n8).trans h.sn
    rw [gone_at (by rw [h1]; decide), owners_congr (a := ⟨memS s, s.p, s.e⟩) (b := s) rfl, targets_congr (a := ⟨memS s, s.p, s.e⟩) (b := s) rfl, h.tgts]
    have h2 : (ownersL s).contains (n : Int) = false := by
      rw [← Bool.not_eq_true, List.contains_iff_mem, h.ownN]
      rintro ⟨p, hp, e⟩
      rw [he p hp] at e
      exact absurd (congrArg Prod.fst e) (by show (2 : Int) ≠ 1; decide)
    have h3 : (List.replicate 16 (m : Int)).contains (n : Int) = false := by
      rw [← Bool.not_eq_true, List.contains_iff_mem]
      intro h4
      have := (List.mem_replicate.1 h4).2
      omega
    rw [h2, h3]
    rfl
  have htn : (goneR ⟨memS s, s.p, s.e⟩).s n = 4 := if_pos hgn
  refine ⟨goneR ⟨memS s, s.p, s.e⟩, ?_, htn, ?_, rfl⟩
  · rw [h.stage, if_neg]
    intro h1
    have h2 := (sameR_iff.1 h1).1 n h.n8
    rw [htn, h.sn] at h2
    omega
  · have hs : ∀ i, i < 8 → (goneR ⟨memS s, s.p, s.e⟩).s i = 0 ∨ (goneR ⟨memS s, s.p, s.e⟩).s i = 2 ∨ (goneR ⟨memS s, s.p, s.e⟩).s i = 4 := fun i hi => by
      by_cases e1 : i = n
      · rw [e1, htn]; exact .inr (.inr rfl)
      · rcases gone_s ⟨memS s, s.p, s.e⟩ i with ⟨e, _⟩ | ⟨e, _⟩
        · rw [e]
          show memS s i = 0 ∨ memS s i = 2 ∨ memS s i = 4
          rw [h.st hi]
          by_cases e4 : i = m
          · rw [e4, h.sm]; exact .inr (.inl rfl)
          · rw [h.so i hi e1 e4]; exact .inl rfl
        · exact .inr (.inr e)
    have h1 : ofR (goneR ⟨memS s, s.p, s.e⟩) 1 1 = [] := ofR_nil.2 fun i hi => by
      have := hs i hi
      omega
    have h3 : ofR (goneR ⟨memS s, s.p, s.e⟩) 3 3 = [] := ofR_nil.2 fun i hi => by
      have := hs i hi
      omega
    have hpl := plan_full (a := goneR ⟨memS s, s.p, s.e⟩) h.mayp h.tne
    have hto : ownersL (goneR ⟨memS s, s.p, s.e⟩) = targetsL (goneR ⟨memS s, s.p, s.e⟩) := by
      rw [owners_congr (a := goneR ⟨memS s, s.p, s.e⟩) (b := s) rfl, targets_congr (a := goneR ⟨memS s, s.p, s.e⟩) (b := s) rfl, h.tgts]
      refine List.eq_replicate_iff.2 ⟨ownersL_len s, fun x hx => ?_⟩
      obtain ⟨p, hp, rfl⟩ := ownersL_mem.1 hx
      rw [h.owner hp, he p hp]
    unfold settledR
    rw [hpl.2, decide_eq_true hto, h1, h3]
    rfl
end GoesS

/- LeadRow -/
theorem come_moves {now R M A B : List Int} {n : Int} (h : OneMore R M n) (ha : Assigned now R A) (hb : Assigned A M B) {p : Nat} (hp : p < 16) : atL A p ≠ atL B p ↔ atL B p = n := by
  have eA := ha.each p _ (atL_some (by rw [ha.len]; exact hp))
  have eB := hb.each p _ (atL_some (by rw [hb.len]; exact hp))
  constructor
  · intro hne
    rcases (h.mem _).1 eB with hr | e
    · exact absurd (gets_none hb eB (come_less h ha hr) hp rfl) hne
    · exact e
  · intro e1 e2
    rw [e1] at e2
    exact h.new (e2 ▸ eA)
theorem come_quota {now R M A : List Int} {n : Int} (h : OneMore R M n) (ha : Assigned now R A) : quotaOf A M n = ((16 / M.length : Nat) : Int) := by
  have hk : 0 < R.length := List.length_pos_iff.2 h.ne
  have hz : hasK A n 16 = 0 := by
    rw [count_map ha.len, List.count_eq_zero]
    intro hm
    obtain ⟨p, hp⟩ := List.getElem?_of_mem hm
    exact h.new (ha.each p _ hp)
  have hbig : 16 % M.length ≤ (M.filter (bigB A (16 / M.length))).length := by
    rcases shares hk with hs | ⟨hs, he⟩
    · rw [← h.len] at hs
      have h1 : R.length ≤ (M.filter (bigB A (16 / M.length))).length := nodup_len h.okR.nodup fun x hx => List.mem_filter.2 ⟨(h.mem x).2 (.inl hx), decide_eq_true (by
        rw [count_map ha.len]
        have h2 := ha.cnt x hx
        have h3 := (quota_range now R x).1
        omega)⟩
      have h4 : 16 % M.length < M.length := Nat.mod_lt _ (by rw [h.len]; omega)
      have := h.len
      omega
    · rw [← h.len] at hs he
      refine Nat.le_trans he ?_
      rw [← lucky_len (now := now) h.ne]
      refine nodup_len (lucky_nodup h.okR.nodup) fun x hx => ?_
      have hxR := lucky_mem hx
      refine List.mem_filter.2 ⟨(h.mem x).2 (.inl hxR), decide_eq_true ?_⟩
      rw [count_map ha.len]
      have := ha.cnt x hxR
      rcases quota_lucky (now := now) (M := R) (n := x) with ⟨_, e⟩ | ⟨e, _⟩
      · omega
      · exact absurd hx e
  rcases quota_lucky (now := A) (M := M) (n := n) with ⟨hl, _⟩ | ⟨_, e⟩
  · have h1 := lucky_big hbig hl
    rw [hz] at h1
    exact absurd h1 (Nat.not_lt_zero _)
  · exact e
theorem come_count {now R M A B : List Int} {n : Int} (h : OneMore R M n) (ha : Assigned now R A) (hb : Assigned A M B) : movesOf B A = 16 / M.length := by
  have h1 : movesOf B A = hasK B n 16 := by
    unfold movesOf hasK
    refine List.countP_congr fun p hp => ?_
    have hp := List.mem_range.1 hp
    rw [bne_iff_ne, beq_iff_eq, ← come_moves h ha hb hp]
    exact ⟨fun h => fun e => h e.symm, fun h => fun e => h e.symm⟩
  have h2 := hb.cnt n ((h.mem n).2 (.inr rfl))
  rw [come_quota h ha] at h2
  rw [h1, count_map hb.len]
  omega
/-- A ring whose nodes came one by one. -/
structure RowR (r : Rg) (v : Nat) (T : List Int) : Prop where
  s : ∀ i, i < 8 → r.s i = 0 ∨ r.s i = 2
  s0 : r.s 0 = 2
  p : r.p = ((v : Int), 0, T)
  e : ∀ p, p < 16 → r.e p = (1, 0)
  v : v = (ofR r 1 2).length
  asg : ∃ now, Assigned now (ofR r 1 2) T
namespace RowR
variable {r : Rg} {v : Nat} {T : List Int}
theorem v8 (h : RowR r v T) : v ≤ 8 := by rw [h.v]; exact ofR_le _ _ _
theorem mem0 (h : RowR r v T) : (0 : Int) ∈ ofR r 1 2 := (ofR_memN (m := 0) (by decide)).2 (by rw [h.s0]; decide)
theorem ne (h : RowR r v T) : ofR r 1 2 ≠ [] := fun e => by
  have := h.mem0
  rw [e] at this
  cases this
theorem v1 (h : RowR r v T) : 1 ≤ v := by
  have := h.v
  have h1 := List.length_pos_iff.2 h.ne
  omega
theorem len (h : RowR r v T) : T.length = 16 := h.asg.elim fun _ h => h.len
theorem tgt (h : RowR r v T) : tgtL T = true := by
  obtain ⟨now, ha⟩ := h.asg
  unfold tgtL
  rw [Bool.and_eq_true, decide_eq_true_iff, List.all_eq_true]
  refine ⟨ha.len, fun x hx => ?_⟩
  obtain ⟨p, hp⟩ := List.getElem?_of_mem hx
  exact decide_eq_true ((ofR_ok r 1 2).node x (ha.each p x hp))
theorem mayp (h : RowR r v T) : mayP r.p = true := by
  have h1 := h.v8
  have h2 := h.v1
  rw [h.p]
  unfold mayP
  dsimp only
  rw [h.tgt, decide_eq_true (show (1 : Int) ≤ (v : Int) ∧ (v : Int) ≤ 1000000 by omega)]
  simp [nodeE]
theorem may (h : RowR r v T) : mayR r = true := may_of (fun i hi => by
  have := h.s i hi
  omega) h.mayp fun p hp => by
  rw [h.e p hp]
  decide
end RowR
theorem row_first : ∃ r, stageR (oneR 0) 0 [0] = (r, 0) ∧ RowR r 1 (List.replicate 16 0) := by
  have hM : ofR (oneR 0) 1 2 = [((0 : Nat) : Int)] := by decide +kernel
  have hnx : nextP ((oneR 0).p.1, (oneR 0).p.2.1, (oneR 0).p.2.2) 0 (List.replicate 16 ((0 : Nat) : Int)) = ((1, 0, List.replicate 16 ((0 : Nat) : Int)), 0) := by decide +kernel
  have hw := with_next (a := oneR 0) (n := 0) hM (assign_one (by decide)) (by simp) (by simp [oneR]) hnx
  rw [if_pos rfl] at hw
  have hst := stage_to (a := oneR 0) (here := [0]) (mayR_one (by decide)) (by decide) (by decide +kernel) hw
  rw [if_pos rfl] at hst
  have hne : ¬ sameR (goneR ⟨memS (oneR 0), (1, 0, List.replicate 16 ((0 : Nat) : Int)), (oneR 0).e⟩) (oneR 0) = true := fun h => absurd (congrArg Prod.fst (sameR_iff.1 h).2.1) (by show (1 : Int) ≠ 0; decide)
  rw [if_neg hne] at hst
  have hs : ∀ i, i < 8 → (goneR ⟨memS (oneR 0), (1, 0, List.replicate 16 ((0 : Nat) : Int)), (oneR 0).e⟩).s i = (oneR 0).s i := by decide +kernel
  have hm : ofR (goneR ⟨memS (oneR 0), (1, 0, List.replicate 16 ((0 : Nat) : Int)), (oneR 0).e⟩) 1 2 = [((0 : Nat) : Int)] := by
    rw [← hM]
    exact ofR_congr fun i hi => by rw [hs i hi]
  refine ⟨_, hst, ⟨fun i hi => ?_, by rw [hs 0 (by decide)]; rfl, rfl, fun _ _ => rfl, by rw [hm]; rfl, ⟨[], ?_⟩⟩⟩
  · rw [hs i hi]
    show (if i = 0 then (2 : Int) else 0) = 0 ∨ (if i = 0 then (2 : Int) else 0) = 2
    split
    · exact .inr rfl
    · exact .inl rfl
  · rw [hm, show List.replicate 16 (0 : Int) = assignOf [] [((0 : Nat) : Int)] from (assign_one (by decide)).symm]
    exact assigned (asc_ok (asc_one (by decide))) (by simp)
/-- One more comes. -/
theorem row_step {r : Rg} {v n : Nat} {T : List Int} (h : RowR r v T) (hn : n < 8) : riseR r (n : Int) 1 = (noR, 8) ∨ (∃ t B, riseR r (n : Int) 1 = (⟨upd r.s n 1, r.p, r.e⟩, 0) ∧ stageR ⟨upd r.s n 1, r.p, r.e⟩ 0 [0] = (t, 0) ∧ RowR t (v + 1) B ∧ t.s n = 2 ∧ (∀ p, p < 16 → atL B p ≠ atL T p → atL B p = (n : Int)) ∧ movesOf B T = 16 / (ofR t 2 2).length ∧ 1 ≤ (ofR t 2 2).length) := by
  rcases riseR_cases r (n : Int) 1 with ⟨q, _⟩ | ⟨_, q, _⟩ | ⟨_, _, q, _⟩ | ⟨_, _, _, _, q⟩ | ⟨_, _, _, hx, q⟩
  · rw [h.may] at q; cases q
  · rw [node_nat hn] at q; cases q
  · omega
  · exact .inl q
  right
  rw [Int.toNat_natCast] at q hx
  have hsn : r.s n = 0 := by
    rcases h.s n hn with e | e
    · exact e
    · omega
  have hn0 : n ≠ 0 := fun e => by
    rw [e, h.s0] at hsn
    omega
  obtain ⟨now, ha⟩ := h.asg
  have hst : ∀ i, i < 8 → (upd r.s n 1 i = 1 ∧ i = n) ∨ (upd r.s n 1 i = r.s i ∧ i ≠ n) := fun i _ => by
    by_cases e : i = n
    · exact .inl ⟨if_pos e, e⟩
    · exact .inr ⟨if_neg e, e⟩
  have hm : OneMore (ofR r 1 2) (ofR ⟨upd r.s n 1, r.p, r.e⟩ 1 2) (n : Int) := by
    refine ⟨ofR_ok _ _ _, ofR_ok _ _ _, h.ne, fun hin => ?_, fun x => ?_⟩
    · have := (ofR_memN hn).1 hin
      omega
    · rw [ofR_mem, ofR_mem]
      constructor
      · rintro ⟨i, rfl, hi, h1, h2⟩
        rcases hst i hi with ⟨_, e⟩ | ⟨e, _⟩
        · exact .inr (by rw [e])
        · exact .inl ⟨i, rfl, hi, e ▸ h1, e ▸ h2⟩
      · rintro (⟨i, rfl, hi, h1, h2⟩ | rfl)
        · rcases hst i hi with ⟨_, e⟩ | ⟨e, _⟩
          · rw [e] at h1; omega
          · refine ⟨i, rfl, hi, ?_, ?_⟩
            · show 1 ≤ upd r.s n 1 i
              rw [e]; exact h1
            · show upd r.s n 1 i ≤ 2
              rw [e]; exact h2
        · exact ⟨n, rfl, hn, by show (1 : Int) ≤ if n = n then 1 else r.s n; rw [if_pos rfl]; decide, by show (if n = n then (1 : Int) else r.s n) ≤ 2; rw [if_pos rfl]; decide⟩
  have hM0 : ofR ⟨upd r.s n 1, r.p, r.e⟩ 1 2 ≠ [] := fun e => by
    have := (hm.mem (n : Int)).2 (.inr rfl)
    rw [e] at this
    cases this
  have hnow : nowL ⟨upd r.s n 1, r.p, r.e⟩ = T := by
    have h1 := now_full (a := ⟨upd r.s n 1, r.p, r.e⟩) h.mayp (by show r.p.2.2 ≠ []; rw [h.p]; intro e; have := h.len; rw [show T = [] from e] at this; simp at this)
    rw [h1]
    show r.p.2.2 = T
    rw [h.p]
  have hB := assigned (now := T) hm.okM hM0
  obtain ⟨B, hBe⟩ : ∃ B, assignOf T (ofR ⟨upd r.s n 1, r.p, r.e⟩ 1 2) = B := ⟨_, rfl⟩
  rw [hBe] at hB
  have hml := hm.len
  have hq := come_quota hm ha
  have hM8 : (ofR ⟨upd r.s n 1, r.p, r.e⟩ 1 2).length ≤ 8 := ofR_le _ _ _
  have hM1 : 1 ≤ (ofR ⟨upd r.s n 1, r.p, r.e⟩ 1 2).length := by omega
  have hcnt := hB.cnt (n : Int) ((hm.mem _).2 (.inr rfl))
  rw [hq] at hcnt
  have hdiv : 1 ≤ 16 / (ofR ⟨upd r.s n 1, r.p, r.e⟩ 1 2).length := (Nat.le_div_iff_mul_le (by omega)).2 (by omega)
  have hBT : ¬ B = T := fun e => by
    have h1 : (n : Int) ∈ B := List.count_pos_iff.1 (by omega)
    rw [e] at h1
    obtain ⟨p, hp⟩ := List.getElem?_of_mem h1
    exact hm.new (ha.each p _ hp)
  have hv8 := h.v8
  have hv1 := h.v1
  have hmayU : mayR ⟨upd r.s n 1, r.p, r.e⟩ = true := mayR_rise h.may (by decide)
  have hnx : nextP (r.p.1, r.p.2.1, r.p.2.2) 0 B = (((v : Int) + 1, 0, B), 0) := by
    have hmp := h.mayp
    rw [h.p] at hmp ⊢
    show nextP ((v : Int), 0, T) 0 B = _
    unfold nextP
    rw [if_pos ⟨hmp, by decide, by rw [← hBe]; exact assign_tgt hm.okM hM0⟩, if_neg (by show ¬ (v : Int) = 1000000; omega)]
  have hw := with_next (a := ⟨upd r.s n 1, r.p, r.e⟩) (n := 0) rfl (by rw [hnow]; exact hBe) hM0 (by show ¬ B = r.p.2.2; rw [h.p]; exact hBT) hnx
  rw [if_pos rfl] at hw
  have hs0 : upd r.s n 1 0 = 2 := (if_neg (fun e => hn0 e.symm)).trans h.s0
  have hlead : leaderR ⟨upd r.s n 1, r.p, r.e⟩ [0] = 0 := by
    rcases leader_ways ⟨upd r.s n 1, r.p, r.e⟩ [0] with ⟨_, h2⟩ | ⟨k, h1, _, _, h4, _⟩
    · exact absurd List.mem_cons_self (h2 0 (by decide) (by show 2 ≤ upd r.s n 1 0 ∧ upd r.s n 1 0 ≤ 3; rw [hs0]; decide))
    · rw [h1]
      simpa using h4
  have hst2 := stage_to hmayU (show nodeE 0 = true by decide) hlead hw
  rw [if_pos rfl] at hst2
  obtain ⟨t, ht⟩ : ∃ t, goneR ⟨memS ⟨upd r.s n 1, r.p, r.e⟩, ((v : Int) + 1, 0, B), r.e⟩ = t := ⟨_, rfl⟩
  have htp : t.p = (((v + 1 : Nat) : Int), 0, B) := by rw [← ht]; rfl
  have hte : t.e = r.e := by rw [← ht]; rfl
  have hts : ∀ i, i < 8 → t.s i = if i = n then 2 else r.s i := fun i hi => by
    have h1 : memS ⟨upd r.s n 1, r.p, r.e⟩ i = if i = n then 2 else r.s i := by
      rcases hst i hi with ⟨e, e2⟩ | ⟨e, e2⟩
      · rw [if_pos e2]
        show (if 1 ≤ upd r.s n 1 i ∧ upd r.s n 1 i ≤ 2 then 2 else upd r.s n 1 i) = 2
        rw [e]
        rfl
      · rw [if_neg e2]
        show (if 1 ≤ upd r.s n 1 i ∧ upd r.s n 1 i ≤ 2 then 2 else upd r.s n 1 i) = r.s i
        rw [e]
        rcases h.s i hi with e3 | e3 <;> rw [e3] <;> rfl
    rw [← ht]
    rcases gone_s ⟨memS ⟨upd r.s n 1, r.p, r.e⟩, ((v : Int) + 1, 0, B), r.e⟩ i with ⟨e, _⟩ | ⟨_, e, _⟩
    · rw [e]; exact h1
    · have e' : memS ⟨upd r.s n 1, r.p, r.e⟩ i = 3 := e
      rw [h1] at e'
      split at e'
      · omega
      · have := h.s i hi
        omega
  have hsame : ¬ sameR t ⟨upd r.s n 1, r.p, r.e⟩ = true := fun hh => by
    have h2 := (sameR_iff.1 hh).2.1
    rw [htp, show (⟨upd r.s n 1, r.p, r.e⟩ : Rg).p = r.p from rfl, h.p] at h2
    have h3 := congrArg Prod.fst h2
    dsimp only at h3
    omega
  rw [show ({ s := upd r.s n 1, p := r.p, e := r.e } : Rg).e = r.e from rfl, ht, if_neg hsame] at hst2
  have hofr : ofR t 1 2 = ofR ⟨upd r.s n 1, r.p, r.e⟩ 1 2 := ofR_congr fun i hi => by
    rw [hts i hi]
    show _ ↔ 1 ≤ upd r.s n 1 i ∧ upd r.s n 1 i ≤ 2
    rcases hst i hi with ⟨e, e2⟩ | ⟨e, e2⟩
    · rw [if_pos e2, e]; omega
    · rw [if_neg e2, e]
  have hof2 : ofR t 2 2 = ofR t 1 2 := ofR_congr fun i hi => by
    rw [hts i hi]
    split
    · omega
    · have := h.s i hi
      omega
  refine ⟨t, B, q, hst2, ⟨fun i hi => ?_, ?_, htp, fun p hp => by rw [hte]; exact h.e p hp, ?_, ⟨T, by rw [hofr]; exact hB⟩⟩, ?_, fun p hp hne => ?_, ?_, ?_⟩
  · rw [hts i hi]
    split
    · exact .inr rfl
    · exact h.s i hi
  · rw [hts 0 (by decide), if_neg (fun e => hn0 e.symm)]
    exact h.s0
  · rw [hofr, hml, h.v]
  · rw [hts n hn, if_pos rfl]
  · exact (come_moves hm ha hB hp).1 fun e => hne e.symm
  · rw [hof2, hofr]
    exact come_count hm ha hB
  · rw [hof2, hofr]
    exact hM1
end Go.Proofs.Ytdfmfcbeebfdhaa
