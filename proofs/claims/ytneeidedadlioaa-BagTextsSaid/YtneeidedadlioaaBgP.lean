/- Bags that came of writes; without any program. -/
import Derived.Test.YtneeidedadlioaaBgM
namespace Go.Proofs.Ytneeidedadlioaa
open Go

def sameB (a b : Bg) : Bool := decide (tab8 a.k = tab8 b.k) && decide (a.v = b.v)
def belowB (a b : Bg) : Bool := decide ((joinBR a b).2 = 0) && sameB (joinBR a b).1 b
theorem sameB_iff {a b : Bg} : sameB a b = true ↔ (∀ i, i < 8 → a.k i = b.k i) ∧ a.v = b.v := by
  unfold sameB
  rw [Bool.and_eq_true, decide_eq_true_iff, decide_eq_true_iff, tab8_eq]
theorem sameB_self (a : Bg) : sameB a a = true := sameB_iff.2 ⟨fun _ _ => rfl, rfl⟩
theorem joinBR_ok {a b : Bg} (ha : MayB a) (hb : MayB b) : joinBR a b = if (joinB a b).v.length ≤ 32 then (joinB a b, 0) else (noB, 5) := if_pos ⟨mayB_iff.2 ha, mayB_iff.2 hb⟩
theorem join_of {a b x : Bg} {e : Int} (ha : MayB a) (hb : MayB b) (h : joinBR a b = (x, e)) : (e = 0 ∧ x = joinB a b ∧ MayB x) ∨ (e = 5 ∧ x = noB) := by
  rw [joinBR_ok ha hb] at h
  split at h
  · rename_i hl
    obtain ⟨h1, h2⟩ := Prod.mk.inj h
    exact .inl ⟨h2.symm, h1.symm, by rw [← h1]; exact may_join ha hb hl⟩
  · obtain ⟨h1, h2⟩ := Prod.mk.inj h
    exact .inr ⟨h2.symm, h1.symm⟩
theorem put_of {b x : Bg} {known : Nat → Int} {d : En} {t : ByteArray} {e : Int} (hb : MayB b) (hk : mayV known = true) (hd : dotB d = true) (hn : hasV b.k d = false) (ht : t.size ≤ 64) (h : putBR b known d t = (x, e)) : (e = 0 ∧ x = putB b known d t ∧ MayB x) ∨ (e = 5 ∧ x = noB) := by
  unfold putBR at h
  rw [if_pos ⟨mayB_iff.2 hb, hk, hd, hn, ht⟩] at h
  split at h
  · rename_i hl
    obtain ⟨h1, h2⟩ := Prod.mk.inj h
    exact .inl ⟨h2.symm, h1.symm, by rw [← h1]; exact may_put hb hk hd hn ht hl⟩
  · obtain ⟨h1, h2⟩ := Prod.mk.inj h
    exact .inr ⟨h2.symm, h1.symm⟩
theorem below_of {dat : En → ByteArray} {a b : Bg} (ha : MayB a) (hb : MayB b) (da : DatB dat a) (db : DatB dat b) (h : leB a b) : joinBR a b = (joinB a b, 0) ∧ joinBR b a = (joinB b a, 0) ∧ sameB (joinB a b) b = true ∧ sameB (joinB b a) b = true ∧ belowB a b = true := by
  obtain ⟨h1, h2, h3, h4⟩ := join_le ha.toPre hb.toPre da db h
  have e1 : joinBR a b = (joinB a b, 0) := by rw [joinBR_ok ha hb, if_pos (by rw [h1]; exact hb.len)]
  have e2 : joinBR b a = (joinB b a, 0) := by rw [joinBR_ok hb ha, if_pos (by rw [h3]; exact hb.len)]
  have s1 : sameB (joinB a b) b = true := sameB_iff.2 ⟨h2, h1⟩
  refine ⟨e1, e2, s1, sameB_iff.2 ⟨h4, h3⟩, ?_⟩
  unfold belowB
  rw [e1, s1]
  rfl
/- Three who write. -/
structure Tri where
  b : Nat → Bg
  n : Nat → Nat
/-- What a step does, to whom, of whom. -/
abbrev Stp : Type := Int × Nat × Nat
section
variable (tx : Nat → Nat → ByteArray)
def datT (d : En) : ByteArray := tx d.1.toNat d.2.toNat
def actT (S : Tri) (s : Stp) : Bg × Int :=
  if s.1 = 0 then joinBR (S.b s.2.1) (S.b s.2.2)
  else putBR (S.b s.2.1) (if s.1 = 1 then (S.b s.2.1).k else fun _ => 0) ((s.2.1 : Int), ((S.n s.2.1 + 1 : Nat) : Int)) (tx s.2.1 (S.n s.2.1 + 1))
def cntT (S : Tri) (s : Stp) : Nat → Nat := if s.1 = 0 then S.n else upd S.n s.2.1 (S.n s.2.1 + 1)
def stepT (S : Tri) (s : Stp) : Tri := ⟨upd S.b s.2.1 (actT tx S s).1, cntT S s⟩
def startT : Tri := ⟨fun _ => noB, fun _ => 0⟩
structure InvT (S : Tri) (i : Nat) : Prop where
  may : ∀ w, w < 3 → MayB (S.b w)
  dat : ∀ w, w < 3 → DatB (datT tx) (S.b w)
  own : ∀ w, w < 3 → (S.b w).k w = (S.n w : Int)
  le : ∀ w, w < 3 → ∀ o, o < 3 → (S.b o).k w ≤ (S.n w : Int)
  nb : ∀ w, w < 3 → S.n w ≤ i
theorem may_noB : MayB noB := ⟨⟨List.Pairwise.nil, fun _ h => by cases h⟩, mayV_iff.2 fun _ _ => by show (0 : Int) ≤ 0 ∧ (0 : Int) ≤ 1000000; decide, Nat.zero_le _, fun _ h => by cases h⟩
theorem inv_start : InvT tx startT 0 := ⟨fun _ _ => may_noB, (fun _ _ _ h => by cases h), fun _ _ => rfl, fun _ _ _ _ => Int.le_refl _, fun _ _ => Nat.le_refl _⟩
variable {tx : Nat → Nat → ByteArray}
theorem act_ways (htx : ∀ w n, (tx w n).size ≤ 64) {S : Tri} {i : Nat} (h : InvT tx S i) (hi : i < 1000000) {s : Stp} (hw : s.2.1 < 3) (ho : s.2.2 < 3) {x : Bg} {e : Int} (ha : actT tx S s = (x, e)) :
    (e = 5 ∧ x = noB) ∨ (e = 0 ∧ InvT tx (stepT tx S s) (i + 1) ∧ leB (S.b s.2.1) x ∧ (stepT tx S s).b = upd S.b s.2.1 x) := by
  obtain ⟨d, w, o⟩ := s
  dsimp only at hw ho
  have hb := h.may w hw
  have hstep : (stepT tx S (d, w, o)).b = upd S.b w x := by unfold stepT; rw [ha]
  have hupd : ∀ v, (stepT tx S (d, w, o)).b v = if v = w then x else S.b v := fun v => by rw [hstep]; rfl
  by_cases h0 : d = 0
  · have hc : (stepT tx S (d, w, o)).n = S.n := if_pos h0
    have ha' : joinBR (S.b w) (S.b o) = (x, e) := by unfold actT at ha; rwa [if_pos h0] at ha
    have hbo := h.may o ho
    rcases join_of hb hbo ha' with ⟨e0, ex, hx⟩ | q
    · refine .inr ⟨e0, ⟨fun v hv => ?_, fun v hv => ?_, fun v hv => ?_, fun v hv u hu => ?_, fun v hv => ?_⟩, by rw [ex]; exact leB_left hb.toPre hbo.toPre, hstep⟩
      · rw [hupd]; split
        · exact hx
        · exact h.may v hv
      · rw [hupd]; split
        · rw [ex]; exact dat_join (h.dat w hw) (h.dat o ho)
        · exact h.dat v hv
      · rw [hupd, hc]; split
        · rename_i q
          subst q
          rw [ex]
          show max ((S.b v).k v) ((S.b o).k v) = _
          have := h.own v hw
          have := h.le v hw o ho
          omega
        · exact h.own v hv
      · rw [hupd, hc]; split
        · rw [ex]
          show max ((S.b w).k v) ((S.b o).k v) ≤ _
          have := h.le v hv w hw
          have := h.le v hv o ho
          omega
        · exact h.le v hv u hu
      · rw [hc]
        exact Nat.le_succ_of_le (h.nb v hv)
    · exact .inl q
  · have hc : (stepT tx S (d, w, o)).n = upd S.n w (S.n w + 1) := if_neg h0
    have hcu : ∀ v, (stepT tx S (d, w, o)).n v = if v = w then S.n w + 1 else S.n v := fun v => by rw [hc]; rfl
    obtain ⟨kn, hkn⟩ : ∃ kn, (if d = 1 then (S.b w).k else fun _ => 0) = kn := ⟨_, rfl⟩
    have ha' : putBR (S.b w) kn ((w : Int), ((S.n w + 1 : Nat) : Int)) (tx w (S.n w + 1)) = (x, e) := by
      unfold actT at ha
      rw [if_neg h0] at ha
      rw [← hkn]
      exact ha
    have hkm : mayV kn = true := by
      rw [← hkn]
      split
      · exact hb.k
      · exact mayV_iff.2 fun _ _ => by decide
    have hkle : ∀ j, kn j ≤ (S.b w).k j ∨ kn j = 0 := fun j => by
      rw [← hkn]
      split
      · exact .inl (Int.le_refl _)
      · exact .inr rfl
    have hown := h.own w hw
    have hnb := h.nb w hw
    have hd : dotB ((w : Int), ((S.n w + 1 : Nat) : Int)) = true := dotB_iff.2 ⟨by dsimp only; omega, by dsimp only; omega⟩
    have hn : hasV (S.b w).k ((w : Int), ((S.n w + 1 : Nat) : Int)) = false := by
      rw [← Bool.not_eq_true, hasV_iff]
      dsimp only
      rw [Int.toNat_natCast, hown]
      omega
    rcases put_of hb hkm hd hn (htx _ _) ha' with ⟨e0, ex, hx⟩ | q
    · have hxk : ∀ j, x.k j = if j = w then ((S.n w + 1 : Nat) : Int) else max ((S.b w).k j) (kn j) := fun j => by
        rw [ex]
        show withV (joinV (S.b w).k kn) _ j = _
        rcases withV_at (joinV (S.b w).k kn) ((w : Int), ((S.n w + 1 : Nat) : Int)) j with ⟨q1, q2⟩ | ⟨q1, _, q2⟩
        · rw [q1, if_neg (fun q => q2 ⟨by dsimp only; omega, by dsimp only; rw [Int.toNat_natCast]; exact q⟩)]
          rfl
        · rw [q1]
          dsimp only at q2 ⊢
          rw [Int.toNat_natCast] at q2
          rw [if_pos q2]
          subst q2
          show max (max ((S.b j).k j) (kn j)) _ = _
          have := hkle j
          omega
      refine .inr ⟨e0, ⟨fun v hv => ?_, fun v hv => ?_, fun v hv => ?_, fun v hv u hu => ?_, fun v hv => ?_⟩, by rw [ex]; exact leB_put hb.toPre hd hn, hstep⟩
      · rw [hupd]; split
        · exact hx
        · exact h.may v hv
      · rw [hupd]; split
        · rw [ex]; exact dat_put (h.dat w hw) (by unfold datT; dsimp only; rw [Int.toNat_natCast, Int.toNat_natCast])
        · exact h.dat v hv
      · rw [hupd, hcu]; split
        · rename_i q
          rw [hxk, if_pos q]
        · exact h.own v hv
      · rw [hupd, hcu]; split <;> rename_i q1 <;> split <;> rename_i q2
        · rw [hxk, if_pos q2]; exact Int.le_refl _
        · rw [hxk, if_neg q2]
          have := h.le v hv w hw
          have := hkle v
          omega
        · have := h.le v hv u hu
          rw [q2] at this ⊢
          omega
        · exact h.le v hv u hu
      · rw [hcu]; split
        · omega
        · exact Nat.le_succ_of_le (h.nb v hv)
    · exact .inl q
/-- The three after so many steps, if none failed. -/
def runT (tx : Nat → Nat → ByteArray) (l : List Stp) : Nat → Option Tri
  | 0 => some startT
  | k + 1 => match runT tx l k with
    | none => none
    | some S => match l[k]? with
      | none => some S
      | some s => if (actT tx S s).2 = 0 then some (stepT tx S s) else none
theorem runT_take (l : List Stp) (m : Nat) : ∀ k, k ≤ m → runT tx (l.take m) k = runT tx l k
  | 0, _ => rfl
  | k + 1, hk => by
    unfold runT
    rw [runT_take l m k (by omega), List.getElem?_take, if_pos (by omega)]
theorem runT_step {l : List Stp} {k : Nat} {S : Tri} {s : Stp} (h : runT tx l k = some S) (hs : l[k]? = some s) (he : (actT tx S s).2 = 0) : runT tx l (k + 1) = some (stepT tx S s) := by
  unfold runT
  rw [h]
  dsimp only
  rw [hs]
  exact if_pos he
theorem runT_prev {l : List Stp} {k : Nat} {S : Tri} (h : runT tx l (k + 1) = some S) : ∃ R, runT tx l k = some R ∧ (S = R ∨ ∃ s, l[k]? = some s ∧ (actT tx R s).2 = 0 ∧ S = stepT tx R s) := by
  unfold runT at h
  cases h1 : runT tx l k with
  | none => rw [h1] at h; cases h
  | some R =>
    rw [h1] at h
    dsimp only at h
    refine ⟨R, rfl, ?_⟩
    cases h2 : l[k]? with
    | none => rw [h2] at h; exact .inl (Option.some.inj h).symm
    | some s =>
      rw [h2] at h
      dsimp only at h
      split at h
      · rename_i he
        exact .inr ⟨s, rfl, he, (Option.some.inj h).symm⟩
      · cases h
theorem runT_inv (htx : ∀ w n, (tx w n).size ≤ 64) {l : List Stp} (hl : ∀ s ∈ l, s.2.1 < 3 ∧ s.2.2 < 3) : ∀ k, k ≤ 1000000 → ∀ S, runT tx l k = some S → InvT tx S k
  | 0, _, S, h => by
    have : startT = S := Option.some.inj h
    rw [← this]
    exact inv_start tx
  | k + 1, hk, S, h => by
    obtain ⟨R, h1, h2⟩ := runT_prev h
    have hR := runT_inv htx hl k (by omega) R h1
    rcases h2 with rfl | ⟨s, hs, he, rfl⟩
    · exact ⟨hR.may, hR.dat, hR.own, hR.le, fun w hw => Nat.le_succ_of_le (hR.nb w hw)⟩
    · obtain ⟨hw, ho⟩ := hl s (List.mem_of_getElem? hs)
      rcases act_ways htx hR (by omega) hw ho (x := (actT tx R s).1) (e := (actT tx R s).2) rfl with ⟨q, _⟩ | ⟨_, q, _⟩
      · omega
      · exact q
theorem runT_le (htx : ∀ w n, (tx w n).size ≤ 64) {l : List Stp} (hl : ∀ s ∈ l, s.2.1 < 3 ∧ s.2.2 < 3) {k : Nat} {R : Tri} (h : runT tx l k = some R) : ∀ j, k + j ≤ 1000000 → ∀ S, runT tx l (k + j) = some S → ∀ w, w < 3 → leB (R.b w) (S.b w)
  | 0, _, S, hS, w, _ => by
    have : S = R := Option.some.inj (hS.symm.trans h)
    rw [this]
    exact leB_refl _
  | j + 1, hj, S, hS, w, hw => by
    obtain ⟨T, h1, h2⟩ := runT_prev (k := k + j) hS
    have ih := runT_le htx hl h j (by omega) T h1 w hw
    have hT := runT_inv htx hl (k + j) (by omega) T h1
    rcases h2 with rfl | ⟨s, hs, he, rfl⟩
    · exact ih
    · obtain ⟨hw1, ho1⟩ := hl s (List.mem_of_getElem? hs)
      rcases act_ways htx hT (by omega) hw1 ho1 (x := (actT tx T s).1) (e := (actT tx T s).2) rfl with ⟨q, _⟩ | ⟨_, _, q, q2⟩
      · omega
      · rw [q2]
        refine leB_trans ih ?_
        show leB (T.b w) (if w = s.2.1 then (actT tx T s).1 else T.b w)
        split
        · rename_i e
          rw [e]; exact q
        · exact leB_refl _
end
/- BagJoins. -/
theorem three_in {dat : En → ByteArray} {b : Nat → Bg} (hm : ∀ w, w < 3 → MayB (b w)) (hd : ∀ w, w < 3 → DatB dat (b w)) {w : Nat} (hw : w < 3) {x : Vl} (hx : x ∈ (b w).v) :
    x ∈ (joinB (joinB (b 0) (b 1)) (b 2)).v ↔ ¬ ∃ o, o < 3 ∧ heldL (b o).v x.1 = false ∧ hasV (b o).k x.1 = true := by
  have h0 := (hm 0 (by decide)).toPre
  have h1 := (hm 1 (by decide)).toPre
  have h2 := (hm 2 (by decide)).toPre
  have hp := pre_join (pre_join h0 h1) h2
  have hdp := dat_join (dat_join (hd 0 (by decide)) (hd 1 (by decide))) (hd 2 (by decide))
  have hs : stB (joinB (joinB (b 0) (b 1)) (b 2)) x.1 = max (max (stB (b 0) x.1) (stB (b 1) x.1)) (stB (b 2) x.1) := by rw [stB_join (pre_join h0 h1) h2, stB_join h0 h1]
  have hx1 : stB (b w) x.1 = 1 := (stB_one (hm w hw).toPre).2 (heldL_iff.2 ⟨x, hx, rfl⟩)
  have key : x ∈ (joinB (joinB (b 0) (b 1)) (b 2)).v ↔ stB (joinB (joinB (b 0) (b 1)) (b 2)) x.1 = 1 := by
    rw [stB_one hp, heldL_iff]
    constructor
    · intro h
      exact ⟨x, h, rfl⟩
    · rintro ⟨y, hy, e⟩
      have : y = x := Prod.ext e (by rw [hdp y hy, hd w hw x hx, e])
      rwa [← this]
  have b0 := stB_le (b 0) x.1
  have b1 := stB_le (b 1) x.1
  have b2 := stB_le (b 2) x.1
  rw [key, hs]
  constructor
  · rintro h ⟨o, ho, q1, q2⟩
    have q : stB (b o) x.1 = 2 := stB_two.2 ⟨q2, q1⟩
    rcases (show o = 0 ∨ o = 1 ∨ o = 2 by omega) with rfl | rfl | rfl <;> omega
  · intro h
    have hn : ∀ o, o < 3 → stB (b o) x.1 ≠ 2 := fun o ho q => h ⟨o, ho, (stB_two.1 q).2, (stB_two.1 q).1⟩
    have n0 := hn 0 (by decide)
    have n1 := hn 1 (by decide)
    have n2 := hn 2 (by decide)
    rcases (show w = 0 ∨ w = 1 ∨ w = 2 by omega) with rfl | rfl | rfl <;> omega
theorem three_known {b : Nat → Bg} {w : Nat} (hw : w < 3) : belowV (b w).k (joinB (joinB (b 0) (b 1)) (b 2)).k = true := belowV_iff.2 fun i _ => by
  show (b w).k i ≤ max (max ((b 0).k i) ((b 1).k i)) ((b 2).k i)
  rcases (show w = 0 ∨ w = 1 ∨ w = 2 by omega) with rfl | rfl | rfl <;> omega
/-- What the law asks of three joined in any order. -/
theorem three_joins {dat : En → ByteArray} {b0 b1 b2 x z p q y : Bg} {e f g h i : Int} (m0 : MayB b0) (m1 : MayB b1) (m2 : MayB b2) (d0 : DatB dat b0) (d1 : DatB dat b1) (d2 : DatB dat b2) (hx : joinBR b0 b1 = (x, e)) (hy : joinBR b1 b0 = (y, f)) (hz : joinBR b1 b2 = (z, g)) (hp : joinBR x b2 = (p, h)) (hq : joinBR b0 z = (q, i)) (e5 : e ≠ 5) (g5 : g ≠ 5) (h5 : h ≠ 5) (i5 : i ≠ 5) :
    e = 0 ∧ f = 0 ∧ g = 0 ∧ h = 0 ∧ i = 0 ∧ x = y ∧ p = q ∧ belowB b0 x = true ∧ belowB b1 p = true ∧ belowB x p = true ∧ mayB p = true ∧ p = joinB (joinB b0 b1) b2 := by
  rcases join_of m0 m1 hx with ⟨e0, ex, mx⟩ | ⟨k, _⟩
  · rcases join_of m1 m2 hz with ⟨g0, ez, mz⟩ | ⟨k, _⟩
    · rcases join_of mx m2 hp with ⟨h0, ep, mp⟩ | ⟨k, _⟩
      · rcases join_of m0 mz hq with ⟨i0, eq, mq⟩ | ⟨k, _⟩
        · have hc : joinB b0 b1 = joinB b1 b0 := joinB_comm m0.toPre m1.toPre d0 d1
          have hxy : x = y ∧ f = 0 := by
            rw [joinBR_ok m1 m0, ← hc, if_pos (by rw [← ex]; exact mx.len)] at hy
            obtain ⟨k1, k2⟩ := Prod.mk.inj hy
            exact ⟨ex.trans k1, k2.symm⟩
          have dx : DatB dat x := by rw [ex]; exact dat_join d0 d1
          have dp : DatB dat p := by rw [ep]; exact dat_join dx d2
          have hpq : p = q := by rw [ep, eq, ex, ez]; exact joinB_assoc m0.toPre m1.toPre m2.toPre d0 d1 d2
          have lx : leB b0 x := by rw [ex]; exact leB_left m0.toPre m1.toPre
          have l1x : leB b1 x := by rw [ex]; exact leB_right m0.toPre m1.toPre
          have lp : leB x p := by rw [ep]; exact leB_left mx.toPre m2.toPre
          exact ⟨e0, hxy.2, g0, h0, i0, hxy.1, hpq, (below_of m0 mx d0 dx lx).2.2.2.2, (below_of m1 mp d1 dp (leB_trans l1x lp)).2.2.2.2, (below_of mx mp dx dp lp).2.2.2.2, mayB_iff.2 mp, by rw [ep, ex]⟩
        · exact absurd k i5
      · exact absurd k h5
    · exact absurd k g5
  · exact absurd k e5
/- BagPuts. -/
theorem put_in {b : Bg} {known : Nat → Int} {d : En} {t : ByteArray} (hb : Pre b) (hn : hasV b.k d = false) {x : Vl} (hx : x ∈ b.v) : x ∈ (putB b known d t).v ↔ hasV known x.1 = false := by
  rw [mem_put]
  constructor
  · rintro (e | ⟨_, h⟩)
    · have := hb.has x hx
      rw [e] at this
      rw [show hasV b.k d = true from this] at hn
      cases hn
    · exact h
  · intro h
    exact .inr ⟨hx, h⟩
theorem put_facts {b : Bg} {known : Nat → Int} {d : En} {t : ByteArray} (hd : dotB d = true) : (d, t) ∈ (putB b known d t).v ∧ hasV (putB b known d t).k d = true ∧ belowV known (putB b known d t).k = true := by
  have h := dotB_iff.1 hd
  refine ⟨mem_put.2 (.inl rfl), hasV_with h.1 h.2.1, belowV_iff.2 fun i hi => ?_⟩
  exact Int.le_trans (belowV_iff.1 (belowV_right b.k known) i hi) (belowV_iff.1 (belowV_with (joinV b.k known) d) i hi)
theorem put_again {b : Bg} {known k2 : Nat → Int} {d : En} {t t2 : ByteArray} (hd : dotB d = true) : putBR (putB b known d t) k2 d t2 = (noB, 1) := by
  unfold putBR
  rw [if_neg]
  rintro ⟨_, _, _, h, _⟩
  rw [(put_facts hd).2.1] at h
  cases h
end Go.Proofs.Ytneeidedadlioaa
