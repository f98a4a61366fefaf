/- Vaults: full ones. No program. -/
import Derived.Test.YtcchkkdbagpgjaaGreatQ10
import Derived.Laws.BytesArg
namespace Go.Proofs.YtcchkkdbagpgjaaGreat
open Go
theorem zV_may : mayV (fun _ => 0) = true := mayV_iff.2 fun _ _ => ⟨Int.le_refl _, by decide⟩
theorem put_empty {n : Int} {t : ByteArray} (hn : 1 ≤ n ∧ n ≤ 1000000) (ht : t.size ≤ 64) : putBR noB (fun _ => 0) (0, n) t = (putB noB (fun _ => 0) (0, n) t, 0) := by
 have hno : hasV noB.k ((0 : Int), n) = false := by
  cases h : hasV noB.k ((0 : Int), n) with
  | false => rfl
  | true =>
   have h0 : n ≤ 0 := (hasV_iff.1 h).2.2
   omega
 have hl : (putB noB (fun _ => 0) (0, n) t).v.length ≤ 32 := by
  rw [put_len]
  show 0 + 1 ≤ 32
  decide
 unfold putBR
 rw [if_pos ⟨mayB_iff.2 may_noB, zV_may, dotB_iff.2 ⟨by show (0 : Int) ≤ 0 ∧ (0 : Int) < 8; decide, hn⟩, hno, ht⟩, if_pos hl]
theorem bag_none {S : Vt} {k : ByteArray} (h : hasK S k = false) : bagV S k = noB := by
 unfold hasK at h
 unfold bagV
 cases hg : getK S.b k with
 | none => rfl
 | some x =>
  rw [hg] at h
  cases h
def xB (n : Int) (t : ByteArray) : Bg := putB noB (fun _ => 0) (0, n) t
theorem xB_may {n : Int} {t : ByteArray} (hn : 1 ≤ n ∧ n ≤ 1000000) (ht : t.size ≤ 64) : MayB (xB n t) := by
 rcases put_of may_noB zV_may (dotB_iff.2 ⟨by show (0 : Int) ≤ 0 ∧ (0 : Int) < 8; decide, hn⟩ : dotB ((0 : Int), n) = true) (by
  cases h : hasV noB.k ((0 : Int), n) with
  | false => rfl
  | true =>
   have h0 : n ≤ 0 := (hasV_iff.1 h).2.2
   omega) ht (put_empty hn ht) with ⟨_, _, h⟩ | ⟨h, _⟩
 ·exact h
 ·cases h
theorem put_new {X : Vl2} (hK : Kept X) {k t : ByteArray} (hk : keyB k = true) (ht : t.size ≤ 64) (hr : X.2.l.length < X.2.room) (hd : X.1.dots < 1000000) (hh : hasK X.1 k = false) (hl : X.1.b.length < 200) : putV X 0 k (fun _ => 0) t = ((countD X.1 (kbD (X.1.dots + 1) k (xB (X.1.dots + 1) t)), ⟨X.2.room, X.2.sure, X.2.l ++ [kbD (X.1.dots + 1) k (xB (X.1.dots + 1) t)]⟩), (0, X.1.dots + 1), 0) := by
 have h0 := hK.ok.dots
 have hn : 1 ≤ X.1.dots + 1 ∧ X.1.dots + 1 ≤ 1000000 := by omega
 have hp := put_empty (t := t) hn ht
 have hw := writeV_ok (X := X) (d := kbD (X.1.dots + 1) k (xB (X.1.dots + 1) t)) (bag_mayD hk (xB_may hn ht) (by omega)) hr
 unfold putV
 rw [if_pos ⟨by decide, hk⟩, if_pos hd, if_neg (by unfold fullV; rw [decide_eq_false (by omega), Bool.and_false]; exact Bool.false_ne_true), bag_none hh, hp]
 show (if (0 : Int) = 0 then (if (writeV X (kbD (X.1.dots + 1) k (xB (X.1.dots + 1) t))).2 = 0 then ((writeV X (kbD (X.1.dots + 1) k (xB (X.1.dots + 1) t))).1, ((0 : Int), X.1.dots + 1), (0 : Int)) else (X, (0, 0), (writeV X (kbD (X.1.dots + 1) k (xB (X.1.dots + 1) t))).2)) else (X, (0, 0), (0 : Int))) = _
 rw [if_pos rfl, hw, if_pos rfl]
end Go.Proofs.YtcchkkdbagpgjaaGreat
