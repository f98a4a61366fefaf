/- Vaults: puts without a context, so few that each is done. -/
import Derived.Test.YtcchkkdbagpgjaaGreatQ13
import Derived.Test.YtcchkkdbagpgjaaGreatVtE
namespace Go.Proofs.YtcchkkdbagpgjaaGreat
open Go
theorem hasK_putV {X : Vl2} (_hK : Kept X) {q : ByteArray} (node : Int) (k : ByteArray) (known : Nat → Int) (t : ByteArray) (h : hasK X.1 q = true) : hasK (putV X node k known t).1.1 q = true := by
 rcases putV_ways X node k known t with ⟨x, e, _⟩ | ⟨e, _, h1⟩
 ·rw [e]
  show hasK (countD X.1 (kbD (X.1.dots + 1) k x)) q = true
  rw [hasK_put (d := kbD (X.1.dots + 1) k x) rfl, h]
  rfl
 ·rw [h1]
  exact h
theorem put_len1 (X : Vl2) (node : Int) (k : ByteArray) (known : Nat → Int) (t : ByteArray) : (putV X node k known t).1.2.l.length ≤ X.2.l.length + 1 := by
 rcases putV_ways X node k known t with ⟨x, e, _⟩ | ⟨e, _, h1⟩
 ·rw [e]
  show (X.2.l ++ [_]).length ≤ _
  rw [List.length_append]
  exact Nat.le_refl _
 ·rw [h1]
  exact Nat.le_succ _
structure Few (X : Vl2) (m : Nat) : Prop where
 kept : Kept X
 room : X.2.room = 100
 len : X.2.l.length = m
 dots : X.1.dots = (m : Int)
 low : ∀ q, (bagV X.1 q).k 0 ≤ (m : Int)
 few : ∀ q, (bagV X.1 q).v.length ≤ m
theorem Few.start : Few (playD (newL 100).l, newL 100) 0 := ⟨Kept.open (LgOk.new 100), rfl, rfl, rfl, fun _ => Int.le_refl _, fun _ => Nat.le_refl _⟩
theorem Few.bl {X : Vl2} {m : Nat} (h : Few X m) : X.1.b.length ≤ m := by
 have := h.kept.len
 rw [h.len] at this
 exact this
theorem Few.put {X : Vl2} {m : Nat} (h : Few X m) (hm : m < 32) {k t : ByteArray} (hk : keyB k = true) (ht : t.size ≤ 64) : ∃ Y, putV X 0 k (fun _ => 0) t = (Y, (0, (m : Int) + 1), 0) ∧ Few Y (m + 1) ∧ (∀ q, hasK Y.1 q = (hasK X.1 q || decide (q = k))) ∧ Y.2.l.length = m + 1 := by
 have hb := bagV_may h.kept.ok k
 have hd : dotB ((0 : Int), (m : Int) + 1) = true := dotB_iff.2 ⟨by show (0 : Int) ≤ 0 ∧ (0 : Int) < 8; decide, by show 1 ≤ (m : Int) + 1 ∧ (m : Int) + 1 ≤ 1000000; omega⟩
 have hn : hasV (bagV X.1 k).k ((0 : Int), (m : Int) + 1) = false := by
  cases hv : hasV (bagV X.1 k).k ((0 : Int), (m : Int) + 1) with
  | false => rfl
  | true =>
   have h1 : (m : Int) + 1 ≤ (bagV X.1 k).k 0 := (hasV_iff.1 hv).2.2
   have h2 := h.low k
   omega
 obtain ⟨x, hx⟩ : ∃ x, putB (bagV X.1 k) (fun _ => 0) ((0 : Int), (m : Int) + 1) t = x := ⟨_, rfl⟩
 have hl : x.v.length ≤ m + 1 := by
  rw [← hx, put_len]
  have h1 : (leftB (bagV X.1 k) fun _ => 0).length ≤ (bagV X.1 k).v.length := List.length_filter_le _ _
  have h2 := h.few k
  omega
 have hm2 : MayB x := by
  rw [← hx]
  exact may_put hb zV_may hd hn ht (by rw [hx]; omega)
 have hp : putBR (bagV X.1 k) (fun _ => 0) ((0 : Int), (m : Int) + 1) t = (x, 0) := by
  unfold putBR
  rw [if_pos ⟨mayB_iff.2 hb, zV_may, hd, hn, ht⟩, hx, if_pos (by omega)]
 have hk0 : x.k 0 ≤ (m : Int) + 1 := by
  rw [← hx]
  show withV (joinV (bagV X.1 k).k fun _ => 0) ((0 : Int), (m : Int) + 1) 0 ≤ _
  rw [withV_in (by show (0 : Int) ≤ 0 ∧ (0 : Int) < 8; decide)]
  show max (max ((bagV X.1 k).k 0) 0) ((m : Int) + 1) ≤ _
  have h2 := h.low k
  omega
 have hw := writeV_ok (X := X) (d := kbD ((m : Int) + 1) k x) (bag_mayD hk hm2 (by omega)) (by rw [h.room, h.len]; omega)
 have hput : putV X 0 k (fun _ => 0) t = ((countD X.1 (kbD ((m : Int) + 1) k x), ⟨X.2.room, X.2.sure, X.2.l ++ [kbD ((m : Int) + 1) k x]⟩), (0, (m : Int) + 1), 0) := by
  have hbl := h.bl
  unfold putV
  rw [if_pos ⟨by decide, hk⟩, if_pos (by rw [h.dots]; omega), if_neg (by unfold fullV; rw [decide_eq_false (by omega), Bool.and_false]; exact Bool.false_ne_true), h.dots, hp]
  show (if (0 : Int) = 0 then (if (writeV X (kbD ((m : Int) + 1) k x)).2 = 0 then ((writeV X (kbD ((m : Int) + 1) k x)).1, ((0 : Int), (m : Int) + 1), (0 : Int)) else (X, (0, 0), (writeV X (kbD ((m : Int) + 1) k x)).2)) else (X, (0, 0), (0 : Int))) = _
  rw [if_pos rfl, hw, if_pos rfl]
 have hK := h.kept.put 0 k (fun _ => 0) t
 rw [hput] at hK
 have hlen : (X.2.l ++ [kbD ((m : Int) + 1) k x]).length = m + 1 := by
  rw [List.length_append, h.len]
  rfl
 refine ⟨_, hput, ⟨hK, h.room, hlen, ?_, fun q => ?_, fun q => ?_⟩, fun q => hasK_put (d := kbD ((m : Int) + 1) k x) rfl q, hlen⟩
 ·show (countD X.1 (kbD ((m : Int) + 1) k x)).dots = ((m + 1 : Nat) : Int)
  rw [countD_3 (d := kbD ((m : Int) + 1) k x) rfl]
  show max X.1.dots ((m : Int) + 1) = _
  rw [h.dots]
  omega
 ·show (bagV (countD X.1 (kbD ((m : Int) + 1) k x)) q).k 0 ≤ ((m + 1 : Nat) : Int)
  rw [bag_count (d := kbD ((m : Int) + 1) k x) rfl]
  split
  ·show x.k 0 ≤ _
   omega
  ·have := h.low q
   omega
 ·show (bagV (countD X.1 (kbD ((m : Int) + 1) k x)) q).v.length ≤ m + 1
  rw [bag_count (d := kbD ((m : Int) + 1) k x) rfl]
  split
  ·exact hl
  ·have := h.few q
   omega
end Go.Proofs.YtcchkkdbagpgjaaGreat
