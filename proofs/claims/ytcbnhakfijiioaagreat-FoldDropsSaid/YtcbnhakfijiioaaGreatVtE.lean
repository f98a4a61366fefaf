/- Vaults: full ones. No program. -/
import Derived.Test.YtcbnhakfijiioaaGreatVtR
import Derived.Laws.BytesArg
namespace Go.Proofs.YtcbnhakfijiioaaGreat
open Go
def kX1 : ByteArray := ⟨#[120]⟩
def kY1 : ByteArray := ⟨#[121]⟩
def kF : ByteArray := ⟨#[102, 114, 101, 115, 104]⟩
def nm (i : Nat) : ByteArray := strOfNums [97 + (i : Int) % 26, 97 + (i : Int) / 26]
theorem nm_size (i : Nat) : (nm i).size = 2 := rfl
theorem nm_key (i : Nat) : keyB (nm i) = true := by
 unfold keyB
 rw [nm_size]
 decide
theorem byte_inj {a b : Nat} (ha : a < 256) (hb : b < 256) (h : UInt8.ofNat a = UInt8.ofNat b) : a = b := by
 have := congrArg UInt8.toNat h
 simp only [UInt8.toNat_ofNat'] at this
 omega
theorem nm_inj {i j : Nat} (hi : i < 1000) (hj : j < 1000) (h : nm i = nm j) : i = j := by
 have h1 := congrArg (fun s : ByteArray => s.data.toList) h
 simp only [nm, strOfNums, List.map_cons, List.map_nil, List.cons.injEq, and_true] at h1
 have h2 := byte_inj (by omega) (by omega) h1.1
 have h3 := byte_inj (by omega) (by omega) h1.2
 omega
theorem zV_may : mayV (fun _ => 0) = true := mayV_iff.2 fun _ _ => ⟨Int.le_refl _, by decide⟩
theorem put_empty {n : Int} {t : ByteArray} (hn : 1 ≤ n ∧ n ≤ 1000000) (ht : t.size ≤ 64) : putBR noB (fun _ => 0) (0, n) t = (putB noB (fun _ => 0) (0, n) t, 0) := by
 have hno : hasV noB.k ((0 : Int), n) = false := by
  cases h : hasV noB.k ((0 : Int), n) with
  | false => rfl
  | true =>
   have h0 : n ≤ 0 := (hasV_iff.1 h).2.2
   omega
 have hl : (putB noB (fun _ => 0) (0, n) t).v.length ≤ 32 := by
  rw [put_len]
  show 0 + 1 ≤ 32
  decide
 unfold putBR
 rw [if_pos ⟨mayB_iff.2 may_noB, zV_may, dotB_iff.2 ⟨by show (0 : Int) ≤ 0 ∧ (0 : Int) < 8; decide, hn⟩, hno, ht⟩, if_pos hl]
theorem bag_none {S : Vt} {k : ByteArray} (h : hasK S k = false) : bagV S k = noB := by
 unfold hasK at h
 unfold bagV
 cases hg : getK S.b k with
 | none => rfl
 | some x =>
  rw [hg] at h
  cases h
def xB (n : Int) (t : ByteArray) : Bg := putB noB (fun _ => 0) (0, n) t
theorem xB_may {n : Int} {t : ByteArray} (hn : 1 ≤ n ∧ n ≤ 1000000) (ht : t.size ≤ 64) : MayB (xB n t) := by
 rcases put_of may_noB zV_may (dotB_iff.2 ⟨by show (0 : Int) ≤ 0 ∧ (0 : Int) < 8; decide, hn⟩ : dotB ((0 : Int), n) = true) (by
  cases h : hasV noB.k ((0 : Int), n) with
  | false => rfl
  | true =>
   have h0 : n ≤ 0 := (hasV_iff.1 h).2.2
   omega) ht (put_empty hn ht) with ⟨_, _, h⟩ | ⟨h, _⟩
 ·exact h
 ·cases h
theorem put_new {X : Vl2} (hK : Kept X) {k t : ByteArray} (hk : keyB k = true) (ht : t.size ≤ 64) (hr : X.2.l.length < X.2.room) (hd : X.1.dots < 1000000) (hh : hasK X.1 k = false) (hl : X.1.b.length < 200) : putV X 0 k (fun _ => 0) t = ((countD X.1 (kbD (X.1.dots + 1) k (xB (X.1.dots + 1) t)), ⟨X.2.room, X.2.sure, X.2.l ++ [kbD (X.1.dots + 1) k (xB (X.1.dots + 1) t)]⟩), (0, X.1.dots + 1), 0) := by
 have h0 := hK.ok.dots
 have hn : 1 ≤ X.1.dots + 1 ∧ X.1.dots + 1 ≤ 1000000 := by omega
 have hp := put_empty (t := t) hn ht
 have hw := writeV_ok (X := X) (d := kbD (X.1.dots + 1) k (xB (X.1.dots + 1) t)) (bag_mayD hk (xB_may hn ht) (by omega)) hr
 unfold putV
 rw [if_pos ⟨by decide, hk⟩, if_pos hd, if_neg (by unfold fullV; rw [decide_eq_false (by omega), Bool.and_false]; exact Bool.false_ne_true), bag_none hh, hp]
 show (if (0 : Int) = 0 then (if (writeV X (kbD (X.1.dots + 1) k (xB (X.1.dots + 1) t))).2 = 0 then ((writeV X (kbD (X.1.dots + 1) k (xB (X.1.dots + 1) t))).1, ((0 : Int), X.1.dots + 1), (0 : Int)) else (X, (0, 0), (writeV X (kbD (X.1.dots + 1) k (xB (X.1.dots + 1) t))).2)) else (X, (0, 0), (0 : Int))) = _
 rw [if_pos rfl, hw, if_pos rfl]
theorem full_put {X : Vl2} (_hK : Kept X) {k t : ByteArray} (hk : keyB k = true) (hd : X.1.dots < 1000000) (hh : hasK X.1 k = false) (hl : 200 ≤ X.1.b.length) : putV X 0 k (fun _ => 0) t = (X, (0, 0), 5) := by
 unfold putV
 rw [if_pos ⟨by decide, hk⟩, if_pos hd, if_pos (by unfold fullV; rw [hh, decide_eq_true hl]; rfl)]
theorem full_merge {X : Vl2} {k : ByteArray} {b : Bg} (hk : keyB k = true) (hb : mayB b = true) (hh : hasK X.1 k = false) (hl : 200 ≤ X.1.b.length) : mergeV X k b = (X, 5) := by
 unfold mergeV
 rw [if_pos ⟨hk, hb⟩, if_pos (by unfold fullV; rw [hh, decide_eq_true hl]; rfl)]
structure Fu (X : Vl2) (k : Nat) : Prop where
 kept : Kept X
 room : X.2.room = 3000
 len : X.2.l.length = k
 dots : X.1.dots = (k : Int)
 has : ∀ q, hasK X.1 q = true ↔ ∃ j, j < k ∧ q = nm j
 num : X.1.b.length = k
 bag : ∀ j, j < k → bagV X.1 (nm j) = xB ((j : Int) + 1) kX1
theorem Fu.start : Fu (playD (newL 3000).l, newL 3000) 0 := ⟨Kept.open (LgOk.new 3000), rfl, rfl, rfl, (fun q => ⟨(fun h => by cases h), fun ⟨j, h, _⟩ => absurd h (by omega)⟩), rfl, fun j h => absurd h (by omega)⟩
theorem Fu.new {X : Vl2} {k : Nat} (h : Fu X k) {i : Nat} (hi : k ≤ i) (h1 : i < 1000) : hasK X.1 (nm i) = false := by
 rw [← Bool.not_eq_true, h.has]
 rintro ⟨j, hj, e⟩
 have := nm_inj h1 (by omega) e
 omega
theorem len_put {S : Vt} (h : VtOk S) {d : Dd} (hd : d.kind = 3) : (countD S d).b.length = if hasK S d.key = true then S.b.length else S.b.length + 1 := by
 rw [countD_3 hd]
 exact len_putK h.srt
theorem Fu.put {X : Vl2} {k : Nat} (h : Fu X k) (hk : k < 200) : ∃ Y, putV X 0 (nm k) (fun _ => 0) kX1 = (Y, (0, (k : Int) + 1), 0) ∧ Fu Y (k + 1) := by
 have hh := h.new (Nat.le_refl k) (by omega)
 have hp := put_new h.kept (nm_key k) (t := kX1) (by decide) (by rw [h.room, h.len]; omega) (by rw [h.dots]; omega) hh (by rw [h.num]; exact hk)
 have hK := h.kept.put 0 (nm k) (fun _ => 0) kX1
 rw [hp] at hK
 rw [hp, h.dots]
 refine ⟨_, rfl, ⟨by rw [← h.dots]; exact hK, h.room, ?_, ?_, fun q => ?_, ?_, fun j hj => ?_⟩⟩
 ·show (X.2.l ++ [_]).length = k + 1
  rw [List.length_append, h.len]
  rfl
 ·show (countD X.1 (kbD ((k : Int) + 1) (nm k) (xB ((k : Int) + 1) kX1))).dots = ((k + 1 : Nat) : Int)
  rw [countD_3 (d := kbD ((k : Int) + 1) (nm k) (xB ((k : Int) + 1) kX1)) rfl]
  show max X.1.dots ((k : Int) + 1) = _
  rw [h.dots]
  omega
 ·show hasK (countD X.1 (kbD ((k : Int) + 1) (nm k) (xB ((k : Int) + 1) kX1))) q = true ↔ _
  rw [hasK_put (d := kbD ((k : Int) + 1) (nm k) (xB ((k : Int) + 1) kX1)) rfl, Bool.or_eq_true, h.has, decide_eq_true_eq]
  constructor
  ·rintro (⟨j, h1, h2⟩ | h2)
   ·exact ⟨j, by omega, h2⟩
   ·exact ⟨k, by omega, h2⟩
  ·rintro ⟨j, h1, h2⟩
   by_cases e : j = k
   ·exact .inr (by rw [h2, e]; rfl)
   ·exact .inl ⟨j, by omega, h2⟩
 ·show (countD X.1 (kbD ((k : Int) + 1) (nm k) (xB ((k : Int) + 1) kX1))).b.length = _
  rw [len_put h.kept.ok (d := kbD ((k : Int) + 1) (nm k) (xB ((k : Int) + 1) kX1)) rfl, if_neg (by show ¬ hasK X.1 (nm k) = true; rw [hh]; exact Bool.false_ne_true), h.num]
 ·show bagV (countD X.1 (kbD ((k : Int) + 1) (nm k) (xB ((k : Int) + 1) kX1))) (nm j) = _
  rw [bag_count (d := kbD ((k : Int) + 1) (nm k) (xB ((k : Int) + 1) kX1)) rfl]
  by_cases e : j = k
  ·rw [if_pos (by rw [e]; rfl), e]
   rfl
  ·exact (if_neg (show ¬ nm j = nm k from fun h2 => e (nm_inj (by omega) (by omega) h2))).trans (h.bag j (by omega))
structure Gu (X : Vl2) (m : Nat) : Prop where
 kept : Kept X
 room : X.2.room = 3000
 len : X.2.l.length ≤ m
 dots : X.1.dots = 201
 num : X.1.b.length = 200
 two : hasK X.1 kF = false
def oB : Bg := ⟨fun i => if i = 0 then 1 else 0, []⟩
def mB : Bg := ⟨fun i => if i = 1 then 5 else 0, []⟩
theorem may_flat {k : Nat → Int} (h : ∀ i, 0 ≤ k i ∧ k i ≤ 1000000) : MayB ⟨k, []⟩ := ⟨⟨List.Pairwise.nil, fun _ h => by cases h⟩, mayV_iff.2 fun i _ => h i, Nat.zero_le _, fun _ h => by cases h⟩
theorem oB_may : MayB oB := may_flat fun i => by show 0 ≤ (if i = 0 then (1 : Int) else 0) ∧ (if i = 0 then (1 : Int) else 0) ≤ 1000000; split <;> decide
theorem mB_may : MayB mB := may_flat fun i => by show 0 ≤ (if i = 1 then (5 : Int) else 0) ∧ (if i = 1 then (5 : Int) else 0) ≤ 1000000; split <;> decide
theorem kF_key : keyB kF = true := by decide
theorem kF_nm (j : Nat) : kF ≠ nm j := fun h => by
 have := congrArg ByteArray.size h
 rw [nm_size] at this
 exact absurd this (by decide)
theorem Fu.full {X : Vl2} (h : Fu X 200) {i : Nat} (hi : 200 ≤ i) (h1 : i < 1000) : putV X 0 (nm i) (fun _ => 0) kX1 = (X, (0, 0), 5) ∧ mergeV X (nm i) oB = (X, 5) ∧ bagV X.1 (nm i) = noB := by
 have hh := h.new hi h1
 exact ⟨full_put h.kept (nm_key i) (by rw [h.dots]; decide) hh (by rw [h.num]; exact Nat.le_refl _), full_merge (nm_key i) (mayB_iff.2 oB_may) hh (by rw [h.num]; exact Nat.le_refl _), bag_none hh⟩
theorem Fu.fresh {X : Vl2} {k : Nat} (h : Fu X k) : hasK X.1 kF = false := by
 rw [← Bool.not_eq_true, h.has]
 rintro ⟨j, _, e⟩
 exact kF_nm j e
theorem Fu.again {X : Vl2} (h : Fu X 200) : ∃ Y, putV X 0 (nm 0) (fun _ => 0) kY1 = (Y, (0, 201), 0) ∧ Gu Y 201 ∧ bagV Y.1 (nm 1) = xB 2 kX1 ∧ hasK Y.1 (nm 1) = true := by
 have h0 : bagV X.1 (nm 0) = xB 1 kX1 := h.bag 0 (by decide)
 have hd : X.1.dots = 200 := h.dots
 have hm := xB_may (n := 1) (t := kX1) (by decide) (by decide)
 have hno : hasV (xB 1 kX1).k ((0 : Int), 201) = false := by decide +kernel
 obtain ⟨x, e, hx⟩ : ∃ x e, putBR (xB 1 kX1) (fun _ => 0) (0, 201) kY1 = (x, e) := ⟨_, _, rfl⟩
 rcases put_of hm zV_may (by decide) hno (by decide) hx with ⟨rfl, _, hxm⟩ | ⟨rfl, _⟩
 ·have hw := writeV_ok (X := X) (d := kbD 201 (nm 0) x) (bag_mayD (nm_key 0) hxm (by decide)) (by rw [h.room, h.len]; decide)
  have hp : putV X 0 (nm 0) (fun _ => 0) kY1 = ((countD X.1 (kbD 201 (nm 0) x), ⟨X.2.room, X.2.sure, X.2.l ++ [kbD 201 (nm 0) x]⟩), (0, 201), 0) := by
   unfold putV
   rw [if_pos ⟨by decide, nm_key 0⟩, if_pos (by rw [hd]; decide), if_neg (by unfold fullV; rw [(h.has (nm 0)).2 ⟨0, by decide, rfl⟩]; exact Bool.false_ne_true), h0, hd]
   show (if (putBR (xB 1 kX1) (fun _ => 0) ((0 : Int), 201) kY1).2 = 0 then (if (writeV X (kbD 201 (nm 0) (putBR (xB 1 kX1) (fun _ => 0) ((0 : Int), 201) kY1).1)).2 = 0 then ((writeV X (kbD 201 (nm 0) (putBR (xB 1 kX1) (fun _ => 0) ((0 : Int), 201) kY1).1)).1, ((0 : Int), (201 : Int)), (0 : Int)) else _) else _) = _
   rw [hx]
   show (if (0 : Int) = 0 then (if (writeV X (kbD 201 (nm 0) x)).2 = 0 then ((writeV X (kbD 201 (nm 0) x)).1, ((0 : Int), (201 : Int)), (0 : Int)) else _) else _) = _
   rw [if_pos rfl, hw, if_pos rfl]
  have hK := h.kept.put 0 (nm 0) (fun _ => 0) kY1
  rw [hp] at hK
  refine ⟨_, hp, ⟨hK, h.room, ?_, ?_, ?_, ?_⟩, ?_, ?_⟩
  ·show (X.2.l ++ [_]).length ≤ 201
   rw [List.length_append, h.len]
   exact Nat.le_refl _
  ·show (countD X.1 (kbD 201 (nm 0) x)).dots = 201
   rw [countD_3 (d := kbD 201 (nm 0) x) rfl]
   show max X.1.dots 201 = 201
   rw [hd]
   decide
  ·show (countD X.1 (kbD 201 (nm 0) x)).b.length = 200
   rw [len_put h.kept.ok (d := kbD 201 (nm 0) x) rfl]
   exact (if_pos ((h.has (nm 0)).2 ⟨0, by decide, rfl⟩)).trans h.num
  ·show hasK (countD X.1 (kbD 201 (nm 0) x)) kF = false
   rw [hasK_put (d := kbD 201 (nm 0) x) rfl, h.fresh, Bool.false_or]
   exact decide_eq_false (kF_nm 0)
  ·show bagV (countD X.1 (kbD 201 (nm 0) x)) (nm 1) = _
   rw [bag_count (d := kbD 201 (nm 0) x) rfl]
   exact (if_neg (show ¬ nm 1 = nm 0 from fun e => absurd (nm_inj (by decide) (by decide) e) (by decide))).trans (h.bag 1 (by decide))
  ·show hasK (countD X.1 (kbD 201 (nm 0) x)) (nm 1) = true
   rw [hasK_put (d := kbD 201 (nm 0) x) rfl, (h.has (nm 1)).2 ⟨1, by decide, rfl⟩]
   rfl
 ·exfalso
  have : (putBR (xB 1 kX1) (fun _ => 0) ((0 : Int), 201) kY1).2 = 0 := by decide +kernel
  rw [hx] at this
  cases this
theorem Gu.merge {X : Vl2} (h : Gu X 201) (h1 : bagV X.1 (nm 1) = xB 2 kX1) (h2 : hasK X.1 (nm 1) = true) : ∃ Y, mergeV X (nm 1) mB = (Y, 0) ∧ Gu Y 202 := by
 have hj : (joinBR mB (xB 2 kX1)).2 = 0 := by decide +kernel
 have hK := h.kept.merge (nm 1) mB
 rcases mergeV_ways X (nm 1) mB with ⟨e, _⟩ | ⟨x, e, hm, _⟩ | ⟨y, hy, e⟩
 ·exact ⟨X, e, h.kept, h.room, Nat.le_succ_of_le h.len, h.dots, h.num, h.two⟩
 ·rw [e] at hK
  refine ⟨_, e, hK, h.room, ?_, ?_, ?_, ?_⟩
  ·show (X.2.l ++ [_]).length ≤ 202
   rw [List.length_append]
   have := h.len
   show X.2.l.length + 1 ≤ 202
   omega
  ·show (countD X.1 (kbD X.1.dots (nm 1) x)).dots = 201
   rw [countD_3 (d := kbD X.1.dots (nm 1) x) rfl]
   show max X.1.dots X.1.dots = 201
   rw [h.dots]
   decide
  ·show (countD X.1 (kbD X.1.dots (nm 1) x)).b.length = 200
   rw [len_put h.kept.ok (d := kbD X.1.dots (nm 1) x) rfl]
   exact (if_pos h2).trans h.num
  ·show hasK (countD X.1 (kbD X.1.dots (nm 1) x)) kF = false
   rw [hasK_put (d := kbD X.1.dots (nm 1) x) rfl, h.two, Bool.false_or]
   exact decide_eq_false (kF_nm 1)
 ·exfalso
  have hw := writeV_ok (X := X) (d := kbD X.1.dots (nm 1) (joinBR mB (xB 2 kX1)).1)
  unfold mergeV at e
  rw [if_pos ⟨nm_key 1, mayB_iff.2 mB_may⟩, if_neg (by unfold fullV; rw [h2]; exact Bool.false_ne_true), h1, if_pos hj] at e
  split at e
  ·exact hy (congrArg (fun z => z.2) e).symm
  ·have hjm : MayB (joinBR mB (xB 2 kX1)).1 := by
    obtain ⟨z, e3, hz⟩ : ∃ z e3, joinBR mB (xB 2 kX1) = (z, e3) := ⟨_, _, rfl⟩
    rw [hz] at hj
    rcases join_of mB_may (xB_may (n := 2) (t := kX1) (by decide) (by decide)) hz with ⟨_, _, k3⟩ | ⟨k1, _⟩
    ·rw [hz]
     exact k3
    ·have hj : e3 = 0 := hj
     omega
   rw [hw (bag_mayD (nm_key 1) hjm (by rw [h.dots]; decide)) (by rw [h.room]; have := h.len; omega)] at e
   exact hy (congrArg (fun z => z.2) e).symm
theorem Gu.more {X : Vl2} (h : Gu X 201) : Gu X 202 := ⟨h.kept, h.room, Nat.le_succ_of_le h.len, h.dots, h.num, h.two⟩
theorem Gu.fresh {X : Vl2} (h : Gu X 202) : putV X 0 kF (fun _ => 0) kX1 = (X, (0, 0), 5) := full_put h.kept kF_key (by rw [h.dots]; decide) h.two (by rw [h.num]; exact Nat.le_refl _)
theorem sum_split (S : Vt) : ∀ i : Nat, (∀ q : Nat, q < i → keysV S (q : Int) = []) → sumK S i = 0
 | 0, _ => rfl
 | i + 1, h => by
  show sumK S i + (keysV S (i : Int)).length = 0
  rw [sum_split S i fun q hq => h q (by omega), h i (by omega)]
  rfl
theorem Gu.some {X : Vl2} (h : Gu X 202) {p : Nat} (hp : p ≤ 15) (hn : ∀ q : Nat, q < p → keysV X.1 (q : Int) = []) (he : keysV X.1 (p : Int) ≠ [] ∨ p = 15) : 0 < (keysV X.1 (p : Int)).length := by
 rcases he with he | rfl
 ·exact List.length_pos_iff.2 he
 ·have h1 := sumK_all h.kept.ok
  rw [h.num] at h1
  have h2 : sumK X.1 15 + (keysV X.1 ((15 : Nat) : Int)).length = 200 := h1
  rw [sum_split X.1 15 hn] at h2
  omega
theorem Gu.drop {X : Vl2} (h : Gu X 202) {p : Nat} (hp : p ≤ 15) (hn : 0 < (keysV X.1 (p : Int)).length) : ∃ Y U d, dropV X (p : Int) = (Y, 0) ∧ Kept Y ∧ putV Y 0 kF (fun _ => 0) kX1 = (U, d, 0) := by
 have hr : X.2.l.length < X.2.room := by rw [h.room]; have := h.len; omega
 obtain ⟨d1, d2, d3, d4⟩ := dropV_ok (X := X) (n := (p : Int)) (by omega) hr
 have hK := h.kept.drop (p : Int)
 obtain ⟨Y, e, hd⟩ : ∃ a b, dropV X (p : Int) = (a, b) := ⟨_, _, rfl⟩
 rw [hd] at d1 d2 d3 d4 hK
 have d1 : e = 0 := d1
 subst d1
 have d2 : Y.1 = dropS X.1 (p : Int) := d2
 have d3 : Y.2.room = X.2.room := d3
 have d4 : Y.2.l.length ≤ X.2.l.length + 1 := d4
 refine ⟨Y, _, _, hd, hK, put_new hK kF_key (by decide) (by rw [d3, h.room]; have := h.len; omega) (by rw [d2]; show X.1.dots < 1000000; rw [h.dots]; decide) ?_ ?_⟩
 ·rw [d2]
  have h2 := h.two
  unfold hasK at h2 ⊢
  show (getK (dropK (p : Int) X.1.b) kF).isSome = false
  rw [getK_drop]
  split
  ·rfl
  ·exact h2
 ·have h1 := sumK_drop X.1 (n := (p : Int)) (by omega) 16
  rw [if_pos (by omega), sumK_all h.kept.ok, h.num] at h1
  have h2 := sumK_all hK.ok
  rw [d2] at h2
  rw [d2, ← h2]
  omega
end Go.Proofs.YtcbnhakfijiioaaGreat
