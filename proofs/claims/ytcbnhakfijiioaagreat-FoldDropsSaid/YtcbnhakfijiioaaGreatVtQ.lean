/- Vaults: keys of parts, counted; what a Drop leaves; puts that know nothing. No program. -/
import Derived.Test.YtcbnhakfijiioaaGreatVtM
import Derived.Test.YtcbnhakfijiioaaGreatPB
namespace Go.Proofs.YtcbnhakfijiioaaGreat
open Go
theorem keyB_may (k : ByteArray) : keyB k = mayK k := rfl
theorem ofK_range {k : ByteArray} (h : keyB k = true) : 0 ≤ ofK k ∧ ofK k < 16 := by
 unfold ofK
 rw [if_pos (show mayK k = true from h)]
 omega
theorem ofK_no {k : ByteArray} (h : keyB k = false) : ofK k = -1 := by
 unfold ofK
 rw [if_neg (by rw [show mayK k = false from h]; exact Bool.false_ne_true)]
def sumK (S : Vt) : Nat → Nat
 | 0 => 0
 | i + 1 => sumK S i + (keysV S (i : Int)).length
theorem keysV_len (S : Vt) (n : Int) : (keysV S n).length = S.b.countP fun p => decide (ofK p.1 = n) := by
 unfold keysV
 rw [List.length_map, List.countP_eq_length_filter]
theorem countP_split (i : Nat) : ∀ l : List Kb, (l.countP fun p => decide (0 ≤ ofK p.1 ∧ ofK p.1 < ((i + 1 : Nat) : Int))) = (l.countP fun p => decide (0 ≤ ofK p.1 ∧ ofK p.1 < (i : Int))) + l.countP fun p => decide (ofK p.1 = (i : Int))
 | [] => rfl
 | p :: l => by
  rw [List.countP_cons, List.countP_cons, List.countP_cons, countP_split i l]
  by_cases h1 : 0 ≤ ofK p.1 ∧ ofK p.1 < (i : Int)
  ·rw [if_pos (decide_eq_true (by omega)), if_pos (decide_eq_true h1), if_neg (by simp; omega)]
   omega
  ·by_cases h2 : ofK p.1 = (i : Int)
   ·rw [if_pos (decide_eq_true (by omega)), if_neg (by simp; omega), if_pos (decide_eq_true h2)]
    omega
   ·rw [if_neg (by simp; omega), if_neg (by simp; omega), if_neg (by simp; omega)]
    omega
theorem sumK_count (S : Vt) : ∀ i : Nat, sumK S i = S.b.countP fun p => decide (0 ≤ ofK p.1 ∧ ofK p.1 < (i : Int))
 | 0 => by
  show 0 = _
  rw [eq_comm, List.countP_eq_zero]
  intro p _
  simp
  try omega
 | i + 1 => by
  show sumK S i + _ = _
  rw [sumK_count S i, keysV_len, countP_split]
theorem sumK_all {S : Vt} (h : VtOk S) : sumK S 16 = S.b.length := by
 rw [sumK_count, List.countP_eq_length]
 intro p hp
 have := ofK_range (h.key p hp)
 exact decide_eq_true ⟨this.1, by have := this.2; omega⟩
theorem mem_keysV {S : Vt} {n : Int} {k : ByteArray} : k ∈ keysV S n ↔ (∃ x, (k, x) ∈ S.b) ∧ ofK k = n := by
 unfold keysV
 rw [List.mem_map]
 constructor
 ·rintro ⟨p, hp, rfl⟩
  rw [List.mem_filter] at hp
  exact ⟨⟨p.2, hp.1⟩, of_decide_eq_true hp.2⟩
 ·rintro ⟨⟨x, hx⟩, hn⟩
  exact ⟨(k, x), List.mem_filter.2 ⟨hx, decide_eq_true hn⟩, rfl⟩
theorem hasK_iff {S : Vt} (h : SrtK S.b) {k : ByteArray} : hasK S k = true ↔ ∃ x, (k, x) ∈ S.b := by
 unfold hasK
 rw [Option.isSome_iff_exists]
 exact ⟨fun ⟨x, hx⟩ => ⟨x, getK_mem hx⟩, fun ⟨x, hx⟩ => ⟨x, getK_of h hx⟩⟩
theorem keysV_srt {S : Vt} (h : SrtK S.b) (n : Int) : (keysV S n).Pairwise ltK := by
 unfold keysV
 exact List.pairwise_map.2 (h.sublist List.filter_sublist)
/- A Drop. -/
def dropS (S : Vt) (n : Int) : Vt := ⟨S.inc, S.has, S.ring, S.dots, dropK n S.b⟩
theorem filter_self {α : Type} {p : α → Bool} : ∀ {l : List α}, (∀ x ∈ l, p x = true) → l.filter p = l
 | [], _ => rfl
 | x :: l, h => by rw [List.filter_cons, if_pos (h x List.mem_cons_self), filter_self fun y hy => h y (List.mem_cons_of_mem _ hy)]
theorem drop_none {S : Vt} {n : Int} (h : keysV S n = []) : dropS S n = S := by
 have : dropK n S.b = S.b := filter_self fun p hp => by
  cases hq : decide (ofK p.1 = n)
  ·rfl
  ·have : p.1 ∈ keysV S n := mem_keysV.2 ⟨⟨p.2, hp⟩, of_decide_eq_true hq⟩
   rw [h] at this
   cases this
 unfold dropS
 rw [this]
theorem dropV_ok {X : Vl2} {n : Int} (hn : 0 ≤ n ∧ n < 16) (hr : X.2.l.length < X.2.room) : (dropV X n).2 = 0 ∧ (dropV X n).1.1 = dropS X.1 n ∧ (dropV X n).1.2.room = X.2.room ∧ (dropV X n).1.2.l.length ≤ X.2.l.length + 1 := by
 unfold dropV
 rw [if_pos hn]
 split
 ·rename_i h
  exact ⟨rfl, (drop_none h).symm, rfl, Nat.le_succ _⟩
 ·rw [writeV_ok (drop_may hn) hr]
  refine ⟨rfl, countD_4 (d := kdD n) rfl, rfl, ?_⟩
  show (X.2.l ++ [kdD n]).length ≤ _
  rw [List.length_append]
  exact Nat.le_refl _
theorem dropV_no (X : Vl2) {n : Int} (hn : ¬ (0 ≤ n ∧ n < 16)) : dropV X n = (X, 1) := if_neg hn
theorem keys_dropS (S : Vt) (n q : Int) : keysV (dropS S n) q = if q = n then [] else keysV S q := by
 show ((dropK n S.b).filter fun p => decide (ofK p.1 = q)).map (fun p => p.1) = _
 unfold dropK
 rw [List.filter_filter]
 by_cases h : q = n
 ·rw [if_pos h]
  have : (S.b.filter fun p => decide (ofK p.1 = q) && !decide (ofK p.1 = n)) = [] := List.filter_eq_nil_iff.2 fun p _ => by
   rw [h]
   cases decide (ofK p.1 = n) <;> decide
  rw [this]
  rfl
 ·rw [if_neg h]
  unfold keysV
  congr 1
  apply List.filter_congr
  intro p _
  by_cases h2 : ofK p.1 = q
  ·rw [decide_eq_true h2, decide_eq_false (by rw [h2]; exact h)]
   rfl
  ·rw [decide_eq_false h2, Bool.false_and]
theorem keys_drop_le (S : Vt) (n q : Int) : (keysV (dropS S n) q).length ≤ (keysV S q).length := by
 rw [keys_dropS]
 split
 ·exact Nat.zero_le _
 ·exact Nat.le_refl _
theorem sumK_drop (S : Vt) {n : Int} (hn : 0 ≤ n) : ∀ i : Nat, sumK (dropS S n) i + (if n < (i : Int) then (keysV S n).length else 0) = sumK S i
 | 0 => by
  rw [if_neg (by omega)]
  rfl
 | i + 1 => by
  show sumK (dropS S n) i + (keysV (dropS S n) (i : Int)).length + _ = sumK S i + (keysV S (i : Int)).length
  have ih := sumK_drop S hn i
  rw [keys_dropS]
  by_cases h : (i : Int) = n
  ·subst h
   rw [if_pos rfl, if_pos (by omega)]
   rw [if_neg (by omega)] at ih
   show _ + 0 + _ = _
   omega
  ·rw [if_neg h]
   by_cases h2 : n < (i : Int)
   ·rw [if_pos (by omega)]
    rw [if_pos h2] at ih
    omega
   ·rw [if_neg (by omega)]
    rw [if_neg h2] at ih
    omega
structure InK (X : Vl2) (M : Mp ByteArray Int) (i : Nat) : Prop where
 kept : Kept X
 room : X.2.room = 200
 len : X.2.l.length ≤ i
 ok : MpOk M
 get : ∀ k, M.get k = if hasK X.1 k = true then some 1 else none
 num : M.es.length = X.1.b.length
theorem InK.start : InK (playD (newL 200).l, newL 200) Mp.no 0 := ⟨Kept.open (LgOk.new 200), rfl, Nat.le_refl _, MpOk.no, fun _ => rfl, rfl⟩
theorem hasK_put {S : Vt} {d : Dd} (h : d.kind = 3) (k : ByteArray) : hasK (countD S d) k = (hasK S k || decide (k = d.key)) := by
 rw [countD_3 h]
 unfold hasK
 show (getK (putK d.key d.b S.b) k).isSome = _
 by_cases e : k = d.key
 ·rw [e, getK_put, decide_eq_true rfl, Bool.or_true]
  rfl
 ·rw [getK_other _ e, decide_eq_false e, Bool.or_false]
theorem InK.put {X : Vl2} {M : Mp ByteArray Int} {i : Nat} (h : InK X M i) (k t : ByteArray) (known : Nat → Int) : InK (putV X 0 k known t).1 (if (putV X 0 k known t).2.2 = 0 then M.put k 1 else M) (i + 1) := by
 have hk := h.kept.put 0 k known t
 rcases putV_ways X 0 k known t with ⟨x, e, hm, _, _, _, _⟩ | ⟨y, hy, e⟩
 ·rw [e] at hk ⊢
  rw [if_pos rfl]
  refine ⟨hk, h.room, ?_, h.ok.put k 1, fun q => ?_, ?_⟩
  ·show (X.2.l ++ [_]).length ≤ i + 1
   rw [List.length_append]
   have := h.len
   show X.2.l.length + 1 ≤ i + 1
   omega
  ·rw [Mp.get_put, h.get]
   show _ = if hasK (countD X.1 (kbD (X.1.dots + 1) k x)) q = true then _ else _
   rw [hasK_put (d := kbD (X.1.dots + 1) k x) rfl]
   show _ = if (hasK X.1 q || decide (q = k)) = true then _ else _
   by_cases e2 : q = k
   ·rw [if_pos e2, decide_eq_true e2, Bool.or_true, if_pos rfl]
   ·rw [if_neg e2, decide_eq_false e2, Bool.or_false]
  ·rw [Mp.put_len, h.get]
   show _ = (countD X.1 (kbD (X.1.dots + 1) k x)).b.length
   rw [countD_3 (d := kbD (X.1.dots + 1) k x) rfl]
   show _ = (putK k x X.1.b).length
   rw [len_putK h.kept.ok.srt, h.num]
   unfold hasK
   cases getK X.1.b k <;> rfl
 ·rw [e] at hk ⊢
  rw [if_neg hy]
  exact ⟨hk, h.room, Nat.le_succ_of_le h.len, h.ok, h.get, h.num⟩
theorem InK.has {X : Vl2} {M : Mp ByteArray Int} {i : Nat} (h : InK X M i) {n : Int} {k : ByteArray} (hk : k ∈ keysV X.1 n) : M.get k = some 1 ∧ ofK k = n ∧ k.size ≤ 32 := by
 obtain ⟨⟨x, hx⟩, hn⟩ := mem_keysV.1 hk
 have := h.kept.ok.key _ hx
 unfold keyB at this
 have := of_decide_eq_true this
 exact ⟨by rw [h.get, if_pos ((hasK_iff h.kept.ok.srt).2 ⟨x, hx⟩)], hn, this.2⟩
theorem keys_len {X : Vl2} {M : Mp ByteArray Int} {i : Nat} (h : InK X M i) (n : Int) : (keysV X.1 n).length ≤ i := by
 have h1 : (keysV X.1 n).length ≤ X.1.b.length := by rw [keysV_len]; exact List.countP_le_length
 have h2 := h.kept.len
 have h3 := h.len
 omega
theorem sum_len {X : Vl2} {M : Mp ByteArray Int} {i : Nat} (h : InK X M i) (n : Nat) : sumK X.1 n ≤ i := by
 have h1 : sumK X.1 n ≤ X.1.b.length := by rw [sumK_count]; exact List.countP_le_length
 have h2 := h.kept.len
 have h3 := h.len
 omega
theorem not_le {l : List ByteArray} (h : l.Pairwise ltK) {i : Nat} {a b : ByteArray} (ha : l[i]? = some a) (hb : l[i + 1]? = some b) : (Op.bytesLess b.toList a.toList || b.toList == a.toList) = false := by
 have hab : ltK a b := by
  have h1 := (List.getElem?_eq_some_iff.1 ha).2
  have h2 := (List.getElem?_eq_some_iff.1 hb).2
  have := List.pairwise_iff_getElem.1 h i (i + 1) (List.getElem?_eq_some_iff.1 ha).1 (List.getElem?_eq_some_iff.1 hb).1 (Nat.lt_succ_self _)
  rwa [h1, h2] at this
 rw [Bool.or_eq_false_iff]
 constructor
 ·rw [Bool.eq_false_iff]
  intro h2
  exact ltK_irrefl a (ltK_trans hab h2)
 ·rw [Bool.eq_false_iff]
  intro h2
  exact ltK_ne hab (bytes_inj (beq_iff_eq.1 h2)).symm
end Go.Proofs.YtcbnhakfijiioaaGreat
