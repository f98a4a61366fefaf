/- Vaults: keys of parts, counted; what a Drop leaves; puts that know nothing. No program. -/
import Derived.Test.YtcbnhakfijiioaaGreatVtM
import Derived.Test.YtcbnhakfijiioaaGreatPB
namespace Go.Proofs.YtcbnhakfijiioaaGreat
open Go
theorem ofK_range {k : ByteArray} (h : keyB k = true) : 0 ≤ ofK k ∧ ofK k < 16 := by
 unfold ofK
 rw [if_pos (show mayK k = true from h)]
 omega
def sumK (S : Vt) : Nat → Nat
 | 0 => 0
 | i + 1 => sumK S i + (keysV S (i : Int)).length
theorem keysV_len (S : Vt) (n : Int) : (keysV S n).length = S.b.countP fun p => decide (ofK p.1 = n) := by
 unfold keysV
 rw [List.length_map, List.countP_eq_length_filter]
theorem countP_split (i : Nat) : ∀ l : List Kb, (l.countP fun p => decide (0 ≤ ofK p.1 ∧ ofK p.1 < ((i + 1 : Nat) : Int))) = (l.countP fun p => decide (0 ≤ ofK p.1 ∧ ofK p.1 < (i : Int))) + l.countP fun p => decide (ofK p.1 = (i : Int))
 | [] => rfl
 | p :: l => by
  rw [List.countP_cons, List.countP_cons, List.countP_cons, countP_split i l]
  by_cases h1 : 0 ≤ ofK p.1 ∧ ofK p.1 < (i : Int)
  ·rw [if_pos (decide_eq_true (by omega)), if_pos (decide_eq_true h1), if_neg (by simp; omega)]
   omega
  ·by_cases h2 : ofK p.1 = (i : Int)
   ·rw [if_pos (decide_eq_true (by omega)), if_neg (by simp; omega), if_pos (decide_eq_true h2)]
    omega
   ·rw [if_neg (by simp; omega), if_neg (by simp; omega), if_neg (by simp; omega)]
    omega
theorem sumK_count (S : Vt) : ∀ i : Nat, sumK S i = S.b.countP fun p => decide (0 ≤ ofK p.1 ∧ ofK p.1 < (i : Int))
 | 0 => by
  show 0 = _
  rw [eq_comm, List.countP_eq_zero]
  intro p _
  simp
  try omega
 | i + 1 => by
  show sumK S i + _ = _
  rw [sumK_count S i, keysV_len, countP_split]
theorem sumK_all {S : Vt} (h : VtOk S) : sumK S 16 = S.b.length := by
 rw [sumK_count, List.countP_eq_length]
 intro p hp
 have := ofK_range (h.key p hp)
 exact decide_eq_true ⟨this.1, by have := this.2; omega⟩
theorem mem_keysV {S : Vt} {n : Int} {k : ByteArray} : k ∈ keysV S n ↔ (∃ x, (k, x) ∈ S.b) ∧ ofK k = n := by
 unfold keysV
 rw [List.mem_map]
 constructor
 ·rintro ⟨p, hp, rfl⟩
  rw [List.mem_filter] at hp
  exact ⟨⟨p.2, hp.1⟩, of_decide_eq_true hp.2⟩
 ·rintro ⟨⟨x, hx⟩, hn⟩
  exact ⟨(k, x), List.mem_filter.2 ⟨hx, decide_eq_true hn⟩, rfl⟩
theorem keysV_srt {S : Vt} (h : SrtK S.b) (n : Int) : (keysV S n).Pairwise ltK := by
 unfold keysV
 exact List.pairwise_map.2 (h.sublist List.filter_sublist)
/- A Drop. -/
end Go.Proofs.YtcbnhakfijiioaaGreat
