/- Texts of claims, without any program: two texts are one just if the claims are. -/
import Derived.Test.YtbdhnmjmbbahhaaDoorHealth4
namespace Go.Proofs.YtbdhnmjmbbahhaaDoor
open Go Go.RowKit

def valD (l : List UInt8) : Nat := l.foldl (fun a d => a * 10 + (d.toNat - 48)) 0
theorem digit_val (u : Nat) (h : u < 10) : (UInt8.ofNat (48 + u)).toNat - 48 = u := by
  rw [UInt8.toNat_ofNat']; omega
theorem valD_dec (u : Nat) : valD (Lib.decDigits u) = u := by
  induction u using Nat.strongRecOn with
  | _ u ih =>
    rw [Lib.decDigits]
    split
    · rename_i h
      simp only [valD, List.foldl_cons, List.foldl_nil, digit_val u h]; omega
    · rename_i h
      have e := ih (u / 10) (by omega)
      unfold valD at e ⊢
      rw [List.foldl_append, e]
      simp only [List.foldl_cons, List.foldl_nil, digit_val (u % 10) (by omega)]; omega
theorem itoaS_list (n : Int) : (itoaS n).data.toList = Lib.itoa n := rfl
theorem itoa_inj {a b : Int} (ha : 0 ≤ a) (hb : 0 ≤ b) (h : Lib.itoa a = Lib.itoa b) : a = b := by
  obtain ⟨x, rfl⟩ := Int.eq_ofNat_of_zero_le ha
  obtain ⟨y, rfl⟩ := Int.eq_ofNat_of_zero_le hb
  rw [Lib.itoa_nonneg, Lib.itoa_nonneg] at h
  have := congrArg valD h
  rw [valD_dec, valD_dec] at this
  rw [this]
theorem itoa_one (n : Int) (h0 : 0 ≤ n) (h1 : n < 8) : Lib.itoa n = [UInt8.ofNat (48 + n.toNat)] := by
  obtain ⟨x, rfl⟩ := Int.eq_ofNat_of_zero_le h0
  rw [Lib.itoa_nonneg, Lib.decDigits_one (by omega)]
  rfl
def saidL (i h : Int) : List UInt8 := if h = 1 then [97, 108, 105, 118, 101, 64] ++ Lib.itoa i else if h = 2 then [115, 117, 115, 112, 101, 99, 116, 64] ++ Lib.itoa i else if h = 3 then [100, 101, 97, 100, 64] ++ Lib.itoa i else if h = 4 then [108, 101, 102, 116] else [45]
theorem saidS_list (i h : Int) : (saidS i h).data.toList = saidL i h := by
  unfold saidS saidL
  repeat' split
  all_goals simp [ByteArray.data_append, itoaS_list]
theorem saidL_len (i h : Int) : 1 ≤ (saidL i h).length := by
  unfold saidL
  repeat' split
  all_goals simp
theorem saidL_inj {i1 h1 i2 h2 : Int} (a1 : 0 ≤ i1) (a2 : 0 ≤ i2) (b1 : 0 ≤ h1 ∧ h1 ≤ 4) (b2 : 0 ≤ h2 ∧ h2 ≤ 4) (c1 : h1 = 4 ∨ h1 = 0 → i1 = 0) (c2 : h2 = 4 ∨ h2 = 0 → i2 = 0) (h : saidL i1 h1 = saidL i2 h2) : i1 = i2 ∧ h1 = h2 := by
  rcases (show h1 = 0 ∨ h1 = 1 ∨ h1 = 2 ∨ h1 = 3 ∨ h1 = 4 from by omega) with rfl | rfl | rfl | rfl | rfl <;>
  rcases (show h2 = 0 ∨ h2 = 1 ∨ h2 = 2 ∨ h2 = 3 ∨ h2 = 4 from by omega) with rfl | rfl | rfl | rfl | rfl
  all_goals simp [saidL] at h
  all_goals first
    | exact ⟨itoa_inj a1 a2 h, rfl⟩
    | exact ⟨by rw [c1 (by omega), c2 (by omega)], rfl⟩
theorem textS_list {n i h : Int} (hm : mayB n i h = true) : (textS n i h).data.toList = Lib.itoa n ++ 58 :: saidL i h := by
  unfold textS
  rw [if_pos hm]
  simp [ByteArray.data_append, itoaS_list, saidS_list]
theorem mayB_none {n i : Int} (hm : mayB n i 0 = true) : i = 0 := by
  simp only [mayB, decide_eq_true_eq] at hm; omega
theorem textS_inj {n1 i1 h1 n2 i2 h2 : Int} (m1 : mayB n1 i1 h1 = true) (m2 : mayB n2 i2 h2 = true) (c1 : h1 = 4 → i1 = 0) (c2 : h2 = 4 → i2 = 0) (h : textS n1 i1 h1 = textS n2 i2 h2) : n1 = n2 ∧ i1 = i2 ∧ h1 = h2 := by
  obtain ⟨p0, p1, p2, p3, p4, p5⟩ := mayB_inc m1
  obtain ⟨q0, q1, q2, q3, q4, q5⟩ := mayB_inc m2
  have e := congrArg (fun b => b.data.toList) h
  simp only [textS_list m1, textS_list m2] at e
  have e1 := itoa_one n1 p0 p1
  have e2 := itoa_one n2 q0 q1
  rw [e1, e2] at e
  simp only [List.cons_append, List.nil_append, List.cons.injEq, true_and] at e
  have en : n1 = n2 := itoa_inj p0 q0 (by rw [e1, e2, e.1])
  have es := saidL_inj p2 q2 ⟨p4, p5⟩ ⟨q4, q5⟩ (fun z => z.elim c1 (fun z => mayB_none (z ▸ m1))) (fun z => z.elim c2 (fun z => mayB_none (z ▸ m2))) e.2
  exact ⟨en, es.1, es.2⟩
theorem textS_size {n i h : Int} (hm : mayB n i h = true) : 3 ≤ (textS n i h).size := by
  obtain ⟨p0, p1, _⟩ := mayB_inc hm
  have := saidL_len i h
  have e : (textS n i h).size = (textS n i h).data.toList.length := by rw [Array.length_toList]; rfl
  rw [e, textS_list hm, itoa_one n p0 p1]
  simp; omega
theorem textS_bad {n i h : Int} (hm : mayB n i h = false) : textS n i h = ⟨#[]⟩ := by simp [textS, hm]
theorem toList_ne {a b : ByteArray} (h : a ≠ b) : (a.toList == b.toList) = false := by
  rw [beq_eq_false_iff_ne]
  intro e
  rw [ByteArray.toList_eq, ByteArray.toList_eq] at e
  exact h (Go.WideShapes.bytes_inj e)
end Go.Proofs.YtbdhnmjmbbahhaaDoor
