/- The landed cursor: its cells; the keys that are due, a heap. -/
import Derived.Test.YtcbnhakfijiioaaGreatFdV
import Derived.Test.YtcbnhakfijiioaaGreatPH
namespace Go.Proofs.YtcbnhakfijiioaaGreat
open Go Go.RowKit Go.BigFrame
def elemD : Elem Tryz.prog ByteArray where
 enc x := [.string x]
 k := 1
 pos := by decide
 len _ := rfl
 one _ u hu := by
  simp only [List.mem_cons, List.not_mem_nil, or_false] at hu
  subst hu
  rfl
 t := 9
 sl := 94
 under := Tryz.underlying94
 z := .string ⟨#[]⟩
 bytes := 16
 bpos := by decide
 info := by kernel_rfl
 zs := by kernel_rfl
def lessK (x y : ByteArray) : Bool := decide (ltK x y)
theorem lessK_le {x y : ByteArray} : Le lessK x y ↔ ¬ ltK y x := by
 unfold Le lessK
 exact decide_eq_false_iff_not
theorem lessK_ordered : Ordered lessK := ⟨fun x y h => decide_eq_false fun h2 => ltK_irrefl x (ltK_trans (of_decide_eq_true h) h2), fun x y z h1 h2 => by
 have a1 : ¬ ltK y x := of_decide_eq_false h1
 have a2 : ¬ ltK z y := of_decide_eq_false h2
 refine decide_eq_false fun h3 => ?_
 rcases ltK_tri x y with h | rfl | h
 ·exact a2 (ltK_trans h3 h)
 ·exact a2 h3
 ·exact a1 h⟩
def dueT (c : Nat) (n : Int) (k : ByteArray) (xs : List ByteArray) : At := exT fun s : Option Addr × Nat => [boxT c (.cells #[.int .i64 n, .string k, .slice s.1 xs.length s.2] 96 (0, 0)), rowT elemD (.slice s.1 xs.length s.2) xs]
def hdT (c : Nat) (n : Int) (k : ByteArray) (D : List ByteArray) : At := exT fun xs : List ByteArray => [prT (IsHeap lessK xs.length xs ∧ xs.Perm D), dueT c n k xs]
structure FdIn (F : Fd) : Prop where
 no : F.any = false → F.last = ⟨#[]⟩
 some : F.any = true → 0 < F.last.size
 len : F.due.length ≤ 2000
def fdT (c : Nat) (F : Fd) : At := exT fun _ : Unit => [prT (FdIn F), hdT c F.part F.last F.due]
def fdN (u : Value) (F : Fd) : At := exT fun c : Nat => [prT (u = .pointer (some ⟨c, 0, none⟩)), fdT c F]
section
variable {L : List At} {H0 : Nat → Prop} {w W : World} {c : Nat} {n : Int} {k : ByteArray} {xs D : List ByteArray} {F : Fd}
theorem Mem.due (h : Mem (dueT c n k xs :: L) H0 w W) : ∃ p m, Mem (boxT c (.cells #[.int .i64 n, .string k, .slice p xs.length m] 96 (0, 0)) :: rowT elemD (.slice p xs.length m) xs :: L) H0 w W := by
 obtain ⟨s, h⟩ := Mem.ex h
 exact ⟨s.1, s.2, h⟩
theorem Mem.toDue {p : Option Addr} {m l : Nat} (hl : xs.length = l) (h : Mem (boxT c (.cells #[.int .i64 n, .string k, .slice p l m] 96 (0, 0)) :: rowT elemD (.slice p l m) xs :: L) H0 w W) : Mem (dueT c n k xs :: L) H0 w W := by
 subst hl
 exact Mem.addEx (p, m) h
theorem Mem.hd (h : Mem (hdT c n k D :: L) H0 w W) : ∃ xs, IsHeap lessK xs.length xs ∧ xs.Perm D ∧ Mem (dueT c n k xs :: L) H0 w W := by
 obtain ⟨s, h⟩ := Mem.ex h
 obtain ⟨hu, h⟩ := Mem.pr h
 exact ⟨s, hu.1, hu.2, h⟩
theorem Mem.toHd (h1 : IsHeap lessK xs.length xs) (h2 : xs.Perm D) (h : Mem (dueT c n k xs :: L) H0 w W) : Mem (hdT c n k D :: L) H0 w W := Mem.addEx xs (Mem.addPr ⟨h1, h2⟩ h)
theorem Mem.hdPerm {D' : List ByteArray} (hp : D.Perm D') (h : Mem (hdT c n k D :: L) H0 w W) : Mem (hdT c n k D' :: L) H0 w W := by
 obtain ⟨xs, h1, h2, h⟩ := Mem.hd h
 exact Mem.toHd h1 (h2.trans hp) h
theorem Mem.fd (h : Mem (fdT c F :: L) H0 w W) : FdIn F ∧ Mem (hdT c F.part F.last F.due :: L) H0 w W := by
 obtain ⟨s, h⟩ := Mem.ex h
 exact Mem.pr h
theorem Mem.toFd (hF : FdIn F) (h : Mem (hdT c F.part F.last F.due :: L) H0 w W) : Mem (fdT c F :: L) H0 w W := Mem.addEx () (Mem.addPr hF h)
theorem Mem.fdN {u : Value} (h : Mem (fdN u F :: L) H0 w W) : ∃ c, u = .pointer (some ⟨c, 0, none⟩) ∧ Mem (fdT c F :: L) H0 w W := by
 obtain ⟨s, h⟩ := Mem.ex h
 obtain ⟨hu, h⟩ := Mem.pr h
 exact ⟨s, hu, h⟩
theorem Mem.swap2 {A B : At} (h : Mem (A :: B :: L) H0 w W) : Mem (B :: A :: L) H0 w W := SEnd.mono h fun _ h => star_swap h
theorem Mem.nilDue (h : Mem (boxT c (.cells #[.int .i64 n, .string k, .slice none 0 0] 96 (0, 0)) :: L) H0 w W) : Mem (dueT c n k [] :: L) H0 w W := Mem.toDue (p := none) (m := 0) rfl (Mem.swap2 (Mem.nilRow elemD h))
theorem Mem.nilHd (h : Mem (boxT c (.cells #[.int .i64 n, .string k, .slice none 0 0] 96 (0, 0)) :: L) H0 w W) : Mem (hdT c n k [] :: L) H0 w W := Mem.toHd (xs := []) (fun k _ hk => absurd hk (Nat.not_lt_zero k)) (List.Perm.refl _) (Mem.nilDue h)
end
end Go.Proofs.YtcbnhakfijiioaaGreat
