/- The reference's teller as an object: what is known of others is read of rows beside it. -/
import Derived.Test.YtnkchmafofpimaaGsA
import Derived.Test.YtnkchmafofpimaaGsR
namespace Go.Proofs.Ytnkchmafofpimaa
open Go Go.RowKit Go.BigFrame

abbrev tlT (d : Nat) (self : Int) (po : Nat) (h : Nat → Bool) (k : Nat → Rg) (z : Nat → Value) : At := boxT d (.cells (tlC self po h k z).toArray 50 (0, 0))
/-- What is known can be read of R. -/
def KnowsOf (R : At) (k : Nat → Rg) (z : Nat → Value) : Prop := ∀ i, Reads elemI R (z i) (k i).p.2.2 ∧ (k i).p.2.2.length ≤ 1000
/-- A teller at d; its rows lie beside what was there before, B. -/
def tellT (d : Nat) (S : Tl) (B : At) : At := exT fun x : Nat × (Nat → Value) × List At => [prT (KnowsOf (listT (B :: x.2.2)) S.k x.2.1), tlT d S.self x.1 S.h S.k x.2.1, roT x.1 S.self S.o, listT (B :: x.2.2)]
section
variable {B A : At} {l L : List At} {H0 : Nat → Prop} {w W : World} {v : Value} {xs : List Int} {k : Nat → Rg} {z : Nat → Value}
theorem list_less {H : Nat → Prop} (h : (listT (B :: A :: l)).p W H) : ∃ H', (listT (B :: l)).p W H' := by
  obtain ⟨H1, H2, _, h2, _⟩ := star_swap h
  exact ⟨H2, h2⟩
theorem reads_add (h : Reads elemI (listT (B :: l)) v xs) : Reads elemI (listT (B :: A :: l)) v xs := fun W H hs => by
  obtain ⟨H', h'⟩ := list_less hs
  exact h W H' h'
theorem reads_first (h : Reads elemI B v xs) : Reads elemI (listT (B :: l)) v xs := fun W H hs => by
  obtain ⟨H1, _, h1, _⟩ := hs
  exact h W H1 h1
theorem reads_new (h : Reads elemI A v xs) : Reads elemI (listT (B :: A :: l)) v xs := fun W H hs => by
  obtain ⟨H1, _, h1, _⟩ := star_swap hs
  exact h W H1 h1
theorem Mem.into (h : Mem (A :: listT (B :: l) :: L) H0 w W) : Mem (listT (B :: A :: l) :: L) H0 w W :=
  SEnd.mono h fun _ h => star_mono (fun _ h => star_swap h) (fun _ h => h) (star_assoc' h)
theorem KnowsOf.add (h : KnowsOf (listT (B :: l)) k z) : KnowsOf (listT (B :: A :: l)) k z := fun i => ⟨reads_add (h i).1, (h i).2⟩
theorem KnowsOf.upd {R : At} (h : KnowsOf R k z) (i : Nat) {r : Rg} {s : Value} (hs : Reads elemI R s r.p.2.2) (hl : r.p.2.2.length ≤ 1000) : KnowsOf R (upd k i r) (upd z i s) := fun j => by
  by_cases e : j = i
  · subst e
    rw [show Proofs.Ytnkchmafofpimaa.upd k j r j = r from if_pos rfl, show Proofs.Ytnkchmafofpimaa.upd z j s j = s from if_pos rfl]
    exact ⟨hs, hl⟩
  · rw [show Proofs.Ytnkchmafofpimaa.upd k i r j = k j from if_neg e, show Proofs.Ytnkchmafofpimaa.upd z i s j = z j from if_neg e]
    exact h j
theorem Mem.tell {d : Nat} {S : Tl} (h : Mem (tellT d S B :: L) H0 w W) : ∃ po z l, KnowsOf (listT (B :: l)) S.k z ∧ Mem (tlT d S.self po S.h S.k z :: roT po S.self S.o :: listT (B :: l) :: L) H0 w W := by
  obtain ⟨x, h⟩ := Mem.ex h
  obtain ⟨hu, h⟩ := Mem.pr h
  exact ⟨x.1, x.2.1, x.2.2, hu, h⟩
theorem Mem.toTell {d po : Nat} {S : Tl} (hz : KnowsOf (listT (B :: l)) S.k z) (h : Mem (tlT d S.self po S.h S.k z :: roT po S.self S.o :: listT (B :: l) :: L) H0 w W) : Mem (tellT d S B :: L) H0 w W := Mem.addEx (po, z, l) (Mem.addPr hz h)
end
end Go.Proofs.Ytnkchmafofpimaa
