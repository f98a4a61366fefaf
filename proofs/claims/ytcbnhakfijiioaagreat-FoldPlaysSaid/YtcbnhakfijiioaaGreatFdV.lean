/- Cursors: what Next hands back. -/
import Derived.Test.YtcbnhakfijiioaaGreatPM
import Derived.Test.YtcbnhakfijiioaaGreatBgV
namespace Go.Proofs.YtcbnhakfijiioaaGreat
open Go Go.RowKit Go.BigFrame
def prC (k : ByteArray) (f : Nat → Int) (sl : Value) : List Value := .string k :: bgC f sl
abbrev prV (k : ByteArray) (f : Nat → Int) (sl : Value) : Value := .agg (prC k f sl).toArray
section
variable {k : ByteArray} {f : Nat → Int} {sl : Value}
theorem prC_key : (prC k f sl)[0]? = some (.string k) := rfl
theorem prC_bag : ∀ i u, (bgC f sl)[i]? = some u → (prC k f sl)[1 + i]? = some u := fun i u h => by rw [Nat.add_comm]; exact h
theorem prC_all : ∀ i u, (prC k f sl)[i]? = some u → (prC k f sl)[0 + i]? = some u := fun i u h => by rwa [Nat.zero_add]
theorem prC_one (p : Option Addr) (n c : Nat) : ((prC k f (.slice p n c)).all Value.oneCell') = true := by kernel_rfl
end
def pairT (u : Value) (k : ByteArray) (x : Bg) (b : Bool) : At := exT fun s : Option Addr × Nat => [prT (u = .tuple #[prV k x.k (.slice s.1 x.v.length s.2), .bool b]), rowT elemV (.slice s.1 x.v.length s.2) x.v]
theorem Mem.pair {u : Value} {k : ByteArray} {x : Bg} {b : Bool} {n : Nat} {L : List At} {H0 : Nat → Prop} {w W : World} (hn : x.v.length = n) (h : Mem (pairT u k x b :: L) H0 w W) : ∃ p c, u = .tuple #[prV k x.k (.slice p n c), .bool b] ∧ Mem (rowT elemV (.slice p n c) x.v :: L) H0 w W := by
 subst hn
 obtain ⟨s, h⟩ := Mem.ex h
 obtain ⟨hu, h⟩ := Mem.pr h
 exact ⟨s.1, s.2, hu, h⟩
def nextTl (F : Fd) (S : Vt) : ByteArray × Bg × Bool :=
 match (nextF F (keysV S F.part)).2 with
 | some k => (k, bagV S k, true)
 | none => (⟨#[]⟩, noB, false)
theorem nextTl_some {F : Fd} {S : Vt} {k : ByteArray} (h : (nextF F (keysV S F.part)).2 = some k) : nextTl F S = (k, bagV S k, true) := by
 unfold nextTl
 rw [h]
theorem nextTl_none {F : Fd} {S : Vt} (h : (nextF F (keysV S F.part)).2 = none) : nextTl F S = (⟨#[]⟩, noB, false) := by
 unfold nextTl
 rw [h]
end Go.Proofs.YtcbnhakfijiioaaGreat
