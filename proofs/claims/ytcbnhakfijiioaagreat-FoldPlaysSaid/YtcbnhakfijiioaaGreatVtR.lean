/- Vaults: what VaultLasts keeps: all that is sure is there. -/
import Derived.Test.YtcbnhakfijiioaaGreatVtQ
import Derived.Test.YtcbnhakfijiioaaGreatVtK
import Derived.Test.YtcbnhakfijiioaaGreatPB
namespace Go.Proofs.YtcbnhakfijiioaaGreat
open Go Go.RowKit
structure Hv where
 b : Bg
 p : Option Addr
 n : Nat
 c : Nat
def valB (x : Hv) : Value := bgV x.b.k (.slice x.p x.n x.c)
theorem Mem.nilL {L : List At} {H0 : Nat → Prop} {w W : World} (h : Mem L H0 w W) : Mem (listT [] :: L) H0 w W := SEnd.mono h fun _ h => starl_emp h
theorem Mp.mem_put' {κ α : Type} [DecidableEq κ] {M : Mp κ α} (hM : MpOk M) {k : κ} {a : α} {e : κ × α × Nat} (h : e ∈ (M.put k a).es) : (e.1 ≠ k ∧ e ∈ M.es) ∨ (e.1 = k ∧ e.2.1 = a) := by
 have h1 : (M.put k a).get e.1 = some e.2.1 := getE_of (hM.put k a).keys h
 rw [Mp.get_put] at h1
 by_cases hk : e.1 = k
 ·rw [if_pos hk] at h1
  exact .inr ⟨hk, (Option.some.inj h1).symm⟩
 ·rcases Mp.mem_put h with h2 | h2
  ·exact .inl ⟨hk, h2⟩
  ·exact absurd h2.1 hk
theorem bagV_may {S : Vt} (h : VtOk S) (k : ByteArray) : MayB (bagV S k) := by
 unfold bagV
 cases hg : getK S.b k with
 | none => exact may_noB
 | some x => exact h.may _ (getK_mem hg)
theorem bagV_len {S : Vt} (h : VtOk S) (k : ByteArray) : (bagV S k).v.length ≤ 32 := (bagV_may h k).len
section
variable {X Y : Vl2} {M M' : Mp ByteArray Hv} {D : Mp En Int} {top : Int} {rs : List At} {i : Nat}
theorem keyB_size {k : ByteArray} (h : keyB k = true) : k.size ≤ 32 := by
 unfold keyB at h
 exact (of_decide_eq_true h).2
end
end Go.Proofs.YtcbnhakfijiioaaGreat
