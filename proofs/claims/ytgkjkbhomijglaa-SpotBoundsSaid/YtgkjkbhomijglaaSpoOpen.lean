/- Arguments opened: a text, a byte. -/
import Derived.Test.YtgkjkbhomijglaaOpenRow
import Derived.ChangeMaps5
namespace Go.Proofs.Ytgkjkbhomijglaa
open Go Go.ChangeShapes Go.WideShapes Go.ChangeAt Go.RowKit Go.Joins Go.ChangeMaps
section
variable {H : Type} {enc : TypeId × Value → H} {w : World} {base : Nat} {spare : Nat → Bool} {held : Bool}
theorem open_str {b0 : Nat} {v : Value} {d : DataW H} {ps : List MemPlace} (hval : Value.okWide Try.prog w .any b0 9 v) (hd : DataW.Trod enc Try.prog w base spare held 9 v d ps) : ∃ s : ByteArray, v = .string s := by
  obtain ⟨s, h, _⟩ := open_string Try.underlying9 hval hd
  exact ⟨s, h⟩
theorem open_byte {b0 : Nat} {v : Value} {d : DataW H} {ps : List MemPlace} (hval : Value.okWide Try.prog w .any b0 5 v) (hd : DataW.Trod enc Try.prog w base spare held 5 v d ps) : ∃ c : UInt8, v = .int .u8 (c.toNat : Int) := by
  obtain ⟨n, h, _, _, hn⟩ := open_int Try.underlying5 hval hd
  have h2 : (0 : Int) ≤ n ∧ n ≤ 255 := by
    have h3 : (decide ((0 : Int) ≤ n) && decide (n ≤ 255)) = true := hn
    rw [Bool.and_eq_true] at h3
    exact ⟨of_decide_eq_true h3.1, of_decide_eq_true h3.2⟩
  refine ⟨UInt8.ofNat n.toNat, ?_⟩
  have e : ((UInt8.ofNat n.toNat).toNat : Int) = n := by
    rw [UInt8.toNat_ofNat']
    omega
  rw [h, e]
end
end Go.Proofs.Ytgkjkbhomijglaa
