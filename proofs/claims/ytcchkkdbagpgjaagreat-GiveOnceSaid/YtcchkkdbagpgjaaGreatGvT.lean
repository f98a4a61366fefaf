/- Givers: GiveAgain. -/
import Derived.Test.YtcchkkdbagpgjaaGreatQ11
import Derived.Test.YtcchkkdbagpgjaaGreatGvS
import Derived.Test.YtcchkkdbagpgjaaGreatQ15
import Derived.Test.YtcchkkdbagpgjaaGreatPA
namespace Go.Proofs.YtcchkkdbagpgjaaGreat
open Go Go.RowKit Go.BigFrame
def kV20 : ByteArray := ⟨#[118]⟩
theorem few_of {f : List Ms} {xs : List Mx} (hx : xs.map (fun x => x.m) = f) (hf : ∀ m ∈ f, m.b.v.length ≤ 32) {x : Mx} (hm : x ∈ xs) : x.m.b.v.length ≤ 4398046510976 := Nat.le_trans (hf _ (hx ▸ List.mem_map.2 ⟨x, hm, rfl⟩)) (by decide)
theorem first_few {S : Vt} (hS : VtOk S) {ep P : Int} {G : Gv} {f : List Ms} (h : tickG (newG 0 P ep 1) S = (G, f)) {ks : List ByteArray} {n : Nat} {a : Int} (hA : Ag ep P ks f n G a) : ∀ m ∈ f, m.b.v.length ≤ 32 := fun m hm => by
 have h1 := first_bags h m hm (by
  rw [← hA.ms] at hm
  obtain ⟨o, _, rfl⟩ := List.mem_map.1 hm
  rfl)
 rw [h1.1]
 exact bagV_len hS _
end Go.Proofs.YtcchkkdbagpgjaaGreat
