/- LgD: LgC, LgH, LgD. -/
import Derived.Test.YtcchkkdbagpgjaaGreatQ11
import Derived.Test.YtcchkkdbagpgjaaGreatBgO
import Derived.Test.YtcchkkdbagpgjaaGreatQ12
import Derived.Test.YtcchkkdbagpgjaaGreatBgE
namespace Go.Proofs.YtcchkkdbagpgjaaGreat
section
open Go Go.ChangeShapes Go.WideShapes Go.ChangeAt Go.RowKit Go.Joins Go.BigFrame
section
variable {H : Type} {P : Program}
theorem weights_part {t : TypeId} {fs : Array Field} {ds : List (DataW H)} {n : Nat} (hu : P.underlying t = some (.struct fs)) (h : n ∈ DataW.weightsEach P (fs.toList.map fun f => f.type) ds) : n ∈ DataW.weights P t (.agg ds) := by
 simp only [DataW.weights, hu]
 exact h
end
theorem src_form {α : Type} {E : Elem Tryz.prog α} {W : World} {v : Value} {l : List α} (h : SrcE E W v l) : ∃ p c, v = .slice p l.length c := by
 obtain ⟨_, p, c, e, _⟩ := h
 exact ⟨p, c, e⟩
structure CallL where
 op : Int
 n : Int
 x : Dx
instance : Inhabited CallL := ⟨⟨0, 0, default⟩⟩
end
section
open Go Go.ChangeShapes Go.WideShapes Go.ChangeAt Go.RowKit Go.Joins Go.BigFrame
section
variable {H : Type} {enc : TypeId × Value → H} {w : World} {base : Nat} {spare : Nat → Bool} {held : Bool}
theorem reach_fit {ts : List TypeId} {ds : List (DataW H)} {j : Nat} {t : TypeId} {d : DataW H} (hsz : (DataW.weightsEach Tryz.prog ts ds).all (· ≤ reachBytes) = true) (ht : ts[j]? = some t) (hd : ds[j]? = some d) : ∀ n ∈ DataW.weights Tryz.prog t d, n ≤ 140737488351232 := fun n hn => of_decide_eq_true (List.all_eq_true.1 hsz n (DataW.weights_mem_each ht hd n hn))
end
end
end Go.Proofs.YtcchkkdbagpgjaaGreat
