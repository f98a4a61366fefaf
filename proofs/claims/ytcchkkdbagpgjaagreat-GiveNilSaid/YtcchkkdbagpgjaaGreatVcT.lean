/- VcT: VcT. -/
import Derived.Test.YtcchkkdbagpgjaaGreatPB
import Derived.Test.YtcchkkdbagpgjaaGreatBgV
import Derived.Test.YtcchkkdbagpgjaaGreatQ11
namespace Go.Proofs.YtcchkkdbagpgjaaGreat
section
open Go Go.ChangeShapes Go.WideShapes Go.ChangeAt Go.RowKit Go.Joins
set_option maxRecDepth 100000 in
theorem read_dot {H : Type} {enc : TypeId × Value → H} {w : World} {base : Nat} {spare : Nat → Bool} {held : Bool} {fuel : Nat} {cs : List Value} {x : DataW H × List MemPlace} (h : DataW.trod enc Tryz.prog w base spare held fuel 72 cs = some x) : ∃ y : En, cs = [.int .i64 y.1, .int .i64 y.2] := by
 have cellsInt : Tryz.prog.cellsOf 3 = 1 := by kernel_rfl
 have cellsE : Tryz.prog.cellsOf 72 = 2 := by kernel_rfl
 obtain ⟨xs, n, _, _, hlen, hxs, hf⟩ := DataW.trod_struct Tryz.underlying72 h
 have h0 : DataW.trod enc Tryz.prog w base spare held n 3 ((cs.drop 0).take (Tryz.prog.cellsOf 3)) = xs[0]? := hf 0 _ rfl
 have h1 : DataW.trod enc Tryz.prog w base spare held n 3 ((cs.drop 1).take (Tryz.prog.cellsOf 3)) = xs[1]? := hf 1 _ rfl
 rw [cellsInt] at h0 h1
 simp only [List.size_toArray, List.length_cons, List.length_nil, Nat.zero_add, Nat.reduceAdd] at hxs
 match cs, hlen.trans cellsE with
 | [a, b], _ =>
  match xs, hxs with
  | [y0, y1], _ =>
   obtain ⟨n0, e0, _⟩ := DataW.trod_int Tryz.underlying3 (h0.trans rfl)
   obtain ⟨n1, e1, _⟩ := DataW.trod_int Tryz.underlying3 (h1.trans rfl)
   simp at e0 e1
   subst e0 e1
   exact ⟨(n0, n1), rfl⟩
def vecD {H : Type} : DataW H := .agg (List.replicate 8 (.lit (.int .i64 0)))
def getV : Option Value → Int
 | some (.int _ n) => n
 | _ => 0
theorem getV_of {o : Option Value} {n : Int} (h : o = some (.int .i64 n)) : o = some (.int .i64 (getV o)) := by
 rw [h]
 rfl
set_option maxRecDepth 100000 in
theorem read_vec {H : Type} {enc : TypeId × Value → H} {w : World} {base : Nat} {spare : Nat → Bool} {held : Bool} {fuel : Nat} {cs : List Value} {x : DataW H × List MemPlace} (h : DataW.trod enc Tryz.prog w base spare held fuel 38 cs = some x) : ∃ f : Nat → Int, cs = vcC f := by
 have cInt : Tryz.prog.cellsOf 3 = 1 := by kernel_rfl
 have cV : Tryz.prog.cellsOf 38 = 8 := by kernel_rfl
 obtain ⟨zs, m, _, _, hlen, hzl, hz⟩ := DataW.trod_array Tryz.underlying38 h
 rw [cV] at hlen
 refine ⟨fun i => getV cs[i]?, ?_⟩
 apply List.ext_getElem?
 intro k
 by_cases h8 : k < 8
 ·rw [vcC_at h8]
  have h3 := hz k h8
  rw [cInt, Nat.mul_one, List.getElem?_eq_getElem (by omega)] at h3
  obtain ⟨n0, e0, _⟩ := DataW.trod_int Tryz.underlying3 h3
  have h4 : ((cs.drop k).take 1)[0]? = some (.int .i64 n0) := by rw [e0]; rfl
  rw [List.getElem?_take, if_pos (by decide), List.getElem?_drop] at h4
  exact getV_of h4
 ·rw [List.getElem?_eq_none (by omega), List.getElem?_eq_none (by rw [vcC_len]; omega)]
end
end Go.Proofs.YtcchkkdbagpgjaaGreat
