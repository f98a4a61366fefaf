/- A law of stage 19, for whatever arguments a caller hands over. -/
import Derived.Test.YtcbnhakfijiioaaGreatRgT
import Derived.Test.YtcbnhakfijiioaaGreatFrF
namespace Go.Proofs.YtcbnhakfijiioaaGreat
open Go Go.ChangeShapes Go.WideShapes Go.ChangeAt Go.RowKit Go.BigFrame
set_option maxRecDepth 100000 in
theorem readQ_cells {H : Type} {enc : TypeId × Value → H} {w : World} {base : Nat} {spare : Nat → Bool} {held : Bool} {fuel : Nat} {cs : List Value} {x : DataW H × List MemPlace} (h : DataW.trod enc Tryz.prog w base spare held fuel 37 cs = some x) : ∃ y : Int × Int, cs = [.int .i64 y.1, .int .i64 y.2] := by
 have cellsInt : Tryz.prog.cellsOf 3 = 1 := by kernel_rfl
 have cellsE : Tryz.prog.cellsOf 37 = 2 := by kernel_rfl
 obtain ⟨xs, n, _, _, hlen, hxs, hf⟩ := DataW.trod_struct Tryz.underlying37 h
 have h0 : DataW.trod enc Tryz.prog w base spare held n 3 ((cs.drop 0).take (Tryz.prog.cellsOf 3)) = xs[0]? := hf 0 _ rfl
 have h1 : DataW.trod enc Tryz.prog w base spare held n 3 ((cs.drop 1).take (Tryz.prog.cellsOf 3)) = xs[1]? := hf 1 _ rfl
 rw [cellsInt] at h0 h1
 simp only [List.size_toArray, List.length_cons, List.length_nil, Nat.zero_add, Nat.reduceAdd] at hxs
 match cs, hlen.trans cellsE with
 | [a, b], _ =>
  match xs, hxs with
  | [y0, y1], _ =>
   obtain ⟨n0, e0, _⟩ := DataW.trod_int Tryz.underlying3 (h0.trans rfl)
   obtain ⟨n1, e1, _⟩ := DataW.trod_int Tryz.underlying3 (h1.trans rfl)
   simp at e0 e1
   subst e0 e1
   exact ⟨(n0, n1), rfl⟩
theorem readQ : Readable elemQ where
 cells := by kernel_rfl
 bytes := by kernel_rfl
 read h := readQ_cells h
theorem playsLaw (n : Int) (v : Value) (l : List (Int × Int)) (W : World) (h : RowAt elemQ W v l) (_ : l.length ≤ 140737488351232) : Gives Tryz.prog 3 #[.int .i64 n, v] W (.bool true) := (fplays_d (oldT W) v l (fun _ _ g => OldA.row g h) n).givesOld
end Go.Proofs.YtcbnhakfijiioaaGreat
