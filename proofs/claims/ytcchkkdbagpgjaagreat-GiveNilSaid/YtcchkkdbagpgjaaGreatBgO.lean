/- BgO: BgO. -/
import Derived.Test.YtcchkkdbagpgjaaGreatPB
import Derived.Test.YtcchkkdbagpgjaaGreatVcT
import Derived.Test.YtcchkkdbagpgjaaGreatBgE
import Derived.ChangeMaps5
namespace Go.Proofs.YtcchkkdbagpgjaaGreat
section
open Go Go.ChangeShapes Go.WideShapes Go.ChangeAt Go.RowKit Go.Joins Go.ChangeMaps
section
variable {H : Type} {enc : TypeId × Value → H} {w : World} {base : Nat} {spare : Nat → Bool} {held : Bool}
set_option maxRecDepth 100000 in
theorem readV : Readable elemV where
 cells := by kernel_rfl
 bytes := by kernel_rfl
 read {H enc w base spare held fuel cs x} h := by
  have cellsD : Tryz.prog.cellsOf 72 = 2 := by kernel_rfl
  have cellsS : Tryz.prog.cellsOf 9 = 1 := by kernel_rfl
  have cellsE : Tryz.prog.cellsOf 140 = 3 := by kernel_rfl
  obtain ⟨xs, n, _, _, hlen, hxs, hf⟩ := DataW.trod_struct Tryz.underlying140 h
  have h0 : DataW.trod enc Tryz.prog w base spare held n 72 ((cs.drop 0).take (Tryz.prog.cellsOf 72)) = xs[0]? := hf 0 _ rfl
  have h1 : DataW.trod enc Tryz.prog w base spare held n 9 ((cs.drop 2).take (Tryz.prog.cellsOf 9)) = xs[1]? := hf 1 _ rfl
  rw [cellsD] at h0
  rw [cellsS] at h1
  simp only [List.size_toArray, List.length_cons, List.length_nil, Nat.zero_add, Nat.reduceAdd] at hxs
  match cs, hlen.trans cellsE with
  | [a, b, c], _ =>
   match xs, hxs with
   | [y0, y1], _ =>
    obtain ⟨y, e0⟩ := read_dot (h0.trans rfl)
    obtain ⟨s, e1, _⟩ := DataW.trod_string Tryz.underlying9 (h1.trans rfl)
    simp at e0 e1
    obtain ⟨e2, e3⟩ := e0
    subst e1 e2 e3
    exact ⟨(y, s), rfl⟩
set_option maxRecDepth 100000 in
theorem read_bag {fuel : Nat} {cs : List Value} {x : DataW H × List MemPlace} (h : DataW.trod enc Tryz.prog w base spare held fuel 41 cs = some x) :
  ∃ (f : Nat → Int) (v : Value) (l : List Vl), cs = bgC f v ∧ SrcE elemV w v l ∧ (l = [] ∨ ∃ d0 es sp, x.1 = .agg [d0, .slice es sp] ∧ es.length = l.length) := by
 have cellsV : Tryz.prog.cellsOf 38 = 8 := by kernel_rfl
 have cellsR : Tryz.prog.cellsOf 39 = 1 := by kernel_rfl
 have cellsB : Tryz.prog.cellsOf 41 = 9 := by kernel_rfl
 obtain ⟨xs, n, _, hx, hlen, hxs, hf⟩ := DataW.trod_struct Tryz.underlying41 h
 have h0 : DataW.trod enc Tryz.prog w base spare held n 38 ((cs.drop 0).take (Tryz.prog.cellsOf 38)) = xs[0]? := hf 0 _ rfl
 have h1 : DataW.trod enc Tryz.prog w base spare held n 39 ((cs.drop 8).take (Tryz.prog.cellsOf 39)) = xs[1]? := hf 1 _ rfl
 rw [cellsV] at h0
 rw [cellsR] at h1
 rw [cellsB] at hlen
 simp only [List.size_toArray, List.length_cons, List.length_nil, Nat.zero_add, Nat.reduceAdd] at hxs
 match xs, hxs with
 | [y0, y1], _ =>
  obtain ⟨f, e0⟩ := read_vec (h0.trans rfl)
  obtain ⟨v, l, e1, hl, hd⟩ := open_elems readV (h1.trans rfl)
  refine ⟨f, v, l, ?_, hl, ?_⟩
  ·rw [List.drop_zero] at e0
   rw [List.take_of_length_le (by rw [List.length_drop, hlen]; decide)] at e1
   rw [← List.take_append_drop 8 cs, e0, e1]
   rfl
  ·rcases hd with hd | ⟨es, sp, he, hn⟩
   ·exact .inl hd
   ·refine .inr ⟨y0.1, es, sp, ?_, hn⟩
    rw [hx]
    show DataW.agg [y0.1, y1.1] = _
    rw [he]
def bagD : DataW H := .agg [vecD, .nil]
end
end
end Go.Proofs.YtcchkkdbagpgjaaGreat
