/- BgO: BgO. -/
import Derived.Test.YthaabnlhhfnalaaPB
import Derived.Test.YthaabnlhhfnalaaVcT
import Derived.Test.YthaabnlhhfnalaaBgE
import Derived.ChangeMaps5
namespace Go.Proofs.Ythaabnlhhfnalaa
section
open Go Go.ChangeShapes Go.WideShapes Go.ChangeAt Go.RowKit Go.Joins Go.ChangeMaps
section
variable {H : Type} {enc : TypeId × Value → H} {w : World} {base : Nat} {spare : Nat → Bool} {held : Bool}
set_option maxRecDepth 100000 in
theorem open_str {b0 : Nat} {v : Value} {d : DataW H} {ps : List MemPlace} (hval : Value.okWide Try.prog w .any b0 9 v) (hd : DataW.Trod enc Try.prog w base spare held 9 v d ps) : ∃ s : ByteArray, v = .string s := by
 obtain ⟨s, h, _⟩ := open_string Try.underlying9 hval hd
 exact ⟨s, h⟩
set_option maxRecDepth 100000 in
theorem readV : Readable elemV where
 cells := by kernel_rfl
 bytes := by kernel_rfl
 read {H enc w base spare held fuel cs x} h := by
  have cellsD : Try.prog.cellsOf 54 = 2 := by kernel_rfl
  have cellsS : Try.prog.cellsOf 9 = 1 := by kernel_rfl
  have cellsE : Try.prog.cellsOf 70 = 3 := by kernel_rfl
  obtain ⟨xs, n, _, _, hlen, hxs, hf⟩ := DataW.trod_struct Try.underlying70 h
  have h0 : DataW.trod enc Try.prog w base spare held n 54 ((cs.drop 0).take (Try.prog.cellsOf 54)) = xs[0]? := hf 0 _ rfl
  have h1 : DataW.trod enc Try.prog w base spare held n 9 ((cs.drop 2).take (Try.prog.cellsOf 9)) = xs[1]? := hf 1 _ rfl
  rw [cellsD] at h0
  rw [cellsS] at h1
  simp only [List.size_toArray, List.length_cons, List.length_nil, Nat.zero_add, Nat.reduceAdd] at hxs
  match cs, hlen.trans cellsE with
  | [a, b, c], _ =>
   match xs, hxs with
   | [y0, y1], _ =>
    obtain ⟨y, e0⟩ := read_dot (h0.trans rfl)
    obtain ⟨s, e1, _⟩ := DataW.trod_string Try.underlying9 (h1.trans rfl)
    simp at e0 e1
    obtain ⟨e2, e3⟩ := e0
    subst e1 e2 e3
    exact ⟨(y, s), rfl⟩
set_option maxRecDepth 100000 in
theorem read_bag {fuel : Nat} {cs : List Value} {x : DataW H × List MemPlace} (h : DataW.trod enc Try.prog w base spare held fuel 43 cs = some x) :
  ∃ (f : Nat → Int) (v : Value) (l : List Vl), cs = bgC f v ∧ SrcE elemV w v l ∧ (l = [] ∨ ∃ d0 es sp, x.1 = .agg [d0, .slice es sp] ∧ es.length = l.length) := by
 have cellsV : Try.prog.cellsOf 40 = 8 := by kernel_rfl
 have cellsR : Try.prog.cellsOf 41 = 1 := by kernel_rfl
 have cellsB : Try.prog.cellsOf 43 = 9 := by kernel_rfl
 obtain ⟨xs, n, _, hx, hlen, hxs, hf⟩ := DataW.trod_struct Try.underlying43 h
 have h0 : DataW.trod enc Try.prog w base spare held n 40 ((cs.drop 0).take (Try.prog.cellsOf 40)) = xs[0]? := hf 0 _ rfl
 have h1 : DataW.trod enc Try.prog w base spare held n 41 ((cs.drop 8).take (Try.prog.cellsOf 41)) = xs[1]? := hf 1 _ rfl
 rw [cellsV] at h0
 rw [cellsR] at h1
 rw [cellsB] at hlen
 simp only [List.size_toArray, List.length_cons, List.length_nil, Nat.zero_add, Nat.reduceAdd] at hxs
 match xs, hxs with
 | [y0, y1], _ =>
  obtain ⟨f, e0⟩ := read_vec (h0.trans rfl)
  obtain ⟨v, l, e1, hl, hd⟩ := open_elems readV (h1.trans rfl)
  refine ⟨f, v, l, ?_, hl, ?_⟩
  ·rw [List.drop_zero] at e0
   rw [List.take_of_length_le (by rw [List.length_drop, hlen]; decide)] at e1
   rw [← List.take_append_drop 8 cs, e0, e1]
   rfl
  ·rcases hd with hd | ⟨es, sp, he, hn⟩
   ·exact .inl hd
   ·refine .inr ⟨y0.1, es, sp, ?_, hn⟩
    rw [hx]
    show DataW.agg [y0.1, y1.1] = _
    rw [he]
def bagZero : Value := bgV (fun _ => 0) (.slice none 0 0)
def bagD : DataW H := .agg [vecD, .nil]
set_option maxRecDepth 100000 in
theorem open_bag {r : Reach} {b0 : Nat} {v : Value} {d : DataW H} {p : List MemPlace} (hv : Value.okWide Try.prog w r b0 43 v) (h : DataW.Trod enc Try.prog w base spare held 43 v d p) :
  ∃ c : (Nat → Int) × Value × List Vl, v = bgV c.1 c.2.1 ∧ SrcE elemV w c.2.1 c.2.2 ∧ (c.2.2 = [] ∨ ∃ d0 es sp, d = .agg [d0, .slice es sp] ∧ es.length = c.2.2.length) := by
 obtain ⟨cs, rfl, _⟩ := okWide_struct Try.underlying43 hv
 obtain ⟨fuel, hf⟩ := h
 obtain ⟨f, s, l, hc, hs, hd⟩ := read_bag hf
 refine ⟨(f, s, l), ?_, hs, hd⟩
 congr 1
 apply Array.toList_inj.1
 simpa [Value.cells] using hc
set_option maxRecDepth 100000 in
theorem reach_bag {ts : List TypeId} {ds : List (DataW H)} {j : Nat} {d : DataW H} {l : List Vl} (hsz : (DataW.weightsEach Try.prog ts ds).all (· ≤ reachBytes) = true) (ht : ts[j]? = some 43) (hd : ds[j]? = some d) (h : l = [] ∨ ∃ d0 es sp, d = .agg [d0, .slice es sp] ∧ es.length = l.length) : l.length * 32 ≤ 140737488351232 := by
 rcases h with rfl | ⟨d0, es, sp, rfl, hl⟩
 ·simp
 ·have hb : Try.prog.bytesOf 70 = 32 := by kernel_rfl
  have := List.all_eq_true.1 hsz _ (DataW.weights_mem_each ht hd ((es.length + sp.length) * Try.prog.bytesOf 70) (by simp [DataW.weights, DataW.weightsEach, Try.underlying43, Try.underlying41]))
  rw [hb] at this
  have h2 : (es.length + sp.length) * 32 ≤ 140737488351232 := of_decide_eq_true this
  omega
end
end
end Go.Proofs.Ythaabnlhhfnalaa
