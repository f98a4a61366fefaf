/- RgT: RgT. -/
import Derived.Test.YtcbnhakfijiioaaGreatPB
import Derived.Test.YtcbnhakfijiioaaGreatRgE
namespace Go.Proofs.YtcbnhakfijiioaaGreat
section
open Go Go.ChangeShapes Go.WideShapes Go.ChangeAt Go.RowKit Go.Joins
set_option maxRecDepth 100000 in
theorem readI : Readable elemI where
 cells := by kernel_rfl
 bytes := by kernel_rfl
 read h := by
  obtain ⟨n, e, _⟩ := DataW.trod_int Tryz.underlying3 h
  exact ⟨n, e⟩
set_option maxRecDepth 100000 in
theorem read_plan {H : Type} {enc : TypeId × Value → H} {w : World} {base : Nat} {spare : Nat → Bool} {held : Bool} {fuel : Nat} {cs : List Value} {x : DataW H × List MemPlace} (h : DataW.trod enc Tryz.prog w base spare held fuel 73 cs = some x) : ∃ y : Int × Int × Value × List Int, cs = [.int .i64 y.1, .int .i64 y.2.1, y.2.2.1] ∧ SrcE elemI w y.2.2.1 y.2.2.2 := by
 have cellsInt : Tryz.prog.cellsOf 3 = 1 := by kernel_rfl
 have cellsRow : Tryz.prog.cellsOf 70 = 1 := by kernel_rfl
 have cellsP : Tryz.prog.cellsOf 73 = 3 := by kernel_rfl
 obtain ⟨xs, n, _, _, hlen, hxs, hf⟩ := DataW.trod_struct Tryz.underlying73 h
 have h0 : DataW.trod enc Tryz.prog w base spare held n 3 ((cs.drop 0).take (Tryz.prog.cellsOf 3)) = xs[0]? := hf 0 _ rfl
 have h1 : DataW.trod enc Tryz.prog w base spare held n 3 ((cs.drop 1).take (Tryz.prog.cellsOf 3)) = xs[1]? := hf 1 _ rfl
 have h2 : DataW.trod enc Tryz.prog w base spare held n 70 ((cs.drop 2).take (Tryz.prog.cellsOf 70)) = xs[2]? := hf 2 _ rfl
 rw [cellsInt] at h0 h1
 rw [cellsRow] at h2
 simp only [List.size_toArray, List.length_cons, List.length_nil, Nat.zero_add, Nat.reduceAdd] at hxs
 match cs, hlen.trans cellsP with
 | [a, b, c], _ =>
  match xs, hxs with
  | [y0, y1, y2], _ =>
   obtain ⟨n0, e0, _⟩ := DataW.trod_int Tryz.underlying3 (h0.trans rfl)
   obtain ⟨n1, e1, _⟩ := DataW.trod_int Tryz.underlying3 (h1.trans rfl)
   obtain ⟨v, l, e2, hl, _⟩ := open_elems readI (h2.trans rfl)
   simp at e0 e1 e2
   subst e0 e1 e2
   exact ⟨(n0, n1, c, l), rfl, hl⟩
def ringZero : Value := rgV noR (.slice none 0 0)
def statD {H : Type} : DataW H := .agg (List.replicate 8 (.lit (.int .i64 0)))
def partsD {H : Type} : DataW H := .agg (List.replicate 16 (.agg [.lit (.int .i64 0), .lit (.int .i64 0)]))
def ringZeroD {H : Type} : DataW H := .agg [statD, .agg [.lit (.int .i64 0), .lit (.int .i64 0), .nil], partsD]
def getI : Option Value → Int
 | some (.int _ n) => n
 | _ => 0
set_option maxRecDepth 100000 in
theorem getI_of {o : Option Value} {n : Int} (h : o = some (.int .i64 n)) : o = some (.int .i64 (getI o)) := by
 rw [h]
 rfl
set_option maxRecDepth 100000 in
theorem drop_take_at {cs : List Value} {o n k : Nat} (hk : k < n) : ((cs.drop o).take n)[k]? = cs[o + k]? := by rw [List.getElem?_take, if_pos hk, List.getElem?_drop]
set_option maxRecDepth 100000 in
theorem one_at {cs : List Value} {o : Nat} {u : Value} (h : (cs.drop o).take 1 = [u]) : cs[o]? = some u := by
 have h1 := drop_take_at (cs := cs) (o := o) (n := 1) (k := 0) (by decide)
 rw [h] at h1
 exact h1.symm
set_option maxRecDepth 100000 in
theorem read_ent {H : Type} {enc : TypeId × Value → H} {w : World} {base : Nat} {spare : Nat → Bool} {held : Bool} {fuel : Nat} {cs : List Value} {x : DataW H × List MemPlace} (h : DataW.trod enc Tryz.prog w base spare held fuel 75 cs = some x) : ∃ a b, cs = [.int .i64 a, .int .i64 b] := by
 have cellsInt : Tryz.prog.cellsOf 3 = 1 := by kernel_rfl
 have cellsE : Tryz.prog.cellsOf 75 = 2 := by kernel_rfl
 obtain ⟨xs, n, _, _, hlen, hxs, hf⟩ := DataW.trod_struct Tryz.underlying75 h
 have h0 : DataW.trod enc Tryz.prog w base spare held n 3 ((cs.drop 0).take (Tryz.prog.cellsOf 3)) = xs[0]? := hf 0 _ rfl
 have h1 : DataW.trod enc Tryz.prog w base spare held n 3 ((cs.drop 1).take (Tryz.prog.cellsOf 3)) = xs[1]? := hf 1 _ rfl
 rw [cellsInt] at h0 h1
 simp only [List.size_toArray, List.length_cons, List.length_nil, Nat.zero_add, Nat.reduceAdd] at hxs
 match cs, hlen.trans cellsE with
 | [a, b], _ =>
  match xs, hxs with
  | [y0, y1], _ =>
   obtain ⟨n0, e0, _⟩ := DataW.trod_int Tryz.underlying3 (h0.trans rfl)
   obtain ⟨n1, e1, _⟩ := DataW.trod_int Tryz.underlying3 (h1.trans rfl)
   simp at e0 e1
   subst e0 e1
   exact ⟨n0, n1, rfl⟩
set_option maxRecDepth 100000 in
theorem read_ring {H : Type} {enc : TypeId × Value → H} {w : World} {base : Nat} {spare : Nat → Bool} {held : Bool} {fuel : Nat} {cs : List Value} {x : DataW H × List MemPlace} (h : DataW.trod enc Tryz.prog w base spare held fuel 78 cs = some x) : ∃ y : Rg × Value, cs = rgC y.1 y.2 ∧ SrcE elemI w y.2 y.1.p.2.2 := by
 have cInt : Tryz.prog.cellsOf 3 = 1 := by kernel_rfl
 have cE : Tryz.prog.cellsOf 75 = 2 := by kernel_rfl
 have cS : Tryz.prog.cellsOf 39 = 8 := by kernel_rfl
 have cP : Tryz.prog.cellsOf 73 = 3 := by kernel_rfl
 have cPs : Tryz.prog.cellsOf 76 = 32 := by kernel_rfl
 have cR : Tryz.prog.cellsOf 78 = 43 := by kernel_rfl
 obtain ⟨xs, n, _, _, hlen, hxs, hf⟩ := DataW.trod_struct Tryz.underlying78 h
 have h0 : DataW.trod enc Tryz.prog w base spare held n 39 ((cs.drop 0).take (Tryz.prog.cellsOf 39)) = xs[0]? := hf 0 _ rfl
 have h1 : DataW.trod enc Tryz.prog w base spare held n 73 ((cs.drop 8).take (Tryz.prog.cellsOf 73)) = xs[1]? := hf 1 _ rfl
 have h2 : DataW.trod enc Tryz.prog w base spare held n 76 ((cs.drop 11).take (Tryz.prog.cellsOf 76)) = xs[2]? := hf 2 _ rfl
 rw [cS] at h0
 rw [cP] at h1
 rw [cPs] at h2
 rw [cR] at hlen
 simp only [List.size_toArray, List.length_cons, List.length_nil, Nat.zero_add, Nat.reduceAdd] at hxs
 match xs, hxs with
 | [y0, y1, y2], _ =>
  obtain ⟨zs, m, _, _, _, hzl, hz⟩ := DataW.trod_array Tryz.underlying39 (h0.trans rfl)
  obtain ⟨us, m2, _, _, _, hul, hu⟩ := DataW.trod_array under16 (h2.trans rfl)
  obtain ⟨pl, hpl, hsrc⟩ := read_plan (h1.trans rfl)
  have hs : ∀ i, i < 8 → cs[i]? = some (.int .i64 (getI cs[i]?)) := fun i hi => by
   have h3 := hz i hi
   rw [cInt, Nat.mul_one, List.getElem?_eq_getElem (by omega)] at h3
   obtain ⟨n0, e0, _⟩ := DataW.trod_int Tryz.underlying3 h3
   have h4 := one_at e0
   rw [drop_take_at hi, Nat.zero_add] at h4
   exact getI_of h4
  have he : ∀ i, i < 16 → cs[11 + i * 2]? = some (.int .i64 (getI cs[11 + i * 2]?)) ∧ cs[11 + i * 2 + 1]? = some (.int .i64 (getI cs[11 + i * 2 + 1]?)) := fun i hi => by
   have h3 := hu i hi
   rw [cE, List.getElem?_eq_getElem (by omega)] at h3
   obtain ⟨a, b, e⟩ := read_ent h3
   have ha : ((((cs.drop 11).take 32).drop (i * 2)).take 2)[0]? = some (.int .i64 a) := by rw [e]; rfl
   have hb : ((((cs.drop 11).take 32).drop (i * 2)).take 2)[1]? = some (.int .i64 b) := by rw [e]; rfl
   rw [drop_take_at (by decide), drop_take_at (by omega)] at ha hb
   exact ⟨getI_of (by rw [← ha]; congr 1), getI_of (by rw [← hb]; congr 1)⟩
  refine ⟨(⟨fun i => getI cs[i]?, (pl.1, pl.2.1, pl.2.2.2), fun i => (getI cs[11 + i * 2]?, getI cs[11 + i * 2 + 1]?)⟩, pl.2.2.1), ?_, hsrc⟩
  apply List.ext_getElem?
  intro k
  by_cases h8 : k < 8
  ·rw [rgC_s h8]
   exact hs k h8
  by_cases h11 : k < 11
  ·have h3 := drop_take_at (cs := cs) (o := 8) (n := 3) (k := k - 8) (by omega)
   rw [hpl, show 8 + (k - 8) = k by omega] at h3
   have h4 : ∀ u, (plC ((pl.1, pl.2.1, pl.2.2.2) : Pl) pl.2.2.1)[k - 8]? = some u → (rgC ⟨fun i => getI cs[i]?, (pl.1, pl.2.1, pl.2.2.2), fun i => (getI cs[11 + i * 2]?, getI cs[11 + i * 2 + 1]?)⟩ pl.2.2.1)[8 + (k - 8)]? = some u := rgC_pl (r := ⟨fun i => getI cs[i]?, (pl.1, pl.2.1, pl.2.2.2), fun i => (getI cs[11 + i * 2]?, getI cs[11 + i * 2 + 1]?)⟩) (sl := pl.2.2.1) (k - 8)
   rw [show 8 + (k - 8) = k by omega] at h4
   have hlt : k - 8 < [Value.int .i64 pl.1, .int .i64 pl.2.1, pl.2.2.1].length := by show k - 8 < 3; omega
   rw [← h3, List.getElem?_eq_getElem hlt]
   exact (h4 _ (List.getElem?_eq_getElem hlt)).symm
  by_cases h43 : k < 43
  ·obtain ⟨i, hi, hk | hk⟩ : ∃ i, i < 16 ∧ (k = 11 + i * 2 ∨ k = 11 + i * 2 + 1) := ⟨(k - 11) / 2, by omega, by omega⟩
   ·rw [hk, rgC_e1 hi]
    exact (he i hi).1
   ·rw [hk, rgC_e2 hi]
    exact (he i hi).2
  ·rw [List.getElem?_eq_none (by omega), List.getElem?_eq_none (by rw [rgC_len]; omega)]
set_option maxRecDepth 100000 in
theorem open_ring {H : Type} {enc : TypeId × Value → H} {w : World} {base : Nat} {spare : Nat → Bool} {held : Bool} {r : Reach} {b0 : Nat} {v : Value} {d : DataW H} {p : List MemPlace} (hv : Value.okWide Tryz.prog w r b0 78 v) (h : DataW.Trod enc Tryz.prog w base spare held 78 v d p) :
  ∃ c : Rg × Value, v = rgV c.1 c.2 ∧ SrcE elemI w c.2 c.1.p.2.2 := by
 obtain ⟨cs, rfl, _⟩ := okWide_struct Tryz.underlying78 hv
 obtain ⟨fuel, hf⟩ := h
 obtain ⟨c, hc, hs⟩ := read_ring hf
 refine ⟨c, ?_, hs⟩
 congr 1
 apply Array.toList_inj.1
 simpa [Value.cells] using hc
end
end Go.Proofs.YtcbnhakfijiioaaGreat
