/- Q16: RgL, Q06. -/
import Derived.Test.YtcchkkdbagpgjaaGreatRgK
import Derived.Test.YtcchkkdbagpgjaaGreatPA
import Derived.Test.YtcchkkdbagpgjaaGreatPB
namespace Go.Proofs.YtcchkkdbagpgjaaGreat
section
open Go Go.RowKit Go.BigFrame
set_option maxHeartbeats 4000000 in
set_option maxRecDepth 100000 in
theorem gmay_d (R : At) (va : Value) (a : Rg) (ha : Reads elemI R va a.p.2.2) (la : a.p.2.2.length ≤ 1000) : Does Tryz.prog 154 #[rgV a va] [R] (.bool (mayR a)) [R] := by
 intro w H hp
 have HM0 := Lib.hid (mem_refl hp)
 clear hp
 obtain ⟨pa, ca, rfl⟩ := row_form (Mem.src HM0.out 0 rfl ha)
 go_enter Tryz.func154, Tryz.ntmps154
 refine wp_seq (wN [(0, 3), (1, 1)] ?_)
 refine wBh 0 HM0 fun b3 W2 HM4 => ?_
 refine wT [1] ?_
 refine wZ (wp_seq ?_)
 rcases (show (tab8 a.s).all statB = false ∨ ((tab8 a.s).all statB = true ∧ mayP a.p = false) ∨ ((tab8 a.s).all statB = true ∧ mayP a.p = true) from by cases (tab8 a.s).all statB <;> cases mayP a.p <;> simp) with h1 | ⟨h1, h2⟩ | ⟨h1, h2⟩
 ·replace h1 := Lib.hid h1
  refine wN [(0, 1), (1, 1), (2, 3), (3, 1), (4, 1), (5, 1), (6, 3), (7, 1), (8, 1), (9, 1), (10, 1), (11, 3), (12, 1), (13, 1)] (wT [0] ?_)
  refine wR 1 (run_sliceSt rfl rfl) ?_
  refine wD2 2 [_] [_, _] Tryz.call175 (everyS_d b3 a _) HM4 [0] fun W6 hm5 => ?_
  rw [h1.out]
  have HM7 := Lib.hid hm5
  clear hm5
  refine wT [3, 4] ?_
  refine wK 5 ?_
  refine wK 6 ?_
  refine wT [7, 8, 9] ?_
  refine wK 10 ?_
  refine wK 11 ?_
  refine wT [12, 13] ?_
  refine wZ (wp_ret (bodyPost_ret (results_tmp rfl _ _ _) rfl ?_))
  have hc : mayR a = false := by unfold mayR; rw [h1.out]; rfl
  rw [hc]
  exact does_ret (Mem.only (M := [_]) HM7.out [1] rfl) rfl rfl
 ·replace h1 := Lib.hid h1
  replace h2 := Lib.hid h2
  refine wN [(0, 1), (1, 1), (2, 3), (3, 1), (4, 1), (5, 1), (6, 3), (7, 1), (8, 1), (9, 1), (10, 1), (11, 3), (12, 1), (13, 1)] (wT [0] ?_)
  refine wR 1 (run_sliceSt rfl rfl) ?_
  refine wD2 2 [_] [_, _] Tryz.call175 (everyS_d b3 a _) HM4 [0] fun W9 hm8 => ?_
  rw [h1.out]
  have HM10 := Lib.hid hm8
  clear hm8
  refine wT [3, 4] ?_
  refine wL 5 (plC (a).p (.slice pa a.p.2.2.length ca)) (HM10.out.sub 0 rfl (rgC_pl)) Tryz.underlying44 ?_
  dsimp only [plC]
  refine wD1 6 [_] [_, _] Tryz.call177 (may_d R _ a.p.1 a.p.2.1 a.p.2.2 ha la) HM10 [1] fun W12 hm11 => ?_
  rw [show mayP (a.p.1, a.p.2.1, a.p.2.2) = mayP a.p from rfl, h2.out]
  have HM13 := Lib.hid hm11
  clear hm11
  refine wT [7, 8, 9] ?_
  refine wK 10 ?_
  refine wK 11 ?_
  refine wT [12, 13] ?_
  refine wZ (wp_ret (bodyPost_ret (results_tmp rfl _ _ _) rfl ?_))
  have hc : mayR a = false := by unfold mayR; rw [h1.out, h2.out]; cases (tab16 a.e).all mayE <;> rfl
  rw [hc]
  exact does_ret (Mem.only (M := [_]) HM13.out [0] rfl) rfl rfl
 ·replace h1 := Lib.hid h1
  replace h2 := Lib.hid h2
  refine wN [(0, 1), (1, 1), (2, 3), (3, 1), (4, 1), (5, 1), (6, 3), (7, 1), (8, 1), (9, 1), (10, 1), (11, 3), (12, 1), (13, 1)] (wT [0] ?_)
  refine wR 1 (run_sliceSt rfl rfl) ?_
  refine wD2 2 [_] [_, _] Tryz.call175 (everyS_d b3 a _) HM4 [0] fun W15 hm14 => ?_
  rw [h1.out]
  have HM16 := Lib.hid hm14
  clear hm14
  refine wT [3, 4] ?_
  refine wL 5 (plC (a).p (.slice pa a.p.2.2.length ca)) (HM16.out.sub 0 rfl (rgC_pl)) Tryz.underlying44 ?_
  dsimp only [plC]
  refine wD1 6 [_] [_, _] Tryz.call177 (may_d R _ a.p.1 a.p.2.1 a.p.2.2 ha la) HM16 [1] fun W18 hm17 => ?_
  rw [show mayP (a.p.1, a.p.2.1, a.p.2.2) = mayP a.p from rfl, h2.out]
  have HM19 := Lib.hid hm17
  clear hm17
  refine wT [7, 8, 9] ?_
  refine wR 10 (run_sliceEnt rfl rfl) ?_
  refine wD2h 11 [_] [_, _] Tryz.call178 (everyE_d b3 a _) HM19 [1] fun W21 HM22 => ?_
  refine wT [12, 13] ?_
  refine wZ (wp_ret (bodyPost_ret (results_tmp rfl _ _ _) rfl ?_))
  have hc : mayR a = (tab16 a.e).all mayE := by unfold mayR; rw [h1.out, h2.out]; cases (tab16 a.e).all mayE <;> rfl
  rw [hc]
  exact does_ret (Mem.only (M := [_]) HM22.out [1] rfl) rfl rfl
set_option maxHeartbeats 4000000 in
set_option maxRecDepth 100000 in
theorem gsame_d (R : At) (va : Value) (a : Rg) (ha : Reads elemI R va a.p.2.2) (la : a.p.2.2.length ≤ 1000) (vb : Value) (b : Rg) (hb : Reads elemI R vb b.p.2.2) (lb : b.p.2.2.length ≤ 1000) : Does Tryz.prog 174 #[rgV a va, rgV b vb] [R] (.bool (sameR a b)) [R] := by
 intro w H hp
 have HM0 := Lib.hid (mem_refl hp)
 clear hp
 obtain ⟨pa, ca, rfl⟩ := row_form (Mem.src HM0.out 0 rfl ha)
 obtain ⟨pb, cb, rfl⟩ := row_form (Mem.src HM0.out 0 rfl hb)
 go_enter Tryz.func174, Tryz.ntmps174
 refine wp_seq (wN [(0, 3), (1, 3), (2, 1)] ?_)
 refine wBh 0 HM0 fun b3 W2 HM4 => ?_
 refine wBh 1 HM4 fun b7 W6 HM8 => ?_
 refine wT [2] ?_
 refine wZ (wp_seq ?_)
 rcases (show ¬ tab8 a.s = tab8 b.s ∨ (tab8 a.s = tab8 b.s ∧ ¬ tab16 a.e = tab16 b.e) ∨ (tab8 a.s = tab8 b.s ∧ tab16 a.e = tab16 b.e) from by by_cases k1 : tab8 a.s = tab8 b.s <;> by_cases k2 : tab16 a.e = tab16 b.e <;> simp [k1, k2]) with hs | ⟨hs, he⟩ | ⟨hs, he⟩
 ·have gs := decide_eq_false hs
  have hc : Hid (sameR a b = false) := Lib.hid (by unfold sameR; rw [gs]; rfl)
  clear hs
  refine wN [(0, 1), (1, 1), (2, 1), (3, 1), (4, 1), (5, 1), (6, 1), (7, 1), (8, 1), (9, 1), (10, 1), (11, 1), (12, 1), (13, 1), (14, 1), (15, 1), (16, 1), (17, 3), (18, 1), (19, 1)] (wT [0] ?_)
  refine wL 1 (stC (a).s) (HM8.out.sub 1 rfl (rgC_st)) Tryz.underlying37 ?_
  refine wT [2] ?_
  refine wL 3 (stC (b).s) (HM8.out.sub 0 rfl (rgC_st)) Tryz.underlying37 ?_
  refine wR 4 (run_eqSt (f := a.s) (g := b.s) (gs) rfl rfl rfl) ?_
  refine wT [5, 6] ?_
  refine wK 7 ?_
  refine wT [8] ?_
  refine wK 9 ?_
  refine wK 10 ?_
  refine wT [11, 12, 13] ?_
  refine wK 14 ?_
  refine wT [15] ?_
  refine wK 16 ?_
  refine wK 17 ?_
  refine wT [18, 19] ?_
  refine wZ (wp_ret (bodyPost_ret (results_tmp rfl _ _ _) rfl ?_))
  rw [hc.out]
  exact does_ret (Mem.only (M := [_]) HM8.out [2] rfl) rfl rfl
 ·have gs := decide_eq_true hs
  have ge := decide_eq_false he
  have hc : Hid (sameR a b = false) := Lib.hid (by unfold sameR; rw [gs, ge]; rfl)
  clear hs he
  refine wN [(0, 1), (1, 1), (2, 1), (3, 1), (4, 1), (5, 1), (6, 1), (7, 1), (8, 1), (9, 1), (10, 1), (11, 1), (12, 1), (13, 1), (14, 1), (15, 1), (16, 1), (17, 3), (18, 1), (19, 1)] (wT [0] ?_)
  refine wL 1 (stC (a).s) (HM8.out.sub 1 rfl (rgC_st)) Tryz.underlying37 ?_
  refine wT [2] ?_
  refine wL 3 (stC (b).s) (HM8.out.sub 0 rfl (rgC_st)) Tryz.underlying37 ?_
  refine wR 4 (run_eqSt (f := a.s) (g := b.s) (gs) rfl rfl rfl) ?_
  refine wT [5, 6] ?_
  refine wL 7 (enC (a).e) (HM8.out.sub 1 rfl (rgC_en)) Tryz.underlying47 ?_
  refine wT [8] ?_
  refine wL 9 (enC (b).e) (HM8.out.sub 0 rfl (rgC_en)) Tryz.underlying47 ?_
  refine wR 10 (run_eqEn (f := a.e) (g := b.e) (ge) rfl rfl rfl) ?_
  refine wT [11, 12, 13] ?_
  refine wK 14 ?_
  refine wT [15] ?_
  refine wK 16 ?_
  refine wK 17 ?_
  refine wT [18, 19] ?_
  refine wZ (wp_ret (bodyPost_ret (results_tmp rfl _ _ _) rfl ?_))
  rw [hc.out]
  exact does_ret (Mem.only (M := [_]) HM8.out [2] rfl) rfl rfl
 ·have gs := decide_eq_true hs
  have ge := decide_eq_true he
  have hc : Hid (sameR a b = (cmpP a.p b.p == 0)) := Lib.hid (by unfold sameR; rw [gs, ge]; rfl)
  clear hs he
  refine wN [(0, 1), (1, 1), (2, 1), (3, 1), (4, 1), (5, 1), (6, 1), (7, 1), (8, 1), (9, 1), (10, 1), (11, 1), (12, 1), (13, 1), (14, 1), (15, 1), (16, 1), (17, 3), (18, 1), (19, 1)] (wT [0] ?_)
  refine wL 1 (stC (a).s) (HM8.out.sub 1 rfl (rgC_st)) Tryz.underlying37 ?_
  refine wT [2] ?_
  refine wL 3 (stC (b).s) (HM8.out.sub 0 rfl (rgC_st)) Tryz.underlying37 ?_
  refine wR 4 (run_eqSt (f := a.s) (g := b.s) (gs) rfl rfl rfl) ?_
  refine wT [5, 6] ?_
  refine wL 7 (enC (a).e) (HM8.out.sub 1 rfl (rgC_en)) Tryz.underlying47 ?_
  refine wT [8] ?_
  refine wL 9 (enC (b).e) (HM8.out.sub 0 rfl (rgC_en)) Tryz.underlying47 ?_
  refine wR 10 (run_eqEn (f := a.e) (g := b.e) (ge) rfl rfl rfl) ?_
  refine wT [11, 12, 13] ?_
  refine wL 14 (plC (a).p (.slice pa a.p.2.2.length ca)) (HM8.out.sub 1 rfl (rgC_pl)) Tryz.underlying44 ?_
  dsimp only [plC]
  refine wT [15] ?_
  refine wL 16 (plC (b).p (.slice pb b.p.2.2.length cb)) (HM8.out.sub 0 rfl (rgC_pl)) Tryz.underlying44 ?_
  dsimp only [plC]
  refine wD2 17 [_, _] [_, _, _] Tryz.call190 (psame_d R _ a.p.1 a.p.2.1 a.p.2.2 ha la _ b.p.1 b.p.2.1 b.p.2.2 hb lb) HM8 [2] fun W10 hm9 => ?_
  rw [cmpB a.p b.p]
  have HM11 := Lib.hid hm9
  clear hm9
  refine wT [18, 19] ?_
  refine wZ (wp_ret (bodyPost_ret (results_tmp rfl _ _ _) rfl ?_))
  rw [hc.out]
  exact does_ret (Mem.only (M := [_]) HM11.out [0] rfl) rfl rfl
end
end Go.Proofs.YtcchkkdbagpgjaaGreat
namespace Go.Proofs.YtcchkkdbagpgjaaGreat
end Go.Proofs.YtcchkkdbagpgjaaGreat
namespace Go.Proofs.YtcchkkdbagpgjaaGreat
section
open Go Go.ChangeShapes Go.WideShapes Go.ChangeAt Go.RowKit Go.Joins
set_option maxRecDepth 100000 in
theorem readI : Readable elemI where
 cells := by kernel_rfl
 bytes := by kernel_rfl
 read h := by
  obtain ⟨n, e, _⟩ := DataW.trod_int Tryz.underlying3 h
  exact ⟨n, e⟩
set_option maxRecDepth 100000 in
theorem read_plan {H : Type} {enc : TypeId × Value → H} {w : World} {base : Nat} {spare : Nat → Bool} {held : Bool} {fuel : Nat} {cs : List Value} {x : DataW H × List MemPlace} (h : DataW.trod enc Tryz.prog w base spare held fuel 44 cs = some x) : ∃ y : Int × Int × Value × List Int, cs = [.int .i64 y.1, .int .i64 y.2.1, y.2.2.1] ∧ SrcE elemI w y.2.2.1 y.2.2.2 := by
 have cellsInt : Tryz.prog.cellsOf 3 = 1 := by kernel_rfl
 have cellsRow : Tryz.prog.cellsOf 42 = 1 := by kernel_rfl
 have cellsP : Tryz.prog.cellsOf 44 = 3 := by kernel_rfl
 obtain ⟨xs, n, _, _, hlen, hxs, hf⟩ := DataW.trod_struct Tryz.underlying44 h
 have h0 : DataW.trod enc Tryz.prog w base spare held n 3 ((cs.drop 0).take (Tryz.prog.cellsOf 3)) = xs[0]? := hf 0 _ rfl
 have h1 : DataW.trod enc Tryz.prog w base spare held n 3 ((cs.drop 1).take (Tryz.prog.cellsOf 3)) = xs[1]? := hf 1 _ rfl
 have h2 : DataW.trod enc Tryz.prog w base spare held n 42 ((cs.drop 2).take (Tryz.prog.cellsOf 42)) = xs[2]? := hf 2 _ rfl
 rw [cellsInt] at h0 h1
 rw [cellsRow] at h2
 simp only [List.size_toArray, List.length_cons, List.length_nil, Nat.zero_add, Nat.reduceAdd] at hxs
 match cs, hlen.trans cellsP with
 | [a, b, c], _ =>
  match xs, hxs with
  | [y0, y1, y2], _ =>
   obtain ⟨n0, e0, _⟩ := DataW.trod_int Tryz.underlying3 (h0.trans rfl)
   obtain ⟨n1, e1, _⟩ := DataW.trod_int Tryz.underlying3 (h1.trans rfl)
   obtain ⟨v, l, e2, hl, _⟩ := open_elems readI (h2.trans rfl)
   simp at e0 e1 e2
   subst e0 e1 e2
   exact ⟨(n0, n1, c, l), rfl, hl⟩
def statD {H : Type} : DataW H := .agg (List.replicate 8 (.lit (.int .i64 0)))
def partsD {H : Type} : DataW H := .agg (List.replicate 16 (.agg [.lit (.int .i64 0), .lit (.int .i64 0)]))
def ringZeroD {H : Type} : DataW H := .agg [statD, .agg [.lit (.int .i64 0), .lit (.int .i64 0), .nil], partsD]
def getI : Option Value → Int
 | some (.int _ n) => n
 | _ => 0
set_option maxRecDepth 100000 in
theorem getI_of {o : Option Value} {n : Int} (h : o = some (.int .i64 n)) : o = some (.int .i64 (getI o)) := by
 rw [h]
 rfl
set_option maxRecDepth 100000 in
theorem drop_take_at {cs : List Value} {o n k : Nat} (hk : k < n) : ((cs.drop o).take n)[k]? = cs[o + k]? := by rw [List.getElem?_take, if_pos hk, List.getElem?_drop]
set_option maxRecDepth 100000 in
theorem one_at {cs : List Value} {o : Nat} {u : Value} (h : (cs.drop o).take 1 = [u]) : cs[o]? = some u := by
 have h1 := drop_take_at (cs := cs) (o := o) (n := 1) (k := 0) (by decide)
 rw [h] at h1
 exact h1.symm
set_option maxRecDepth 100000 in
theorem read_ent {H : Type} {enc : TypeId × Value → H} {w : World} {base : Nat} {spare : Nat → Bool} {held : Bool} {fuel : Nat} {cs : List Value} {x : DataW H × List MemPlace} (h : DataW.trod enc Tryz.prog w base spare held fuel 46 cs = some x) : ∃ a b, cs = [.int .i64 a, .int .i64 b] := by
 have cellsInt : Tryz.prog.cellsOf 3 = 1 := by kernel_rfl
 have cellsE : Tryz.prog.cellsOf 46 = 2 := by kernel_rfl
 obtain ⟨xs, n, _, _, hlen, hxs, hf⟩ := DataW.trod_struct Tryz.underlying46 h
 have h0 : DataW.trod enc Tryz.prog w base spare held n 3 ((cs.drop 0).take (Tryz.prog.cellsOf 3)) = xs[0]? := hf 0 _ rfl
 have h1 : DataW.trod enc Tryz.prog w base spare held n 3 ((cs.drop 1).take (Tryz.prog.cellsOf 3)) = xs[1]? := hf 1 _ rfl
 rw [cellsInt] at h0 h1
 simp only [List.size_toArray, List.length_cons, List.length_nil, Nat.zero_add, Nat.reduceAdd] at hxs
 match cs, hlen.trans cellsE with
 | [a, b], _ =>
  match xs, hxs with
  | [y0, y1], _ =>
   obtain ⟨n0, e0, _⟩ := DataW.trod_int Tryz.underlying3 (h0.trans rfl)
   obtain ⟨n1, e1, _⟩ := DataW.trod_int Tryz.underlying3 (h1.trans rfl)
   simp at e0 e1
   subst e0 e1
   exact ⟨n0, n1, rfl⟩
set_option maxRecDepth 100000 in
theorem read_ring {H : Type} {enc : TypeId × Value → H} {w : World} {base : Nat} {spare : Nat → Bool} {held : Bool} {fuel : Nat} {cs : List Value} {x : DataW H × List MemPlace} (h : DataW.trod enc Tryz.prog w base spare held fuel 49 cs = some x) : ∃ y : Rg × Value, cs = rgC y.1 y.2 ∧ SrcE elemI w y.2 y.1.p.2.2 := by
 have cInt : Tryz.prog.cellsOf 3 = 1 := by kernel_rfl
 have cE : Tryz.prog.cellsOf 46 = 2 := by kernel_rfl
 have cS : Tryz.prog.cellsOf 37 = 8 := by kernel_rfl
 have cP : Tryz.prog.cellsOf 44 = 3 := by kernel_rfl
 have cPs : Tryz.prog.cellsOf 47 = 32 := by kernel_rfl
 have cR : Tryz.prog.cellsOf 49 = 43 := by kernel_rfl
 obtain ⟨xs, n, _, _, hlen, hxs, hf⟩ := DataW.trod_struct Tryz.underlying49 h
 have h0 : DataW.trod enc Tryz.prog w base spare held n 37 ((cs.drop 0).take (Tryz.prog.cellsOf 37)) = xs[0]? := hf 0 _ rfl
 have h1 : DataW.trod enc Tryz.prog w base spare held n 44 ((cs.drop 8).take (Tryz.prog.cellsOf 44)) = xs[1]? := hf 1 _ rfl
 have h2 : DataW.trod enc Tryz.prog w base spare held n 47 ((cs.drop 11).take (Tryz.prog.cellsOf 47)) = xs[2]? := hf 2 _ rfl
 rw [cS] at h0
 rw [cP] at h1
 rw [cPs] at h2
 rw [cR] at hlen
 simp only [List.size_toArray, List.length_cons, List.length_nil, Nat.zero_add, Nat.reduceAdd] at hxs
 match xs, hxs with
 | [y0, y1, y2], _ =>
  obtain ⟨zs, m, _, _, _, hzl, hz⟩ := DataW.trod_array Tryz.underlying37 (h0.trans rfl)
  obtain ⟨us, m2, _, _, _, hul, hu⟩ := DataW.trod_array under16 (h2.trans rfl)
  obtain ⟨pl, hpl, hsrc⟩ := read_plan (h1.trans rfl)
  have hs : ∀ i, i < 8 → cs[i]? = some (.int .i64 (getI cs[i]?)) := fun i hi => by
   have h3 := hz i hi
   rw [cInt, Nat.mul_one, List.getElem?_eq_getElem (by omega)] at h3
   obtain ⟨n0, e0, _⟩ := DataW.trod_int Tryz.underlying3 h3
   have h4 := one_at e0
   rw [drop_take_at hi, Nat.zero_add] at h4
   exact getI_of h4
  have he : ∀ i, i < 16 → cs[11 + i * 2]? = some (.int .i64 (getI cs[11 + i * 2]?)) ∧ cs[11 + i * 2 + 1]? = some (.int .i64 (getI cs[11 + i * 2 + 1]?)) := fun i hi => by
   have h3 := hu i hi
   rw [cE, List.getElem?_eq_getElem (by omega)] at h3
   obtain ⟨a, b, e⟩ := read_ent h3
   have ha : ((((cs.drop 11).take 32).drop (i * 2)).take 2)[0]? = some (.int .i64 a) := by rw [e]; rfl
   have hb : ((((cs.drop 11).take 32).drop (i * 2)).take 2)[1]? = some (.int .i64 b) := by rw [e]; rfl
   rw [drop_take_at (by decide), drop_take_at (by omega)] at ha hb
   exact ⟨getI_of (by rw [← ha]; congr 1), getI_of (by rw [← hb]; congr 1)⟩
  refine ⟨(⟨fun i => getI cs[i]?, (pl.1, pl.2.1, pl.2.2.2), fun i => (getI cs[11 + i * 2]?, getI cs[11 + i * 2 + 1]?)⟩, pl.2.2.1), ?_, hsrc⟩
  apply List.ext_getElem?
  intro k
  by_cases h8 : k < 8
  ·rw [rgC_s h8]
   exact hs k h8
  by_cases h11 : k < 11
  ·have h3 := drop_take_at (cs := cs) (o := 8) (n := 3) (k := k - 8) (by omega)
   rw [hpl, show 8 + (k - 8) = k by omega] at h3
   have h4 : ∀ u, (plC ((pl.1, pl.2.1, pl.2.2.2) : Pl) pl.2.2.1)[k - 8]? = some u → (rgC ⟨fun i => getI cs[i]?, (pl.1, pl.2.1, pl.2.2.2), fun i => (getI cs[11 + i * 2]?, getI cs[11 + i * 2 + 1]?)⟩ pl.2.2.1)[8 + (k - 8)]? = some u := rgC_pl (r := ⟨fun i => getI cs[i]?, (pl.1, pl.2.1, pl.2.2.2), fun i => (getI cs[11 + i * 2]?, getI cs[11 + i * 2 + 1]?)⟩) (sl := pl.2.2.1) (k - 8)
   rw [show 8 + (k - 8) = k by omega] at h4
   have hlt : k - 8 < [Value.int .i64 pl.1, .int .i64 pl.2.1, pl.2.2.1].length := by show k - 8 < 3; omega
   rw [← h3, List.getElem?_eq_getElem hlt]
   exact (h4 _ (List.getElem?_eq_getElem hlt)).symm
  by_cases h43 : k < 43
  ·obtain ⟨i, hi, hk | hk⟩ : ∃ i, i < 16 ∧ (k = 11 + i * 2 ∨ k = 11 + i * 2 + 1) := ⟨(k - 11) / 2, by omega, by omega⟩
   ·rw [hk, rgC_e1 hi]
    exact (he i hi).1
   ·rw [hk, rgC_e2 hi]
    exact (he i hi).2
  ·rw [List.getElem?_eq_none (by omega), List.getElem?_eq_none (by rw [rgC_len]; omega)]
end
end Go.Proofs.YtcchkkdbagpgjaaGreat
