/- LgD: LgC, LgH, LgD. -/
import Derived.Test.YthaabnlhhfnalaaRgT
import Derived.Test.YthaabnlhhfnalaaBgO
import Derived.Test.YthaabnlhhfnalaaLgV
import Derived.Test.YthaabnlhhfnalaaBgE
import Derived.Test.YthaabnlhhfnalaaRgE
namespace Go.Proofs.Ythaabnlhhfnalaa
section
open Go Go.ChangeShapes Go.WideShapes Go.ChangeAt Go.RowKit Go.Joins Go.BigFrame
section
variable {H : Type} {P : Program}
theorem weights_elem {e : TypeId} {n : Nat} : ∀ {es : List (DataW H)} {i : Nat} {d : DataW H}, es[i]? = some d → n ∈ DataW.weights P e d → n ∈ DataW.weightsAll P e es
 | [], i, d, h, _ => by simp at h
 | x :: es, 0, d, h, hn => by
  simp only [List.getElem?_cons_zero, Option.some.injEq] at h
  subst h
  simp only [DataW.weightsAll, List.mem_append]
  exact .inl hn
 | x :: es, i + 1, d, h, hn => by
  rw [List.getElem?_cons_succ] at h
  simp only [DataW.weightsAll, List.mem_append]
  exact .inr (weights_elem h hn)
theorem weights_in {t e : TypeId} {es sp : List (DataW H)} {i : Nat} {d : DataW H} {n : Nat} (hu : P.underlying t = some (.slice e)) (h : es[i]? = some d) (hn : n ∈ DataW.weights P e d) : n ∈ DataW.weights P t (.slice es sp) := by
 have := weights_elem h hn
 simp only [DataW.weights, hu, List.mem_cons, List.mem_append]
 exact .inr (.inl this)
theorem weights_part {t : TypeId} {fs : Array Field} {ds : List (DataW H)} {n : Nat} (hu : P.underlying t = some (.struct fs)) (h : n ∈ DataW.weightsEach P (fs.toList.map fun f => f.type) ds) : n ∈ DataW.weights P t (.agg ds) := by
 simp only [DataW.weights, hu]
 exact h
end
structure ReadP {α : Type} (E : Elem Try.prog α) (Q : ∀ {H : Type}, World → DataW H → α → Prop) : Prop where
 cells : Try.prog.cellsOf E.t = E.k
 bytes : Try.prog.bytesOf E.t = E.bytes
 read : ∀ {H : Type} {enc : TypeId × Value → H} {w : World} {base : Nat} {spare : Nat → Bool} {held : Bool} {fuel : Nat} {cs : List Value} {x : DataW H × List MemPlace}, DataW.trod enc Try.prog w base spare held fuel E.t cs = some x → ∃ y : α, cs = E.enc y ∧ Q w x.1 y
section
variable {α : Type} {E : Elem Try.prog α} {H : Type} {enc : TypeId × Value → H} {w : World} {base : Nat} {spare : Nat → Bool} {held : Bool}
set_option maxRecDepth 100000 in
theorem open_elemsP [Inhabited α] {Q : ∀ {H : Type}, World → DataW H → α → Prop} (hE : ReadP E Q) {fuel : Nat} {cs : List Value} {x : DataW H × List MemPlace} (h : DataW.trod enc Try.prog w base spare held fuel E.sl cs = some x) :
  ∃ (v : Value) (l : List α), cs = [v] ∧ SrcE E w v l ∧ (l = [] ∨ ∃ es sp, x.1 = .slice es sp ∧ es.length = l.length ∧ ∀ (i : Nat) (y : α), l[i]? = some y → ∃ d, es[i]? = some d ∧ Q w d y) := by
 rcases Go.Deep.open_slice E.under h with ⟨rfl, _⟩ | ⟨a, len, cap, m, n, D, Pl, rfl, _, hlc, hcm, hm, hx, hi⟩
 ·exact ⟨_, [], rfl, ⟨.inl ⟨rfl, _, _, rfl⟩, none, 0, rfl, Nat.le_refl _, fun _ => rfl⟩, .inl rfl⟩
 ·rw [hE.cells] at hi
  have hlm : len ≤ m := by rw [hm]; split <;> omega
  have hok : ∀ l : List α, l.length = len → ∃ p c, Value.slice (some a) len cap = .slice p l.length c ∧ l.length ≤ c ∧ (p = none → c = 0) := fun l hl => ⟨some a, cap, by rw [hl], by omega, fun h => by cases h⟩
  have each : ∀ i, i < len → ∃ y : α, (∀ j u, (E.enc y)[j]? = some u → w.cell? ((a.add (i * E.k)).add j) = some u) ∧ Q w (D i) y := by
   intro i hil
   obtain ⟨cs', hc, ht⟩ := hi i (by omega)
   obtain ⟨y, rfl, hQ⟩ := hE.read ht
   obtain ⟨hlen, _, hat⟩ := World.cells?_some hc
   refine ⟨y, fun j u hu => ?_, hQ⟩
   have hj : j < E.k := by have := (List.getElem?_eq_some_iff.1 hu).1; rw [E.len] at this; exact this
   rw [hat j hj]
   exact hu
  by_cases h0 : len = 0
  ·subst h0
   exact ⟨_, [], rfl, ⟨.inl ⟨rfl, _, _, rfl⟩, hok [] rfl⟩, .inl rfl⟩
  ·obtain ⟨f, hf⟩ : ∃ f : Nat → α, ∀ i, i < len → (∀ j u, (E.enc (f i))[j]? = some u → w.cell? ((a.add (i * E.k)).add j) = some u) ∧ Q w (D i) (f i) :=
    ⟨fun i => if h : i < len then Classical.choose (each i h) else default, fun i h => by
     dsimp only
     rw [dif_pos h]
     exact Classical.choose_spec (each i h)⟩
   have hz : ∃ u, w.cell? a = some u := by
    have hp : 0 < (E.enc (f 0)).length := by rw [E.len]; exact E.pos
    have := (hf 0 (by omega)).1 0 _ (List.getElem?_eq_getElem hp)
    rw [show (a.add (0 * E.k)).add 0 = a by unfold Addr.add; simp] at this
    exact ⟨_, this⟩
   obtain ⟨u0, hz⟩ := hz
   have ha := addr_spot a w _ hz
   obtain ⟨b, o, hbo⟩ : ∃ b o, a = ⟨b, o, none⟩ := ⟨_, _, ha⟩
   subst hbo
   have hlt : b < w.heap.size := block_lt_of_cell hz
   refine ⟨_, (List.range len).map f, rfl, ⟨.inr ⟨b, o, cap, by simp, hlt, fun k c hk j u hu => ?_⟩, hok _ (by simp)⟩, .inr ⟨_, _, by rw [hx], by simp, fun i y hy => ?_⟩⟩
   ·have hkl : k < len := by
     have := (List.getElem?_eq_some_iff.1 hk).1
     simpa using this
    have e : c = f k := by
     simp [List.getElem?_range hkl] at hk
     exact hk.symm
    rw [e] at hu
    have := (hf k hkl).1 j u hu
    simpa only [addr_off] using this
   ·have hil : i < len := by
     have := (List.getElem?_eq_some_iff.1 hy).1
     simpa using this
    have e : y = f i := by
     simp [List.getElem?_range hil] at hy
     exact hy.symm
    subst e
    exact ⟨D i, by rw [List.getElem?_map, List.getElem?_range hil]; rfl, (hf i hil).2⟩
end
def DdQ (w : World) (y : Dx) : Prop := SrcE elemV w y.sv y.d.b.v ∧ SrcE elemI w y.sr y.d.r.p.2.2
def DdF {H : Type} (t : TypeId) (x : DataW H) (y : Dx) : Prop := ∀ N, (∀ n ∈ DataW.weights Try.prog t x, n ≤ N) → y.d.b.v.length * 32 ≤ N
theorem src_form {α : Type} {E : Elem Try.prog α} {W : World} {v : Value} {l : List α} (h : SrcE E W v l) : ∃ p c, v = .slice p l.length c := by
 obtain ⟨_, p, c, e, _⟩ := h
 exact ⟨p, c, e⟩
section
variable {H : Type} {enc : TypeId × Value → H} {w : World} {base : Nat} {spare : Nat → Bool} {held : Bool}
set_option maxRecDepth 100000 in
theorem read_deed {fuel : Nat} {cs : List Value} {x : DataW H × List MemPlace} (h : DataW.trod enc Try.prog w base spare held fuel 79 cs = some x) :
  ∃ y : Dx, cs = y.enc ∧ DdQ w y ∧ DdF 79 x.1 y := by
 have cInt : Try.prog.cellsOf 3 = 1 := by kernel_rfl
 have cStr : Try.prog.cellsOf 9 = 1 := by kernel_rfl
 have cB : Try.prog.cellsOf 43 = 9 := by kernel_rfl
 have cR : Try.prog.cellsOf 39 = 43 := by kernel_rfl
 obtain ⟨xs, n, _, hxx, hl, hxs, hp⟩ := DataW.trod_struct Try.underlying79 h
 have hl : cs.length = 56 := hl.trans (by kernel_rfl)
 have hx : xs.length = 6 := hxs
 clear h hxs
 have p0 : DataW.trod enc Try.prog w base spare held n 3 ((cs.drop 0).take (Try.prog.cellsOf 3)) = xs[0]? := hp 0 _ rfl
 have p1 : DataW.trod enc Try.prog w base spare held n 3 ((cs.drop 1).take (Try.prog.cellsOf 3)) = xs[1]? := hp 1 _ rfl
 have p2 : DataW.trod enc Try.prog w base spare held n 9 ((cs.drop 2).take (Try.prog.cellsOf 9)) = xs[2]? := hp 2 _ rfl
 have p3 : DataW.trod enc Try.prog w base spare held n 43 ((cs.drop 3).take (Try.prog.cellsOf 43)) = xs[3]? := hp 3 _ rfl
 have p4 : DataW.trod enc Try.prog w base spare held n 39 ((cs.drop 12).take (Try.prog.cellsOf 39)) = xs[4]? := hp 4 _ rfl
 have p5 : DataW.trod enc Try.prog w base spare held n 3 ((cs.drop 55).take (Try.prog.cellsOf 3)) = xs[5]? := hp 5 _ rfl
 clear hp
 have e3 : xs[3]? = some xs[3] := List.getElem?_eq_getElem (by omega)
 rw [List.getElem?_eq_getElem (by omega)] at p0 p1 p2 p3 p4 p5
 rw [cInt] at p0 p1 p5
 rw [cStr] at p2
 rw [cB] at p3
 rw [cR] at p4
 obtain ⟨i0, h0, -, -⟩ := DataW.trod_int Try.underlying3 p0
 obtain ⟨i1, h1, -, -⟩ := DataW.trod_int Try.underlying3 p1
 obtain ⟨s2, h2, -, -⟩ := DataW.trod_string Try.underlying9 p2
 obtain ⟨f3, v3, l3, h3, s3, w3⟩ := read_bag p3
 obtain ⟨⟨r4, v4⟩, h4, s4⟩ := read_ring p4
 dsimp only at h4 s4
 obtain ⟨i5, h5, -, -⟩ := DataW.trod_int Try.underlying3 p5
 obtain ⟨a3, c3, rfl⟩ := src_form s3
 obtain ⟨a4, c4, rfl⟩ := src_form s4
 have h0 := one_at h0
 have h1 := one_at h1
 have h2 := one_at h2
 have h5 := one_at h5
 refine ⟨⟨⟨i0, i1, s2, ⟨f3, l3⟩, r4, i5⟩, a3, _, c3, a4, _, c4⟩, ?_, ⟨s3, s4⟩, fun N hN => ?_⟩
 ·show cs = _
  apply List.ext_getElem?
  intro k
  by_cases k0 : k = 0
  ·rw [k0]; exact h0
  by_cases k1 : k = 1
  ·rw [k1]; exact h1
  by_cases k2 : k = 2
  ·rw [k2]; exact h2
  by_cases k3 : k < 12
  ·have q := drop_take_at (cs := cs) (o := 3) (n := 9) (k := k - 3) (by omega)
   rw [h3, show 3 + (k - 3) = k by omega] at q
   have hlt : k - 3 < (bgC f3 (.slice a3 l3.length c3)).length := by rw [bgC_len]; omega
   have g := ddC_bag (d := ⟨i0, i1, s2, ⟨f3, l3⟩, r4, i5⟩) (sv := .slice a3 l3.length c3) (sr := .slice a4 r4.p.2.2.length c4) (k - 3) _ (List.getElem?_eq_getElem hlt)
   rw [show 3 + (k - 3) = k by omega] at g
   rw [← q, List.getElem?_eq_getElem hlt]
   exact g.symm
  by_cases k4 : k < 55
  ·have q := drop_take_at (cs := cs) (o := 12) (n := 43) (k := k - 12) (by omega)
   rw [h4, show 12 + (k - 12) = k by omega] at q
   have hlt : k - 12 < (rgC r4 (.slice a4 r4.p.2.2.length c4)).length := by rw [rgC_len]; omega
   have g := ddC_ring (d := ⟨i0, i1, s2, ⟨f3, l3⟩, r4, i5⟩) (sv := .slice a3 l3.length c3) (sr := .slice a4 r4.p.2.2.length c4) (k - 12) _ (List.getElem?_eq_getElem hlt)
   rw [show 12 + (k - 12) = k by omega] at g
   rw [← q, List.getElem?_eq_getElem hlt]
   exact g.symm
  by_cases k5 : k = 55
  ·rw [k5]; exact h5
  ·rw [List.getElem?_eq_none (by omega), List.getElem?_eq_none (by show 56 ≤ k; omega)]
 ·rcases w3 with rfl | ⟨d0, es, sp, he, hn⟩
  ·exact Nat.zero_le _
  ·have hb : Try.prog.bytesOf 70 = 32 := by kernel_rfl
   have h6 : (es.length + sp.length) * Try.prog.bytesOf 70 ∈ DataW.weights Try.prog 43 xs[3].1 := by
    rw [he]
    simp [DataW.weights, DataW.weightsEach, Try.underlying43, Try.underlying41]
   have h7 : (es.length + sp.length) * Try.prog.bytesOf 70 ∈ DataW.weights Try.prog 79 x.1 := by
    rw [hxx]
    refine weights_part Try.underlying79 ?_
    exact DataW.weights_mem_each (j := 3) (t := 43) (d := xs[3].1) rfl (by rw [List.getElem?_map, e3]; rfl) _ h6
   have h8 := hN _ h7
   rw [hb] at h8
   show l3.length * 32 ≤ N
   omega
end
structure CallL where
 op : Int
 n : Int
 x : Dx
def CallL.enc (y : CallL) : List Value := [.int .i64 y.op, .int .i64 y.n] ++ (y.x.enc ++ [])
instance : Inhabited CallL := ⟨⟨0, 0, default⟩⟩
end
section
open Go Go.RowKit Go.BigFrame
def wtX (x : Dx) : Int := heavyV x.d.b.v + hvy 0 [⟨x.d.r, x.rp, x.rn, x.rc⟩]
def badX (x : Dx) : Bool := decide (200 < x.d.key.size) || decide (0 < wtX x)
theorem heavyV_two (l : List Vl) : heavyV l = 0 ∨ heavyV l = 1 := by
 unfold heavyV
 split
 ·exact .inr rfl
 ·exact .inl rfl
theorem hvy_two (x : Hc) : hvy 0 [x] = 0 ∨ hvy 0 [x] = 1 := by
 by_cases h : x.n ≤ 100
 ·exact .inl (by simp [hvy, h])
 ·exact .inr (by simp [hvy, h])
theorem heavyV_01 (l : List Vl) : 0 ≤ heavyV l ∧ heavyV l ≤ 1 := by
 rcases heavyV_two l with h | h <;> rw [h] <;> decide
theorem hvy_01 (x : Hc) : 0 ≤ hvy 0 [x] ∧ hvy 0 [x] ≤ 1 := by
 rcases hvy_two x with h | h <;> rw [h] <;> decide
theorem wtX_range (x : Dx) : 0 ≤ wtX x ∧ wtX x ≤ 2 := by
 unfold wtX
 rcases heavyV_two x.d.b.v with h | h <;> rcases hvy_two ⟨x.d.r, x.rp, x.rn, x.rc⟩ with q | q <;> rw [h, q] <;> decide
theorem good_rn {x : Dx} (h : badX x = false) : x.rn ≤ 100 ∧ x.d.key.size ≤ 200 := by
 unfold badX at h
 rw [Bool.or_eq_false_iff, decide_eq_false_iff_not, decide_eq_false_iff_not] at h
 refine ⟨?_, by omega⟩
 rcases hvy1 ⟨x.d.r, x.rp, x.rn, x.rc⟩ with ⟨q, _⟩ | ⟨_, q⟩
 ·exact q
 ·exfalso
  refine h.2 ?_
  unfold wtX
  rcases heavyV_two x.d.b.v with p | p <;> omega
def hvyX : Nat → List Dx → Int
 | _, [] => 0
 | i, x :: l => if 80 ≤ i ∨ badX x = true then (i : Int) + 1 else hvyX (i + 1) l
theorem hvyX_end {l : List Dx} {k : Nat} (h : l.length ≤ k) : hvyX k (l.drop k) = 0 := by
 rw [List.drop_eq_nil_of_le h]
 rfl
theorem hvyX_step {l : List Dx} {k : Nat} {y : Dx} (h : l[k]? = some y) (hy : ¬ (80 ≤ k ∨ badX y = true)) : hvyX k (l.drop k) = hvyX (k + 1) (l.drop (k + 1)) := by
 have h1 := (List.getElem?_eq_some_iff.1 h).1
 have h2 := (List.getElem?_eq_some_iff.1 h).2
 rw [List.drop_eq_getElem_cons h1, h2]
 exact if_neg hy
theorem hvyX_stop {l : List Dx} {k : Nat} {y : Dx} (h : l[k]? = some y) (hy : 80 ≤ k ∨ badX y = true) : hvyX k (l.drop k) = (k : Int) + 1 := by
 have h1 := (List.getElem?_eq_some_iff.1 h).1
 have h2 := (List.getElem?_eq_some_iff.1 h).2
 rw [List.drop_eq_getElem_cons h1, h2]
 exact if_pos hy
theorem hvyX_one (x : Dx) : hvyX 0 [x] = if badX x = true then 1 else 0 := by
 show (if 80 ≤ 0 ∨ badX x = true then ((0 : Nat) : Int) + 1 else 0) = _
 by_cases h : badX x = true
 ·rw [if_pos (.inr h), if_pos h]
  rfl
 ·rw [if_neg (by simp [h]), if_neg h]
theorem vRowE {α : Type} {E : Elem Try.prog α} {v : Value} {xs : List α} {l : List At} (i : Nat) {A : At} (hi : l[i]? = some A) (hA : Reads E A v xs) : ∀ W H, (listT l).p W H → RowAt E W v xs := fun W H h => rowAt_src (vL i hi hA W H h)
structure DxL (R : At) (x : Dx) : Prop where
 v : Reads elemV R x.sv x.d.b.v
 lv : x.d.b.v.length ≤ 4398046510976
 r : Reads elemI R x.sr x.d.r.p.2.2
theorem DxL.vn {R : At} {x : Dx} (h : DxL R x) {W : World} {H : Nat → Prop} (hp : R.p W H) : x.vn = x.d.b.v.length := by
 obtain ⟨_, p, c, e, _⟩ := h.v W H hp
 exact (Value.slice.inj e).2.1
end
section
open Go Go.ChangeShapes Go.WideShapes Go.ChangeAt Go.RowKit Go.Joins Go.BigFrame
section
variable {H : Type} {enc : TypeId × Value → H} {w : World} {base : Nat} {spare : Nat → Bool} {held : Bool}
theorem reach_fit {ts : List TypeId} {ds : List (DataW H)} {j : Nat} {t : TypeId} {d : DataW H} (hsz : (DataW.weightsEach Try.prog ts ds).all (· ≤ reachBytes) = true) (ht : ts[j]? = some t) (hd : ds[j]? = some d) : ∀ n ∈ DataW.weights Try.prog t d, n ≤ 140737488351232 := fun n hn => of_decide_eq_true (List.all_eq_true.1 hsz n (DataW.weights_mem_each ht hd n hn))
set_option maxRecDepth 100000 in
theorem open_deed {r : Reach} {b0 : Nat} {v : Value} {d : DataW H} {p : List MemPlace} (hv : Value.okWide Try.prog w r b0 79 v) (h : DataW.Trod enc Try.prog w base spare held 79 v d p) : ∃ y : Dx, v = ddV y.d (.slice y.vp y.vn y.vc) (.slice y.rp y.rn y.rc) ∧ DdQ w y ∧ DdF 79 d y := by
 obtain ⟨cs, rfl, _⟩ := okWide_struct Try.underlying79 hv
 obtain ⟨fuel, hf⟩ := h
 obtain ⟨y, hc, hq, hF⟩ := read_deed hf
 have hc : (Value.agg cs).cells.toList = y.enc := hc
 refine ⟨y, ?_, hq, hF⟩
 congr 1
 apply Array.toList_inj.1
 have e : cs.toList = y.enc := by simpa [Value.cells] using hc
 rw [e]
 rfl
theorem reach_deed {ts : List TypeId} {ds : List (DataW H)} {j : Nat} {d : DataW H} {y : Dx} (hsz : (DataW.weightsEach Try.prog ts ds).all (· ≤ reachBytes) = true) (ht : ts[j]? = some 79) (hd : ds[j]? = some d) (h : DdF 79 d y) : y.d.b.v.length ≤ 4398046510976 := by
 have := h _ (reach_fit hsz ht hd)
 omega
end
def deedZero : Value := ddV noD (.slice none 0 0) (.slice none 0 0)
def deedZeroD {H : Type} : DataW H := .agg [.lit (.int .i64 0), .lit (.int .i64 0), .lit (.string []), bagD, ringZeroD, .lit (.int .i64 0)]
def callZero : Value := .agg (CallL.enc default).toArray
def callZeroD {H : Type} : DataW H := .agg [.lit (.int .i64 0), .lit (.int .i64 0), deedZeroD]
end
end Go.Proofs.Ythaabnlhhfnalaa
