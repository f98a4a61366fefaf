/- Q19: Q08, GvC. -/
import Derived.Test.YtcchkkdbagpgjaaGreatPB
import Derived.Test.YtcchkkdbagpgjaaGreatQ18
import Derived.Test.YtcchkkdbagpgjaaGreatBgE
import Derived.Test.YtcchkkdbagpgjaaGreatQ16
import Derived.ChangeMaps5
namespace Go.Proofs.YtcchkkdbagpgjaaGreat
section
open Go Go.ChangeShapes Go.WideShapes Go.ChangeAt Go.RowKit Go.Joins Go.ChangeMaps
section
variable {H : Type} {enc : TypeId × Value → H} {w : World} {base : Nat} {spare : Nat → Bool} {held : Bool}
set_option maxRecDepth 100000 in
theorem readV : Readable elemV where
 cells := by kernel_rfl
 bytes := by kernel_rfl
 read {H enc w base spare held fuel cs x} h := by
  have cellsD : Tryz.prog.cellsOf 72 = 2 := by kernel_rfl
  have cellsS : Tryz.prog.cellsOf 9 = 1 := by kernel_rfl
  have cellsE : Tryz.prog.cellsOf 140 = 3 := by kernel_rfl
  obtain ⟨xs, n, _, _, hlen, hxs, hf⟩ := DataW.trod_struct Tryz.underlying140 h
  have h0 : DataW.trod enc Tryz.prog w base spare held n 72 ((cs.drop 0).take (Tryz.prog.cellsOf 72)) = xs[0]? := hf 0 _ rfl
  have h1 : DataW.trod enc Tryz.prog w base spare held n 9 ((cs.drop 2).take (Tryz.prog.cellsOf 9)) = xs[1]? := hf 1 _ rfl
  rw [cellsD] at h0
  rw [cellsS] at h1
  simp only [List.size_toArray, List.length_cons, List.length_nil, Nat.zero_add, Nat.reduceAdd] at hxs
  match cs, hlen.trans cellsE with
  | [a, b, c], _ =>
   match xs, hxs with
   | [y0, y1], _ =>
    obtain ⟨y, e0⟩ := read_dot (h0.trans rfl)
    obtain ⟨s, e1, _⟩ := DataW.trod_string Tryz.underlying9 (h1.trans rfl)
    simp at e0 e1
    obtain ⟨e2, e3⟩ := e0
    subst e1 e2 e3
    exact ⟨(y, s), rfl⟩
set_option maxRecDepth 100000 in
theorem read_bag {fuel : Nat} {cs : List Value} {x : DataW H × List MemPlace} (h : DataW.trod enc Tryz.prog w base spare held fuel 41 cs = some x) :
  ∃ (f : Nat → Int) (v : Value) (l : List Vl), cs = bgC f v ∧ SrcE elemV w v l ∧ (l = [] ∨ ∃ d0 es sp, x.1 = .agg [d0, .slice es sp] ∧ es.length = l.length) := by
 have cellsV : Tryz.prog.cellsOf 38 = 8 := by kernel_rfl
 have cellsR : Tryz.prog.cellsOf 39 = 1 := by kernel_rfl
 have cellsB : Tryz.prog.cellsOf 41 = 9 := by kernel_rfl
 obtain ⟨xs, n, _, hx, hlen, hxs, hf⟩ := DataW.trod_struct Tryz.underlying41 h
 have h0 : DataW.trod enc Tryz.prog w base spare held n 38 ((cs.drop 0).take (Tryz.prog.cellsOf 38)) = xs[0]? := hf 0 _ rfl
 have h1 : DataW.trod enc Tryz.prog w base spare held n 39 ((cs.drop 8).take (Tryz.prog.cellsOf 39)) = xs[1]? := hf 1 _ rfl
 rw [cellsV] at h0
 rw [cellsR] at h1
 rw [cellsB] at hlen
 simp only [List.size_toArray, List.length_cons, List.length_nil, Nat.zero_add, Nat.reduceAdd] at hxs
 match xs, hxs with
 | [y0, y1], _ =>
  obtain ⟨f, e0⟩ := read_vec (h0.trans rfl)
  obtain ⟨v, l, e1, hl, hd⟩ := open_elems readV (h1.trans rfl)
  refine ⟨f, v, l, ?_, hl, ?_⟩
  ·rw [List.drop_zero] at e0
   rw [List.take_of_length_le (by rw [List.length_drop, hlen]; decide)] at e1
   rw [← List.take_append_drop 8 cs, e0, e1]
   rfl
  ·rcases hd with hd | ⟨es, sp, he, hn⟩
   ·exact .inl hd
   ·refine .inr ⟨y0.1, es, sp, ?_, hn⟩
    rw [hx]
    show DataW.agg [y0.1, y1.1] = _
    rw [he]
def bagD : DataW H := .agg [vecD, .nil]
end
end
end Go.Proofs.YtcchkkdbagpgjaaGreat
namespace Go.Proofs.YtcchkkdbagpgjaaGreat
section
open Go Go.ChangeShapes Go.WideShapes Go.ChangeAt Go.RowKit Go.Joins Go.BigFrame
section
variable {H : Type} {P : Program}
theorem weights_elem {e : TypeId} {n : Nat} : ∀ {es : List (DataW H)} {i : Nat} {d : DataW H}, es[i]? = some d → n ∈ DataW.weights P e d → n ∈ DataW.weightsAll P e es
 | [], i, d, h, _ => by simp at h
 | x :: es, 0, d, h, hn => by
  simp only [List.getElem?_cons_zero, Option.some.injEq] at h
  subst h
  simp only [DataW.weightsAll, List.mem_append]
  exact .inl hn
 | x :: es, i + 1, d, h, hn => by
  rw [List.getElem?_cons_succ] at h
  simp only [DataW.weightsAll, List.mem_append]
  exact .inr (weights_elem h hn)
theorem weights_in {t e : TypeId} {es sp : List (DataW H)} {i : Nat} {d : DataW H} {n : Nat} (hu : P.underlying t = some (.slice e)) (h : es[i]? = some d) (hn : n ∈ DataW.weights P e d) : n ∈ DataW.weights P t (.slice es sp) := by
 have := weights_elem h hn
 simp only [DataW.weights, hu, List.mem_cons, List.mem_append]
 exact .inr (.inl this)
theorem weights_part {t : TypeId} {fs : Array Field} {ds : List (DataW H)} {n : Nat} (hu : P.underlying t = some (.struct fs)) (h : n ∈ DataW.weightsEach P (fs.toList.map fun f => f.type) ds) : n ∈ DataW.weights P t (.agg ds) := by
 simp only [DataW.weights, hu]
 exact h
end
structure ReadP {α : Type} (E : Elem Tryz.prog α) (Q : ∀ {H : Type}, World → DataW H → α → Prop) : Prop where
 cells : Tryz.prog.cellsOf E.t = E.k
 bytes : Tryz.prog.bytesOf E.t = E.bytes
 read : ∀ {H : Type} {enc : TypeId × Value → H} {w : World} {base : Nat} {spare : Nat → Bool} {held : Bool} {fuel : Nat} {cs : List Value} {x : DataW H × List MemPlace}, DataW.trod enc Tryz.prog w base spare held fuel E.t cs = some x → ∃ y : α, cs = E.enc y ∧ Q w x.1 y
section
variable {α : Type} {E : Elem Tryz.prog α} {H : Type} {enc : TypeId × Value → H} {w : World} {base : Nat} {spare : Nat → Bool} {held : Bool}
set_option maxRecDepth 100000 in
theorem open_elemsP [Inhabited α] {Q : ∀ {H : Type}, World → DataW H → α → Prop} (hE : ReadP E Q) {fuel : Nat} {cs : List Value} {x : DataW H × List MemPlace} (h : DataW.trod enc Tryz.prog w base spare held fuel E.sl cs = some x) :
  ∃ (v : Value) (l : List α), cs = [v] ∧ SrcE E w v l ∧ (l = [] ∨ ∃ es sp, x.1 = .slice es sp ∧ es.length = l.length ∧ ∀ (i : Nat) (y : α), l[i]? = some y → ∃ d, es[i]? = some d ∧ Q w d y) := by
 rcases Go.Deep.open_slice E.under h with ⟨rfl, _⟩ | ⟨a, len, cap, m, n, D, Pl, rfl, _, hlc, hcm, hm, hx, hi⟩
 ·exact ⟨_, [], rfl, ⟨.inl ⟨rfl, _, _, rfl⟩, none, 0, rfl, Nat.le_refl _, fun _ => rfl⟩, .inl rfl⟩
 ·rw [hE.cells] at hi
  have hlm : len ≤ m := by rw [hm]; split <;> omega
  have hok : ∀ l : List α, l.length = len → ∃ p c, Value.slice (some a) len cap = .slice p l.length c ∧ l.length ≤ c ∧ (p = none → c = 0) := fun l hl => ⟨some a, cap, by rw [hl], by omega, fun h => by cases h⟩
  have each : ∀ i, i < len → ∃ y : α, (∀ j u, (E.enc y)[j]? = some u → w.cell? ((a.add (i * E.k)).add j) = some u) ∧ Q w (D i) y := by
   intro i hil
   obtain ⟨cs', hc, ht⟩ := hi i (by omega)
   obtain ⟨y, rfl, hQ⟩ := hE.read ht
   obtain ⟨hlen, _, hat⟩ := World.cells?_some hc
   refine ⟨y, fun j u hu => ?_, hQ⟩
   have hj : j < E.k := by have := (List.getElem?_eq_some_iff.1 hu).1; rw [E.len] at this; exact this
   rw [hat j hj]
   exact hu
  by_cases h0 : len = 0
  ·subst h0
   exact ⟨_, [], rfl, ⟨.inl ⟨rfl, _, _, rfl⟩, hok [] rfl⟩, .inl rfl⟩
  ·obtain ⟨f, hf⟩ : ∃ f : Nat → α, ∀ i, i < len → (∀ j u, (E.enc (f i))[j]? = some u → w.cell? ((a.add (i * E.k)).add j) = some u) ∧ Q w (D i) (f i) :=
    ⟨fun i => if h : i < len then Classical.choose (each i h) else default, fun i h => by
     dsimp only
     rw [dif_pos h]
     exact Classical.choose_spec (each i h)⟩
   have hz : ∃ u, w.cell? a = some u := by
    have hp : 0 < (E.enc (f 0)).length := by rw [E.len]; exact E.pos
    have := (hf 0 (by omega)).1 0 _ (List.getElem?_eq_getElem hp)
    rw [show (a.add (0 * E.k)).add 0 = a by unfold Addr.add; simp] at this
    exact ⟨_, this⟩
   obtain ⟨u0, hz⟩ := hz
   have ha := addr_spot a w _ hz
   obtain ⟨b, o, hbo⟩ : ∃ b o, a = ⟨b, o, none⟩ := ⟨_, _, ha⟩
   subst hbo
   have hlt : b < w.heap.size := block_lt_of_cell hz
   refine ⟨_, (List.range len).map f, rfl, ⟨.inr ⟨b, o, cap, by simp, hlt, fun k c hk j u hu => ?_⟩, hok _ (by simp)⟩, .inr ⟨_, _, by rw [hx], by simp, fun i y hy => ?_⟩⟩
   ·have hkl : k < len := by
     have := (List.getElem?_eq_some_iff.1 hk).1
     simpa using this
    have e : c = f k := by
     simp [List.getElem?_range hkl] at hk
     exact hk.symm
    rw [e] at hu
    have := (hf k hkl).1 j u hu
    simpa only [addr_off] using this
   ·have hil : i < len := by
     have := (List.getElem?_eq_some_iff.1 hy).1
     simpa using this
    have e : y = f i := by
     simp [List.getElem?_range hil] at hy
     exact hy.symm
    subst e
    exact ⟨D i, by rw [List.getElem?_map, List.getElem?_range hil]; rfl, (hf i hil).2⟩
end
theorem src_form {α : Type} {E : Elem Tryz.prog α} {W : World} {v : Value} {l : List α} (h : SrcE E W v l) : ∃ p c, v = .slice p l.length c := by
 obtain ⟨_, p, c, e, _⟩ := h
 exact ⟨p, c, e⟩
structure CallL where
 op : Int
 n : Int
 x : Dx
instance : Inhabited CallL := ⟨⟨0, 0, default⟩⟩
end
section
open Go Go.ChangeShapes Go.WideShapes Go.ChangeAt Go.RowKit Go.Joins Go.BigFrame
section
variable {H : Type} {enc : TypeId × Value → H} {w : World} {base : Nat} {spare : Nat → Bool} {held : Bool}
theorem reach_fit {ts : List TypeId} {ds : List (DataW H)} {j : Nat} {t : TypeId} {d : DataW H} (hsz : (DataW.weightsEach Tryz.prog ts ds).all (· ≤ reachBytes) = true) (ht : ts[j]? = some t) (hd : ds[j]? = some d) : ∀ n ∈ DataW.weights Tryz.prog t d, n ≤ 140737488351232 := fun n hn => of_decide_eq_true (List.all_eq_true.1 hsz n (DataW.weights_mem_each ht hd n hn))
end
end
end Go.Proofs.YtcchkkdbagpgjaaGreat
namespace Go.Proofs.YtcchkkdbagpgjaaGreat
open Go Go.ChangeShapes Go.WideShapes Go.ChangeAt Go.RowKit Go.Joins Go.BigFrame
def MxQ (w : World) (x : Mx) : Prop := SrcE elemV w x.sv x.m.b.v
def MxF {H : Type} (t : TypeId) (d : DataW H) (x : Mx) : Prop := ∀ N, (∀ n ∈ DataW.weights Tryz.prog t d, n ≤ N) → x.m.b.v.length * 32 ≤ N
section
variable {H : Type} {enc : TypeId × Value → H} {w : World} {base : Nat} {spare : Nat → Bool} {held : Bool}
theorem gpart_at {cs : List Value} {o n k : Nat} {l L : List Value} (hl : l.length = n) (h : (cs.drop o).take n = l) (hL : ∀ j u, l[j]? = some u → L[o + j]? = some u) (h1 : o ≤ k) (h2 : k < o + n) : cs[k]? = L[k]? := by
 have q := drop_take_at (cs := cs) (o := o) (n := n) (k := k - o) (by omega)
 rw [h, show o + (k - o) = k by omega] at q
 have hlt : k - o < l.length := by omega
 have g := hL (k - o) _ (List.getElem?_eq_getElem hlt)
 rw [show o + (k - o) = k by omega] at g
 rw [← q, List.getElem?_eq_getElem hlt]
 exact g.symm
theorem enc_ring {x : Mx} : ∀ k u, (rgC x.m.r (.slice x.rp x.rn x.rc))[k]? = some u → x.enc[18 + k]? = some u := fun k u h => by
 have h1 := sub_app ([Value.int .i64 x.m.kind, .int .i64 x.m.frm, .int .i64 x.m.dst, .int .i64 x.m.seq, .int .i64 x.m.re, .int .i64 x.m.abt, .int .i64 x.m.part, .int .i64 x.m.epoch, .string x.m.key] ++ bgC x.m.b.k (.slice x.vp x.vn x.vc)) (rgC x.m.r (.slice x.rp x.rn x.rc)) [.slice x.cp x.cn x.cc] h
 rw [List.append_assoc] at h1
 exact h1
set_option maxRecDepth 100000 in
theorem read_msg {fuel : Nat} {cs : List Value} {x : DataW H × List MemPlace} (h : DataW.trod enc Tryz.prog w base spare held fuel 52 cs = some x) :
  ∃ y : Mx, cs = y.enc ∧ MxQ w y ∧ MxF 52 x.1 y := by
 have cInt : Tryz.prog.cellsOf 3 = 1 := by kernel_rfl
 have cStr : Tryz.prog.cellsOf 9 = 1 := by kernel_rfl
 have cB : Tryz.prog.cellsOf 41 = 9 := by kernel_rfl
 have cR : Tryz.prog.cellsOf 49 = 43 := by kernel_rfl
 have cC : Tryz.prog.cellsOf 50 = 1 := by kernel_rfl
 obtain ⟨xs, n, _, hxx, hl, hxs, hp⟩ := DataW.trod_struct Tryz.underlying52 h
 have hl : cs.length = 62 := hl.trans (by kernel_rfl)
 have hx : xs.length = 12 := hxs
 clear h hxs
 have p0 : DataW.trod enc Tryz.prog w base spare held n 3 ((cs.drop 0).take (Tryz.prog.cellsOf 3)) = xs[0]? := hp 0 _ rfl
 have p1 : DataW.trod enc Tryz.prog w base spare held n 3 ((cs.drop 1).take (Tryz.prog.cellsOf 3)) = xs[1]? := hp 1 _ rfl
 have p2 : DataW.trod enc Tryz.prog w base spare held n 3 ((cs.drop 2).take (Tryz.prog.cellsOf 3)) = xs[2]? := hp 2 _ rfl
 have p3 : DataW.trod enc Tryz.prog w base spare held n 3 ((cs.drop 3).take (Tryz.prog.cellsOf 3)) = xs[3]? := hp 3 _ rfl
 have p4 : DataW.trod enc Tryz.prog w base spare held n 3 ((cs.drop 4).take (Tryz.prog.cellsOf 3)) = xs[4]? := hp 4 _ rfl
 have p5 : DataW.trod enc Tryz.prog w base spare held n 3 ((cs.drop 5).take (Tryz.prog.cellsOf 3)) = xs[5]? := hp 5 _ rfl
 have p6 : DataW.trod enc Tryz.prog w base spare held n 3 ((cs.drop 6).take (Tryz.prog.cellsOf 3)) = xs[6]? := hp 6 _ rfl
 have p7 : DataW.trod enc Tryz.prog w base spare held n 3 ((cs.drop 7).take (Tryz.prog.cellsOf 3)) = xs[7]? := hp 7 _ rfl
 have p8 : DataW.trod enc Tryz.prog w base spare held n 9 ((cs.drop 8).take (Tryz.prog.cellsOf 9)) = xs[8]? := hp 8 _ rfl
 have p9 : DataW.trod enc Tryz.prog w base spare held n 41 ((cs.drop 9).take (Tryz.prog.cellsOf 41)) = xs[9]? := hp 9 _ rfl
 have p10 : DataW.trod enc Tryz.prog w base spare held n 49 ((cs.drop 18).take (Tryz.prog.cellsOf 49)) = xs[10]? := hp 10 _ rfl
 have p11 : DataW.trod enc Tryz.prog w base spare held n 50 ((cs.drop 61).take (Tryz.prog.cellsOf 50)) = xs[11]? := hp 11 _ rfl
 clear hp
 have e9 : xs[9]? = some xs[9] := List.getElem?_eq_getElem (by omega)
 rw [List.getElem?_eq_getElem (by omega)] at p0 p1 p2 p3 p4 p5 p6 p7 p8 p9 p10 p11
 rw [cInt] at p0 p1 p2 p3 p4 p5 p6 p7
 rw [cStr] at p8
 rw [cB] at p9
 rw [cR] at p10
 rw [cC] at p11
 obtain ⟨i0, h0, -, -⟩ := DataW.trod_int Tryz.underlying3 p0
 obtain ⟨i1, h1, -, -⟩ := DataW.trod_int Tryz.underlying3 p1
 obtain ⟨i2, h2, -, -⟩ := DataW.trod_int Tryz.underlying3 p2
 obtain ⟨i3, h3, -, -⟩ := DataW.trod_int Tryz.underlying3 p3
 obtain ⟨i4, h4, -, -⟩ := DataW.trod_int Tryz.underlying3 p4
 obtain ⟨i5, h5, -, -⟩ := DataW.trod_int Tryz.underlying3 p5
 obtain ⟨i6, h6, -, -⟩ := DataW.trod_int Tryz.underlying3 p6
 obtain ⟨i7, h7, -, -⟩ := DataW.trod_int Tryz.underlying3 p7
 obtain ⟨s8, h8, -, -⟩ := DataW.trod_string Tryz.underlying9 p8
 obtain ⟨f9, v9, l9, h9, q9, w9⟩ := read_bag p9
 obtain ⟨⟨r10, v10⟩, h10, q10⟩ := read_ring p10
 dsimp only at h10 q10
 obtain ⟨ca, cn, cc, h11⟩ : ∃ (a : Option Addr) (n c : Nat), (cs.drop 61).take 1 = [.slice a n c] := by
  rcases DataW.trod_slice Tryz.underlying50 p11 with ⟨q, _⟩ | ⟨a, len, cap, _, _, _, _, q, _⟩
  ·exact ⟨none, 0, 0, q⟩
  ·exact ⟨some a, len, cap, q⟩
 obtain ⟨a9, c9, rfl⟩ := src_form q9
 obtain ⟨a10, c10, rfl⟩ := src_form q10
 have h0 := one_at h0
 have h1 := one_at h1
 have h2 := one_at h2
 have h3 := one_at h3
 have h4 := one_at h4
 have h5 := one_at h5
 have h6 := one_at h6
 have h7 := one_at h7
 have h8 := one_at h8
 have h11 := one_at h11
 obtain ⟨y, hy⟩ : ∃ y : Mx, y = ⟨⟨i0, i1, i2, i3, i4, i5, i6, i7, s8, ⟨f9, l9⟩, r10⟩, a9, l9.length, c9, a10, r10.p.2.2.length, c10, ca, cn, cc⟩ := ⟨_, rfl⟩
 refine ⟨y, ?_, by rw [hy]; exact q9, fun N hN => ?_⟩
 ·apply List.ext_getElem?
  intro k
  by_cases k0 : k = 0
  ·rw [k0, show y.enc[0]? = _ from msC_kind, hy]; exact h0
  by_cases k1 : k = 1
  ·rw [k1, show y.enc[1]? = _ from msC_frm, hy]; exact h1
  by_cases k2 : k = 2
  ·rw [k2, show y.enc[2]? = _ from msC_dst, hy]; exact h2
  by_cases k3 : k = 3
  ·rw [k3, show y.enc[3]? = _ from msC_seq, hy]; exact h3
  by_cases k4 : k = 4
  ·rw [k4, show y.enc[4]? = _ from msC_re, hy]; exact h4
  by_cases k5 : k = 5
  ·rw [k5, show y.enc[5]? = _ from msC_abt, hy]; exact h5
  by_cases k6 : k = 6
  ·rw [k6, show y.enc[6]? = _ from msC_part, hy]; exact h6
  by_cases k7 : k = 7
  ·rw [k7, show y.enc[7]? = _ from msC_epoch, hy]; exact h7
  by_cases k8 : k = 8
  ·rw [k8, show y.enc[8]? = _ from msC_key, hy]; exact h8
  by_cases k9 : k < 18
  ·exact gpart_at (o := 9) (n := 9) bgC_len h9 (by have e : ∀ k u, (bgC y.m.b.k (.slice y.vp y.vn y.vc))[k]? = some u → y.enc[9 + k]? = some u := msC_bag; rw [hy] at e ⊢; exact e) (by omega) (by omega)
  by_cases k10 : k < 61
  ·exact gpart_at (o := 18) (n := 43) rgC_len h10 (by have e := enc_ring (x := y); rw [hy] at e ⊢; exact e) (by omega) (by omega)
  by_cases k11 : k = 61
  ·rw [k11, show y.enc[61]? = _ from msC_cl, hy]; exact h11
  ·have hlen : y.enc.length = 62 := elemMx.len y
   rw [List.getElem?_eq_none (by omega), List.getElem?_eq_none (by omega)]
 ·subst hy
  rcases w9 with rfl | ⟨d0, es, sp, he, hn⟩
  ·exact Nat.zero_le _
  ·have hb : Tryz.prog.bytesOf 140 = 32 := by kernel_rfl
   have h6 : (es.length + sp.length) * Tryz.prog.bytesOf 140 ∈ DataW.weights Tryz.prog 41 xs[9].1 := by
    rw [he]
    simp [DataW.weights, DataW.weightsEach, Tryz.underlying41, Tryz.underlying39]
   have h7 : (es.length + sp.length) * Tryz.prog.bytesOf 140 ∈ DataW.weights Tryz.prog 52 x.1 := by
    rw [hxx]
    refine weights_part Tryz.underlying52 ?_
    exact DataW.weights_mem_each (j := 9) (t := 41) (d := xs[9].1) rfl (by rw [List.getElem?_map, e9]; rfl) _ h6
   have h8 := hN _ h7
   rw [hb] at h8
   show l9.length * 32 ≤ N
   omega
set_option maxRecDepth 100000 in
theorem open_msg {r : Reach} {b0 : Nat} {v : Value} {d : DataW H} {p : List MemPlace} (hv : Value.okWide Tryz.prog w r b0 52 v) (h : DataW.Trod enc Tryz.prog w base spare held 52 v d p) : ∃ y : Mx, v = .agg y.enc.toArray ∧ MxQ w y ∧ MxF 52 d y := by
 obtain ⟨cs, rfl, _⟩ := okWide_struct Tryz.underlying52 hv
 obtain ⟨fuel, hf⟩ := h
 obtain ⟨y, hc, hq, hF⟩ := read_msg hf
 have hc : (Value.agg cs).cells.toList = y.enc := hc
 refine ⟨y, ?_, hq, hF⟩
 congr 1
 apply Array.toList_inj.1
 simpa [Value.cells] using hc
set_option maxRecDepth 100000 in
theorem read_callX {fuel : Nat} {cs : List Value} {x : DataW H × List MemPlace} (h : DataW.trod enc Tryz.prog w base spare held fuel 54 cs = some x) :
  ∃ y : Cx, cs = cxC y ∧ MxQ w y.x ∧ MxF 54 x.1 y.x := by
 have cInt : Tryz.prog.cellsOf 3 = 1 := by kernel_rfl
 have cM : Tryz.prog.cellsOf 52 = 62 := by kernel_rfl
 obtain ⟨xs, n, _, hxx, hl, hxs, hp⟩ := DataW.trod_struct Tryz.underlying54 h
 have hl : cs.length = 65 := hl.trans (by kernel_rfl)
 have hx : xs.length = 4 := hxs
 clear h hxs
 have p0 : DataW.trod enc Tryz.prog w base spare held n 3 ((cs.drop 0).take (Tryz.prog.cellsOf 3)) = xs[0]? := hp 0 _ rfl
 have p1 : DataW.trod enc Tryz.prog w base spare held n 3 ((cs.drop 1).take (Tryz.prog.cellsOf 3)) = xs[1]? := hp 1 _ rfl
 have p2 : DataW.trod enc Tryz.prog w base spare held n 3 ((cs.drop 2).take (Tryz.prog.cellsOf 3)) = xs[2]? := hp 2 _ rfl
 have p3 : DataW.trod enc Tryz.prog w base spare held n 52 ((cs.drop 3).take (Tryz.prog.cellsOf 52)) = xs[3]? := hp 3 _ rfl
 clear hp
 have e3 : xs[3]? = some xs[3] := List.getElem?_eq_getElem (by omega)
 rw [List.getElem?_eq_getElem (by omega)] at p0 p1 p2 p3
 rw [cInt] at p0 p1 p2
 rw [cM] at p3
 obtain ⟨i0, h0, -, -⟩ := DataW.trod_int Tryz.underlying3 p0
 obtain ⟨i1, h1, -, -⟩ := DataW.trod_int Tryz.underlying3 p1
 obtain ⟨i2, h2, -, -⟩ := DataW.trod_int Tryz.underlying3 p2
 obtain ⟨y3, h3, q3, w3⟩ := read_msg p3
 have h0 := one_at h0
 have h1 := one_at h1
 have h2 := one_at h2
 obtain ⟨y, hy⟩ : ∃ y : Cx, y = ⟨i0, i1, i2, y3⟩ := ⟨_, rfl⟩
 refine ⟨y, ?_, by rw [hy]; exact q3, fun N hN => ?_⟩
 ·apply List.ext_getElem?
  intro k
  by_cases k0 : k = 0
  ·rw [k0, cxC_act, hy]; exact h0
  by_cases k1 : k = 1
  ·rw [k1, cxC_key, hy]; exact h1
  by_cases k2 : k = 2
  ·rw [k2, cxC_at, hy]; exact h2
  by_cases k3 : k < 65
  ·exact gpart_at (o := 3) (n := 62) (elemMx.len y3) h3 (by have e : ∀ k u, y.x.enc[k]? = some u → (cxC y)[3 + k]? = some u := cxC_msg; rw [hy] at e ⊢; exact e) (by omega) (by omega)
  ·have hlen : (cxC y).length = 65 := elemCx.len y
   rw [List.getElem?_eq_none (by omega), List.getElem?_eq_none (by omega)]
 ·subst hy
  refine w3 N fun m hm => hN m ?_
  rw [hxx]
  refine weights_part Tryz.underlying54 ?_
  exact DataW.weights_mem_each (j := 3) (t := 52) (d := xs[3].1) rfl (by rw [List.getElem?_map, e3]; rfl) _ hm
end
theorem readX : ReadP elemCx fun w x y => MxQ w y.x ∧ MxF 54 x y.x where
 cells := by kernel_rfl
 bytes := by kernel_rfl
 read h := read_callX h
section
variable {H : Type} {enc : TypeId × Value → H} {w : World} {base : Nat} {spare : Nat → Bool} {held : Bool}
theorem reach_msg {ts : List TypeId} {ds : List (DataW H)} {j : Nat} {d : DataW H} {y : Mx} (hsz : (DataW.weightsEach Tryz.prog ts ds).all (· ≤ reachBytes) = true) (ht : ts[j]? = some 52) (hd : ds[j]? = some d) (h : MxF 52 d y) : y.m.b.v.length ≤ 4398046510976 := by
 have := h _ (reach_fit hsz ht hd)
 omega
set_option maxRecDepth 100000 in
theorem open_callsX {r : Reach} {b0 : Nat} {v : Value} {d : DataW H} {p : List MemPlace} (hv : Value.okWide Tryz.prog w r b0 22 v) (h : DataW.Trod enc Tryz.prog w base spare held 22 v d p) :
  ∃ l : List Cx, (∀ W H, (oldT w).p W H → RowAt elemCx W v l) ∧ (l = [] ∨ ∃ es sp, d = .slice es sp ∧ es.length = l.length ∧ ∀ (i : Nat) (y : Cx), l[i]? = some y → ∃ e, es[i]? = some e ∧ MxQ w y.x ∧ MxF 54 e y.x) := by
 obtain ⟨a, len, cap, rfl⟩ := okWide_slice Tryz.underlying22 hv
 obtain ⟨fuel, hf⟩ := h
 obtain ⟨v', l, hcs, hl, hm⟩ := open_elemsP (E := elemCx) readX hf
 obtain rfl : v' = .slice a len cap := by
  simp [Value.cells] at hcs
  exact hcs.symm
 exact ⟨l, fun _ _ hs => OldA.row hs hl.1, hm⟩
theorem reach_callsX {ts : List TypeId} {ds : List (DataW H)} {j : Nat} {d : DataW H} {l : List Cx} (hsz : (DataW.weightsEach Tryz.prog ts ds).all (· ≤ reachBytes) = true) (ht : ts[j]? = some 22) (hd : ds[j]? = some d) (h : l = [] ∨ ∃ es sp, d = .slice es sp ∧ es.length = l.length ∧ ∀ (i : Nat) (y : Cx), l[i]? = some y → ∃ e, es[i]? = some e ∧ MxQ w y.x ∧ MxF 54 e y.x) : ∀ y ∈ l, MxQ w y.x ∧ y.x.m.b.v.length ≤ 4398046510976 := fun y hy => by
 rcases h with rfl | ⟨es, sp, rfl, _, he⟩
 ·cases hy
 ·obtain ⟨i, hi⟩ := List.mem_iff_getElem?.1 hy
  obtain ⟨e, h1, h2, h3⟩ := he i y hi
  have := h3 _ fun n hn => reach_fit hsz ht hd n (weights_in Tryz.underlying22 h1 hn)
  exact ⟨h2, by omega⟩
end
def msgZero : Value := .agg (default : Mx).enc.toArray
def msgZeroD {H : Type} : DataW H := .agg [.lit (.int .i64 0), .lit (.int .i64 0), .lit (.int .i64 0), .lit (.int .i64 0), .lit (.int .i64 0), .lit (.int .i64 0), .lit (.int .i64 0), .lit (.int .i64 0), .lit (.string []), bagD, ringZeroD, .nil]
end Go.Proofs.YtcchkkdbagpgjaaGreat
