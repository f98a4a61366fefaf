/- Deeds and calls that a caller hands over: what can be read of them, and how long their rows are. -/
import Derived.Test.YtnahhbpaijfpbaaRgT
import Derived.Test.YtnahhbpaijfpbaaBgO
import Derived.Test.YtnahhbpaijfpbaaLgV
namespace Go.Proofs.Ytnahhbpaijfpbaa
open Go Go.ChangeShapes Go.WideShapes Go.ChangeAt Go.RowKit Go.Joins Go.BigFrame

section
variable {H : Type} {P : Program}
theorem weights_elem {e : TypeId} {n : Nat} : ∀ {es : List (DataW H)} {i : Nat} {d : DataW H}, es[i]? = some d → n ∈ DataW.weights P e d → n ∈ DataW.weightsAll P e es
  | [], i, d, h, _ => by simp at h
  | x :: es, 0, d, h, hn => by
    simp only [List.getElem?_cons_zero, Option.some.injEq] at h
    subst h
    simp only [DataW.weightsAll, List.mem_append]
    exact .inl hn
  | x :: es, i + 1, d, h, hn => by
    rw [List.getElem?_cons_succ] at h
    simp only [DataW.weightsAll, List.mem_append]
    exact .inr (weights_elem h hn)
theorem weights_in {t e : TypeId} {es sp : List (DataW H)} {i : Nat} {d : DataW H} {n : Nat} (hu : P.underlying t = some (.slice e)) (h : es[i]? = some d) (hn : n ∈ DataW.weights P e d) : n ∈ DataW.weights P t (.slice es sp) := by
  have := weights_elem h hn
  simp only [DataW.weights, hu, List.mem_cons, List.mem_append]
  exact .inr (.inl this)
theorem weights_part {t : TypeId} {fs : Array Field} {ds : List (DataW H)} {n : Nat} (hu : P.underlying t = some (.struct fs)) (h : n ∈ DataW.weightsEach P (fs.toList.map fun f => f.type) ds) : n ∈ DataW.weights P t (.agg ds) := by
  simp only [DataW.weights, hu]
  exact h
end
structure ReadP {α : Type} (E : Elem Try.prog α) (Q : ∀ {H : Type}, World → DataW H → α → Prop) : Prop where
  cells : Try.prog.cellsOf E.t = E.k
  bytes : Try.prog.bytesOf E.t = E.bytes
  read : ∀ {H : Type} {enc : TypeId × Value → H} {w : World} {base : Nat} {spare : Nat → Bool} {held : Bool} {fuel : Nat} {cs : List Value} {x : DataW H × List MemPlace}, DataW.trod enc Try.prog w base spare held fuel E.t cs = some x → ∃ y : α, cs = E.enc y ∧ Q w x.1 y
section
variable {α : Type} {E : Elem Try.prog α} {H : Type} {enc : TypeId × Value → H} {w : World} {base : Nat} {spare : Nat → Bool} {held : Bool}
set_option maxRecDepth 100000 in
theorem open_elemsP [Inhabited α] {Q : ∀ {H : Type}, World → DataW H → α → Prop} (hE : ReadP E Q) {fuel : Nat} {cs : List Value} {x : DataW H × List MemPlace} (h : DataW.trod enc Try.prog w base spare held fuel E.sl cs = some x) :
    ∃ (v : Value) (l : List α), cs = [v] ∧ SrcE E w v l ∧ (l = [] ∨ ∃ es sp, x.1 = .slice es sp ∧ es.length = l.length ∧ ∀ (i : Nat) (y : α), l[i]? = some y → ∃ d, es[i]? = some d ∧ Q w d y) := by
  rcases Go.Deep.open_slice E.under h with ⟨rfl, _⟩ | ⟨a, len, cap, m, n, D, Pl, rfl, _, hlc, hcm, hm, hx, hi⟩
  · exact ⟨_, [], rfl, ⟨.inl ⟨rfl, _, _, rfl⟩, none, 0, rfl, Nat.le_refl _, fun _ => rfl⟩, .inl rfl⟩
  · rw [hE.cells] at hi
    have hlm : len ≤ m := by rw [hm]; split <;> omega
    have hok : ∀ l : List α, l.length = len → ∃ p c, Value.slice (some a) len cap = .slice p l.length c ∧ l.length ≤ c ∧ (p = none → c = 0) := fun l hl => ⟨some a, cap, by rw [hl], by omega, fun h => by cases h⟩
    have each : ∀ i, i < len → ∃ y : α, (∀ j u, (E.enc y)[j]? = some u → w.cell? ((a.add (i * E.k)).add j) = some u) ∧ Q w (D i) y := by
      intro i hil
      obtain ⟨cs', hc, ht⟩ := hi i (by omega)
      obtain ⟨y, rfl, hQ⟩ := hE.read ht
      obtain ⟨hlen, _, hat⟩ := World.cells?_some hc
      refine ⟨y, fun j u hu => ?_, hQ⟩
      have hj : j < E.k := by have := (List.getElem?_eq_some_iff.1 hu).1; rw [E.len] at this; exact this
      rw [hat j hj]
      exact hu
    by_cases h0 : len = 0
    · subst h0
      exact ⟨_, [], rfl, ⟨.inl ⟨rfl, _, _, rfl⟩, hok [] rfl⟩, .inl rfl⟩
    · obtain ⟨f, hf⟩ : ∃ f : Nat → α, ∀ i, i < len → (∀ j u, (E.enc (f i))[j]? = some u → w.cell? ((a.add (i * E.k)).add j) = some u) ∧ Q w (D i) (f i) :=
        ⟨fun i => if h : i < len then Classical.choose (each i h) else default, fun i h => by
          dsimp only
          rw [dif_pos h]
          exact Classical.choose_spec (each i h)⟩
      have hz : ∃ u, w.cell? a = some u := by
        have hp : 0 < (E.enc (f 0)).length := by rw [E.len]; exact E.pos
        have := (hf 0 (by omega)).1 0 _ (List.getElem?_eq_getElem hp)
        rw [show (a.add (0 * E.k)).add 0 = a by unfold Addr.add; simp] at this
        exact ⟨_, this⟩
      obtain ⟨u0, hz⟩ := hz
      have ha := addr_spot a w _ hz
      obtain ⟨b, o, hbo⟩ : ∃ b o, a = ⟨b, o, none⟩ := ⟨_, _, ha⟩
      subst hbo
      have hlt : b < w.heap.size := block_lt_of_cell hz
      refine ⟨_, (List.range len).map f, rfl, ⟨.inr ⟨b, o, cap, by simp, hlt, fun k c hk j u hu => ?_⟩, hok _ (by simp)⟩, .inr ⟨_, _, by rw [hx], by simp, fun i y hy => ?_⟩⟩
      · have hkl : k < len := by
          have := (List.getElem?_eq_some_iff.1 hk).1
          simpa using this
        have e : c = f k := by
          simp [List.getElem?_range hkl] at hk
          exact hk.symm
        rw [e] at hu
        have := (hf k hkl).1 j u hu
        simpa only [addr_off] using this
      · have hil : i < len := by
          have := (List.getElem?_eq_some_iff.1 hy).1
          simpa using this
        have e : y = f i := by
          simp [List.getElem?_range hil] at hy
          exact hy.symm
        subst e
        exact ⟨D i, by rw [List.getElem?_map, List.getElem?_range hil]; rfl, (hf i hil).2⟩
end
/-- What is read of a deed: its rows. -/
def DdQ (w : World) (y : Dx) : Prop := SrcE elemV w y.sv y.d.b.v ∧ SrcE elemI w y.sr y.d.r.p.2.2
/-- How long its bag's row is. -/
def DdF {H : Type} (t : TypeId) (x : DataW H) (y : Dx) : Prop := ∀ N, (∀ n ∈ DataW.weights Try.prog t x, n ≤ N) → y.d.b.v.length * 32 ≤ N
theorem src_form {α : Type} {E : Elem Try.prog α} {W : World} {v : Value} {l : List α} (h : SrcE E W v l) : ∃ p c, v = .slice p l.length c := by
  obtain ⟨_, p, c, e, _⟩ := h
  exact ⟨p, c, e⟩
section
variable {H : Type} {enc : TypeId × Value → H} {w : World} {base : Nat} {spare : Nat → Bool} {held : Bool}
set_option maxRecDepth 100000 in
theorem read_deed {fuel : Nat} {cs : List Value} {x : DataW H × List MemPlace} (h : DataW.trod enc Try.prog w base spare held fuel 43 cs = some x) :
    ∃ y : Dx, cs = y.enc ∧ DdQ w y ∧ DdF 43 x.1 y := by
  have cInt : Try.prog.cellsOf 3 = 1 := by kernel_rfl
  have cStr : Try.prog.cellsOf 9 = 1 := by kernel_rfl
  have cB : Try.prog.cellsOf 33 = 9 := by kernel_rfl
  have cR : Try.prog.cellsOf 41 = 43 := by kernel_rfl
  obtain ⟨xs, n, _, hxx, hl, hxs, hp⟩ := DataW.trod_struct Try.underlying43 h
  have hl : cs.length = 56 := hl.trans (by kernel_rfl)
  have hx : xs.length = 6 := hxs
  clear h hxs
  have p0 : DataW.trod enc Try.prog w base spare held n 3 ((cs.drop 0).take (Try.prog.cellsOf 3)) = xs[0]? := hp 0 _ rfl
  have p1 : DataW.trod enc Try.prog w base spare held n 3 ((cs.drop 1).take (Try.prog.cellsOf 3)) = xs[1]? := hp 1 _ rfl
  have p2 : DataW.trod enc Try.prog w base spare held n 9 ((cs.drop 2).take (Try.prog.cellsOf 9)) = xs[2]? := hp 2 _ rfl
  have p3 : DataW.trod enc Try.prog w base spare held n 33 ((cs.drop 3).take (Try.prog.cellsOf 33)) = xs[3]? := hp 3 _ rfl
  have p4 : DataW.trod enc Try.prog w base spare held n 41 ((cs.drop 12).take (Try.prog.cellsOf 41)) = xs[4]? := hp 4 _ rfl
  have p5 : DataW.trod enc Try.prog w base spare held n 3 ((cs.drop 55).take (Try.prog.cellsOf 3)) = xs[5]? := hp 5 _ rfl
  clear hp
  have e3 : xs[3]? = some xs[3] := List.getElem?_eq_getElem (by omega)
  rw [List.getElem?_eq_getElem (by omega)] at p0 p1 p2 p3 p4 p5
  rw [cInt] at p0 p1 p5
  rw [cStr] at p2
  rw [cB] at p3
  rw [cR] at p4
  obtain ⟨i0, h0, -, -⟩ := DataW.trod_int Try.underlying3 p0
  obtain ⟨i1, h1, -, -⟩ := DataW.trod_int Try.underlying3 p1
  obtain ⟨s2, h2, -, -⟩ := DataW.trod_string Try.underlying9 p2
  obtain ⟨f3, v3, l3, h3, s3, w3⟩ := read_bag p3
  obtain ⟨⟨r4, v4⟩, h4, s4⟩ := read_ring p4
  dsimp only at h4 s4
  obtain ⟨i5, h5, -, -⟩ := DataW.trod_int Try.underlying3 p5
  obtain ⟨a3, c3, rfl⟩ := src_form s3
  obtain ⟨a4, c4, rfl⟩ := src_form s4
  have h0 := one_at h0
  have h1 := one_at h1
  have h2 := one_at h2
  have h5 := one_at h5
  refine ⟨⟨⟨i0, i1, s2, ⟨f3, l3⟩, r4, i5⟩, a3, _, c3, a4, _, c4⟩, ?_, ⟨s3, s4⟩, fun N hN => ?_⟩
  · show cs = _
    apply List.ext_getElem?
    intro k
    by_cases k0 : k = 0
    · rw [k0]; exact h0
    by_cases k1 : k = 1
    · rw [k1]; exact h1
    by_cases k2 : k = 2
    · rw [k2]; exact h2
    by_cases k3 : k < 12
    · have q := drop_take_at (cs := cs) (o := 3) (n := 9) (k := k - 3) (by omega)
      rw [h3, show 3 + (k - 3) = k by omega] at q
      have hlt : k - 3 < (bgC f3 (.slice a3 l3.length c3)).length := by rw [bgC_len]; omega
      have g := ddC_bag (d := ⟨i0, i1, s2, ⟨f3, l3⟩, r4, i5⟩) (sv := .slice a3 l3.length c3) (sr := .slice a4 r4.p.2.2.length c4) (k - 3) _ (List.getElem?_eq_getElem hlt)
      rw [show 3 + (k - 3) = k by omega] at g
      rw [← q, List.getElem?_eq_getElem hlt]
      exact g.symm
    by_cases k4 : k < 55
    · have q := drop_take_at (cs := cs) (o := 12) (n := 43) (k := k - 12) (by omega)
      rw [h4, show 12 + (k - 12) = k by omega] at q
      have hlt : k - 12 < (rgC r4 (.slice a4 r4.p.2.2.length c4)).length := by rw [rgC_len]; omega
      have g := ddC_ring (d := ⟨i0, i1, s2, ⟨f3, l3⟩, r4, i5⟩) (sv := .slice a3 l3.length c3) (sr := .slice a4 r4.p.2.2.length c4) (k - 12) _ (List.getElem?_eq_getElem hlt)
      rw [show 12 + (k - 12) = k by omega] at g
      rw [← q, List.getElem?_eq_getElem hlt]
      exact g.symm
    by_cases k5 : k = 55
    · rw [k5]; exact h5
    · rw [List.getElem?_eq_none (by omega), List.getElem?_eq_none (by show 56 ≤ k; omega)]
  · rcases w3 with rfl | ⟨d0, es, sp, he, hn⟩
    · exact Nat.zero_le _
    · have hb : Try.prog.bytesOf 66 = 32 := by kernel_rfl
      have h6 : (es.length + sp.length) * Try.prog.bytesOf 66 ∈ DataW.weights Try.prog 33 xs[3].1 := by
        rw [he]
        simp [DataW.weights, DataW.weightsEach, Try.underlying33, Try.underlying31]
      have h7 : (es.length + sp.length) * Try.prog.bytesOf 66 ∈ DataW.weights Try.prog 43 x.1 := by
        rw [hxx]
        refine weights_part Try.underlying43 ?_
        exact DataW.weights_mem_each (j := 3) (t := 33) (d := xs[3].1) rfl (by rw [List.getElem?_map, e3]; rfl) _ h6
      have h8 := hN _ h7
      rw [hb] at h8
      show l3.length * 32 ≤ N
      omega
end
/-- A call. -/
structure CallL where
  op : Int
  n : Int
  x : Dx
def CallL.enc (y : CallL) : List Value := [.int .i64 y.op, .int .i64 y.n] ++ (y.x.enc ++ [])
instance : Inhabited CallL := ⟨⟨0, 0, default⟩⟩
def elemL : Elem Try.prog CallL where
  enc := CallL.enc
  k := 58
  pos := by decide
  len _ := rfl
  one x u hu := List.all_eq_true.1 (show x.enc.all Value.oneCell' = true by kernel_rfl) u hu
  t := 45
  sl := 22
  under := Try.underlying22
  z := .agg (default : CallL).enc.toArray
  bytes := 504
  bpos := by decide
  info := by kernel_rfl
  zs := by kernel_rfl
def CallLQ {H : Type} (w : World) (x : DataW H) (y : CallL) : Prop := DdQ w y.x ∧ DdF 45 x y.x
set_option maxRecDepth 100000 in
theorem read_callL {H : Type} {enc : TypeId × Value → H} {w : World} {base : Nat} {spare : Nat → Bool} {held : Bool} {fuel : Nat} {cs : List Value} {x : DataW H × List MemPlace} (h : DataW.trod enc Try.prog w base spare held fuel 45 cs = some x) : ∃ y : CallL, cs = y.enc ∧ CallLQ w x.1 y := by
  have cInt : Try.prog.cellsOf 3 = 1 := by kernel_rfl
  have cD : Try.prog.cellsOf 43 = 56 := by kernel_rfl
  obtain ⟨xs, n, _, hxx, hl, hxs, hp⟩ := DataW.trod_struct Try.underlying45 h
  have hl : cs.length = 58 := hl.trans (by kernel_rfl)
  have hx : xs.length = 3 := hxs
  clear h hxs
  have p0 : DataW.trod enc Try.prog w base spare held n 3 ((cs.drop 0).take (Try.prog.cellsOf 3)) = xs[0]? := hp 0 _ rfl
  have p1 : DataW.trod enc Try.prog w base spare held n 3 ((cs.drop 1).take (Try.prog.cellsOf 3)) = xs[1]? := hp 1 _ rfl
  have p2 : DataW.trod enc Try.prog w base spare held n 43 ((cs.drop 2).take (Try.prog.cellsOf 43)) = xs[2]? := hp 2 _ rfl
  clear hp
  have e2 : xs[2]? = some xs[2] := List.getElem?_eq_getElem (by omega)
  rw [List.getElem?_eq_getElem (by omega)] at p0 p1 p2
  rw [cInt] at p0 p1
  rw [cD, List.take_of_length_le (by rw [List.length_drop]; omega)] at p2
  obtain ⟨i0, h0, -, -⟩ := DataW.trod_int Try.underlying3 p0
  obtain ⟨i1, h1, -, -⟩ := DataW.trod_int Try.underlying3 p1
  obtain ⟨y, h2, q2, f2⟩ := read_deed p2
  have h0 := one_at h0
  have h1 := one_at h1
  refine ⟨⟨i0, i1, y⟩, ?_, q2, fun N hN => f2 N fun m hm => hN m ?_⟩
  · apply List.ext_getElem?
    intro k
    by_cases k0 : k = 0
    · rw [k0]; exact h0
    by_cases k1 : k = 1
    · rw [k1]; exact h1
    · have q : cs[k]? = (cs.drop 2)[k - 2]? := by rw [List.getElem?_drop, show 2 + (k - 2) = k by omega]
      rw [q, h2]
      show _ = ([Value.int .i64 i0, .int .i64 i1] ++ (y.enc ++ []))[k]?
      rw [List.append_nil, List.getElem?_append_right (by show 2 ≤ k; omega)]
      rfl
  · rw [hxx]
    refine weights_part Try.underlying45 ?_
    exact DataW.weights_mem_each (j := 2) (t := 43) (d := xs[2].1) rfl (by rw [List.getElem?_map, e2]; rfl) _ hm
theorem readL : ReadP elemL fun w x y => CallLQ w x y where
  cells := by kernel_rfl
  bytes := by kernel_rfl
  read h := read_callL h
end Go.Proofs.Ytnahhbpaijfpbaa
