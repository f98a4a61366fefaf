/- A row of calls that a caller hands over, their rings and peers: what can be read of it. -/
import Derived.Test.YtnkchmafofpimaaRgT
import Derived.Test.YtnkchmafofpimaaGsB
namespace Go.Proofs.Ytnkchmafofpimaa
open Go Go.ChangeShapes Go.WideShapes Go.ChangeAt Go.RowKit Go.Joins Go.BigFrame


structure ReadQ {α : Type} (E : Elem Try.prog α) (Q : World → α → Prop) : Prop where
  cells : Try.prog.cellsOf E.t = E.k
  bytes : Try.prog.bytesOf E.t = E.bytes
  read : ∀ {H : Type} {enc : TypeId × Value → H} {w : World} {base : Nat} {spare : Nat → Bool} {held : Bool} {fuel : Nat} {cs : List Value} {x : DataW H × List MemPlace}, DataW.trod enc Try.prog w base spare held fuel E.t cs = some x → ∃ y : α, cs = E.enc y ∧ Q w y
section
variable {α : Type} {E : Elem Try.prog α} {H : Type} {enc : TypeId × Value → H} {w : World} {base : Nat} {spare : Nat → Bool} {held : Bool}
set_option maxRecDepth 100000 in
theorem open_elemsQ [Inhabited α] {Q : World → α → Prop} (hE : ReadQ E Q) {fuel : Nat} {cs : List Value} {x : DataW H × List MemPlace} (h : DataW.trod enc Try.prog w base spare held fuel E.sl cs = some x) :
    ∃ (v : Value) (l : List α), cs = [v] ∧ SrcE E w v l ∧ (∀ y ∈ l, Q w y) ∧ (l = [] ∨ ∃ es sp, x.1 = .slice es sp ∧ es.length = l.length) := by
  rcases Go.Deep.open_slice E.under h with ⟨rfl, _⟩ | ⟨a, len, cap, m, n, D, Pl, rfl, _, hlc, hcm, hm, hx, hi⟩
  · exact ⟨_, [], rfl, ⟨.inl ⟨rfl, _, _, rfl⟩, none, 0, rfl, Nat.le_refl _, fun _ => rfl⟩, fun _ h => by simp at h, .inl rfl⟩
  · rw [hE.cells] at hi
    have hlm : len ≤ m := by rw [hm]; split <;> omega
    have hok : ∀ l : List α, l.length = len → ∃ p c, Value.slice (some a) len cap = .slice p l.length c ∧ l.length ≤ c ∧ (p = none → c = 0) := fun l hl => ⟨some a, cap, by rw [hl], by omega, fun h => by cases h⟩
    have each : ∀ i, i < len → ∃ y : α, (∀ j u, (E.enc y)[j]? = some u → w.cell? ((a.add (i * E.k)).add j) = some u) ∧ Q w y := by
      intro i hil
      obtain ⟨cs', hc, ht⟩ := hi i (by omega)
      obtain ⟨y, rfl, hQ⟩ := hE.read ht
      obtain ⟨hlen, _, hat⟩ := World.cells?_some hc
      refine ⟨y, fun j u hu => ?_, hQ⟩
      have hj : j < E.k := by have := (List.getElem?_eq_some_iff.1 hu).1; rw [E.len] at this; exact this
      rw [hat j hj]
      exact hu
    by_cases h0 : len = 0
    · subst h0
      exact ⟨_, [], rfl, ⟨.inl ⟨rfl, _, _, rfl⟩, hok [] rfl⟩, fun _ h => by simp at h, .inl rfl⟩
    · obtain ⟨f, hf⟩ : ∃ f : Nat → α, ∀ i, i < len → (∀ j u, (E.enc (f i))[j]? = some u → w.cell? ((a.add (i * E.k)).add j) = some u) ∧ Q w (f i) :=
        ⟨fun i => if h : i < len then Classical.choose (each i h) else default, fun i h => by
          dsimp only
          rw [dif_pos h]
          exact Classical.choose_spec (each i h)⟩
      have hz : ∃ u, w.cell? a = some u := by
        have hp : 0 < (E.enc (f 0)).length := by rw [E.len]; exact E.pos
        have := (hf 0 (by omega)).1 0 _ (List.getElem?_eq_getElem hp)
        rw [show (a.add (0 * E.k)).add 0 = a by unfold Addr.add; simp] at this
        exact ⟨_, this⟩
      obtain ⟨u0, hz⟩ := hz
      have ha := addr_spot a w _ hz
      obtain ⟨b, o, hbo⟩ : ∃ b o, a = ⟨b, o, none⟩ := ⟨_, _, ha⟩
      subst hbo
      have hlt : b < w.heap.size := block_lt_of_cell hz
      refine ⟨_, (List.range len).map f, rfl, ⟨.inr ⟨b, o, cap, by simp, hlt, fun k c hk j u hu => ?_⟩, hok _ (by simp)⟩, fun y hy => (by obtain ⟨i, hi, rfl⟩ := List.mem_map.1 hy; exact (hf i (List.mem_range.1 hi)).2), .inr ⟨_, _, by rw [hx], by simp⟩⟩
      have hkl : k < len := by
        have := (List.getElem?_eq_some_iff.1 hk).1
        simpa using this
      have e : c = f k := by
        simp [List.getElem?_range hkl] at hk
        exact hk.symm
      rw [e] at hu
      have := (hf k hkl).1 j u hu
      simpa only [addr_off] using this
set_option maxRecDepth 100000 in
theorem open_srcQ [Inhabited α] {Q : World → α → Prop} (hE : ReadQ E Q) {r : Reach} {b0 : Nat} {v : Value} {d : DataW H} {p : List MemPlace} (hv : Value.okWide Try.prog w r b0 E.sl v) (h : DataW.Trod enc Try.prog w base spare held E.sl v d p) :
    ∃ l : List α, SrcE E w v l ∧ (∀ y ∈ l, Q w y) ∧ (l = [] ∨ ∃ es sp, d = .slice es sp ∧ es.length = l.length) := by
  obtain ⟨a, len, cap, rfl⟩ := okWide_slice E.under hv
  obtain ⟨fuel, hf⟩ := h
  obtain ⟨v', l, hcs, hl, hq, hm⟩ := open_elemsQ hE hf
  obtain rfl : v' = .slice a len cap := by
    simp [Value.cells] at hcs
    exact hcs.symm
  exact ⟨l, hl, hq, hm⟩
end
/-- A call: what to do, of whom, its ring and its peers as they lie, what is drawn. -/
structure CallG where
  op : Int
  frm : Int
  r : Rg
  p : Option Addr
  n : Nat
  c : Nat
  pp : Option Addr
  pn : Nat
  pc : Nat
  ps : List Int
  draw : Int
def CallG.enc (y : CallG) : List Value := [.int .i64 y.op, .int .i64 y.frm] ++ (rgC y.r (.slice y.p y.n y.c) ++ [.slice y.pp y.pn y.pc, .int .u64 y.draw])
instance : Inhabited CallG := ⟨⟨0, 0, noR, none, 0, 0, none, 0, 0, [], 0⟩⟩
def elemG : Elem Try.prog CallG where
  enc := CallG.enc
  k := 47
  pos := by decide
  len _ := rfl
  one x u hu := List.all_eq_true.1 (show x.enc.all Value.oneCell' = true by kernel_rfl) u hu
  t := 40
  sl := 22
  under := Try.underlying22
  z := .agg (default : CallG).enc.toArray
  bytes := 408
  bpos := by decide
  info := by kernel_rfl
  zs := by kernel_rfl
def CallGQ (w : World) (y : CallG) : Prop := SrcE elemI w (.slice y.p y.n y.c) y.r.p.2.2 ∧ SrcE elemI w (.slice y.pp y.pn y.pc) y.ps ∧ 0 ≤ y.draw ∧ y.draw < 18446744073709551616
theorem src_form {W : World} {v : Value} {l : List Int} (h : SrcE elemI W v l) : ∃ p c, v = .slice p l.length c := by
  obtain ⟨_, p, c, e, _⟩ := h
  exact ⟨p, c, e⟩
set_option maxRecDepth 100000 in
theorem readG : ReadQ elemG CallGQ where
  cells := by kernel_rfl
  bytes := by kernel_rfl
  read := by
    intro H enc w base spare held fuel cs x h
    have cInt : Try.prog.cellsOf 3 = 1 := by kernel_rfl
    have cU : Try.prog.cellsOf 38 = 1 := by kernel_rfl
    have cS : Try.prog.cellsOf 30 = 1 := by kernel_rfl
    have cR : Try.prog.cellsOf 37 = 43 := by kernel_rfl
    obtain ⟨xs, n, _, _, hl, hxs, hp⟩ := DataW.trod_struct Try.underlying40 h
    have hl : cs.length = 47 := hl.trans (by kernel_rfl)
    have hx : xs.length = 5 := hxs
    clear h hxs
    have p0 : DataW.trod enc Try.prog w base spare held n 3 ((cs.drop 0).take (Try.prog.cellsOf 3)) = xs[0]? := hp 0 _ rfl
    have p1 : DataW.trod enc Try.prog w base spare held n 3 ((cs.drop 1).take (Try.prog.cellsOf 3)) = xs[1]? := hp 1 _ rfl
    have p2 : DataW.trod enc Try.prog w base spare held n 37 ((cs.drop 2).take (Try.prog.cellsOf 37)) = xs[2]? := hp 2 _ rfl
    have p3 : DataW.trod enc Try.prog w base spare held n 30 ((cs.drop 45).take (Try.prog.cellsOf 30)) = xs[3]? := hp 3 _ rfl
    have p4 : DataW.trod enc Try.prog w base spare held n 38 ((cs.drop 46).take (Try.prog.cellsOf 38)) = xs[4]? := hp 4 _ rfl
    clear hp
    rw [List.getElem?_eq_getElem (by omega)] at p0 p1 p2 p3 p4
    rw [cInt] at p0 p1
    rw [cR] at p2
    rw [cS] at p3
    rw [cU] at p4
    obtain ⟨i0, h0, -, -⟩ := DataW.trod_int Try.underlying3 p0
    obtain ⟨i1, h1, -, -⟩ := DataW.trod_int Try.underlying3 p1
    obtain ⟨⟨r, v2⟩, h2, s2⟩ := read_ring p2
    dsimp only at h2 s2
    obtain ⟨v3, l3, h3, s3, -⟩ := open_elems readI p3
    obtain ⟨i4, h4, -, w4⟩ := DataW.trod_int Try.underlying38 p4
    have w4 : IntKind.u64.min ≤ i4 ∧ i4 ≤ IntKind.u64.max := by simpa [Lit.wf] using w4
    have w4 : 0 ≤ i4 ∧ i4 ≤ 18446744073709551615 := w4
    obtain ⟨a2, c2, rfl⟩ := src_form s2
    obtain ⟨a3, c3, rfl⟩ := src_form s3
    have h0 := one_at h0
    have h1 := one_at h1
    have h3 := one_at h3
    have h4 := one_at h4
    refine ⟨⟨i0, i1, r, a2, _, c2, a3, _, c3, l3, i4⟩, ?_, s2, s3, w4.1, by show i4 < _; omega⟩
    show cs = _
    apply List.ext_getElem?
    intro k
    by_cases k0 : k = 0
    · rw [k0]; exact h0
    by_cases k1 : k = 1
    · rw [k1]; exact h1
    by_cases k2 : k < 45
    · have q := drop_take_at (cs := cs) (o := 2) (n := 43) (k := k - 2) (by omega)
      rw [h2, show 2 + (k - 2) = k by omega] at q
      have hlt : k - 2 < (rgC r (.slice a2 r.p.2.2.length c2)).length := by rw [rgC_len]; omega
      have g := sub_app [.int .i64 i0, .int .i64 i1] (rgC r (.slice a2 r.p.2.2.length c2)) [.slice a3 l3.length c3, .int .u64 i4] (List.getElem?_eq_getElem hlt)
      rw [show ([Value.int .i64 i0, .int .i64 i1] : List Value).length + (k - 2) = k by show 2 + (k - 2) = k; omega] at g
      rw [← q, List.getElem?_eq_getElem hlt]
      exact g.symm
    by_cases k3 : k = 45
    · rw [k3]; exact h3
    by_cases k4 : k = 46
    · rw [k4]; exact h4
    · rw [List.getElem?_eq_none (by omega), List.getElem?_eq_none (by show 47 ≤ k; omega)]
end Go.Proofs.Ytnkchmafofpimaa
