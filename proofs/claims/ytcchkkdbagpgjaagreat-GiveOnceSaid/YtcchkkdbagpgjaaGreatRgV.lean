/- RgV: PlaA, EntQ, RgV. -/
import Derived.Test.YtcchkkdbagpgjaaGreatRgM
import Derived.Test.YtcchkkdbagpgjaaGreatPA
import Derived.Test.YtcchkkdbagpgjaaGreatPB
import Derived.Lib.SliceRun
import Derived.Laws.Rows
import Derived.Laws.StructEq
import Derived.StillTailTactics
import Derived.ChangeKeysEq
namespace Go.Proofs.YtcchkkdbagpgjaaGreat
section
open Go Go.RowKit Go.BigFrame
theorem may_ways (v b : Int) (t : List Int) : (v = 0 ∧ b = 0 ∧ t.length = 0 ∧ noneB v b t.length = true ∧ mayP (v, b, t) = true) ∨ (v = 0 ∧ b = 0 ∧ t.length ≠ 0 ∧ noneB v b t.length = false ∧ mayP (v, b, t) = false) ∨ (v = 0 ∧ b ≠ 0 ∧ noneB v b t.length = false ∧ mayP (v, b, t) = false) ∨ (v ≠ 0 ∧ ¬ 1 ≤ v ∧ noneB v b t.length = false ∧ mayP (v, b, t) = false) ∨ (v ≠ 0 ∧ 1 ≤ v ∧ ¬ v ≤ 1000000 ∧ noneB v b t.length = false ∧ mayP (v, b, t) = false) ∨ (v ≠ 0 ∧ 1 ≤ v ∧ v ≤ 1000000 ∧ nodeE b = false ∧ noneB v b t.length = false ∧ mayP (v, b, t) = false) ∨ (v ≠ 0 ∧ 1 ≤ v ∧ v ≤ 1000000 ∧ nodeE b = true ∧ noneB v b t.length = false ∧ mayP (v, b, t) = tgtL t) := by
 have hm : mayP (v, b, t) = (noneB v b t.length || (decide (1 ≤ v ∧ v ≤ 1000000) && nodeE b && tgtL t)) := rfl
 rw [hm]
 by_cases h1 : v = 0
 ·have k0 : decide (1 ≤ v ∧ v ≤ 1000000) = false := decide_eq_false (by omega)
  by_cases h2 : b = 0
  ·by_cases h3 : t.length = 0
   ·have k1 : noneB v b t.length = true := decide_eq_true ⟨h1, h2, h3⟩
    exact .inl ⟨h1, h2, h3, k1, by rw [k1]; rfl⟩
   ·have k1 : noneB v b t.length = false := decide_eq_false (by omega)
    exact .inr (.inl ⟨h1, h2, h3, k1, by rw [k1, k0]; rfl⟩)
  ·have k1 : noneB v b t.length = false := decide_eq_false (by omega)
   exact .inr (.inr (.inl ⟨h1, h2, k1, by rw [k1, k0]; rfl⟩))
 ·have k1 : noneB v b t.length = false := decide_eq_false (by omega)
  by_cases h2 : 1 ≤ v
  ·by_cases h3 : v ≤ 1000000
   ·have k0 : decide (1 ≤ v ∧ v ≤ 1000000) = true := decide_eq_true ⟨h2, h3⟩
    rcases Bool.eq_false_or_eq_true (nodeE b) with hn | hn
    ·exact .inr (.inr (.inr (.inr (.inr (.inr ⟨h1, h2, h3, hn, k1, by rw [k1, k0, hn]; rfl⟩)))))
    ·exact .inr (.inr (.inr (.inr (.inr (.inl ⟨h1, h2, h3, hn, k1, by rw [k1, k0, hn]; rfl⟩)))))
   ·exact .inr (.inr (.inr (.inr (.inl ⟨h1, h2, h3, k1, by rw [k1, decide_eq_false (show ¬ (1 ≤ v ∧ v ≤ 1000000) by omega)]; rfl⟩))))
  ·exact .inr (.inr (.inr (.inl ⟨h1, h2, k1, by rw [k1, decide_eq_false (show ¬ (1 ≤ v ∧ v ≤ 1000000) by omega)]; rfl⟩)))
theorem int_letter (p : Int) : ∃ x, p = x := ⟨p, rfl⟩
theorem bool_letter (p : Bool) : ∃ x, p = x := ⟨p, rfl⟩
theorem Reads.row {P : Program} {α : Type} {E : Elem P α} {A : At} {v : Value} {xs : List α} (h : Reads E A v xs) : ∀ W H, A.p W H → RowAt E W v xs := fun W H q => (h W H q).1
theorem srcNil (R : At) : Reads elemI R (.slice none 0 0) [] := fun _ _ _ => ⟨.inl ⟨rfl, _, _, rfl⟩, none, 0, rfl, Nat.zero_le _, fun _ => rfl⟩
theorem src_nil {P : Program} {α : Type} {E : Elem P α} {W : World} {n c : Nat} {l : List α} (h : SrcE E W (.slice none n c) l) : l = [] := by
 obtain ⟨_, p, cap, he, hle, hp⟩ := h
 simp only [Value.slice.injEq] at he
 obtain ⟨rfl, _, rfl⟩ := he
 exact List.eq_nil_of_length_eq_zero (by have := hp rfl; omega)
set_option maxRecDepth 100000 in
theorem run_eqnil {a : Act} {o : Oper} {x y : Operand} {p : Option Addr} {n c : Nat} {W : World} {tt : TypeId} (ho : o.op = .binOp .eql 42 x y tt) (hx : a.eval x = .slice p n c) (hy : a.eval y = .slice none 0 0) : (execOp a.eval o).run Tryz.prog W = .ok (.value (.bool p.isNone)) W := by
 have he := Go.Lib.run_eql_slice_nil (P := Tryz.prog) W 42 3 p n c 0 0 Tryz.underlying42
 have hg : (eqGuard .eql 42 x y (.slice p n c) (.slice none 0 0)).run Tryz.prog W = .ok () W := by
  unfold eqGuard
  simp [go_sem]
 unfold execOp
 simp only [ho, hx, hy, Sem.run_bind, hg, he, Result.andThen_ok, Sem.run_pure]
end
section
open Go Go.RowKit Go.BigFrame
def eV (x : En) : Value := .agg #[.int .i64 x.1, .int .i64 x.2]
set_option maxRecDepth 100000 in
theorem ent_under : Tryz.prog.underlying 46 = some (.struct (Tryz.prog.fieldsOf 46)) := Tryz.underlying46
def twoB (t1 t2 : TypeId) (o2 : Nat) : List Field → Bool
 | [f, g] => f.name != "_" && f.type == t1 && f.offset == 0 && g.name != "_" && g.type == t2 && g.offset == o2
 | _ => false
theorem twoB_spec {t1 t2 : TypeId} {o2 : Nat} : ∀ {l : List Field}, twoB t1 t2 o2 l = true → ∃ f g, l = [f, g] ∧ f.name ≠ "_" ∧ f.type = t1 ∧ f.offset = 0 ∧ g.name ≠ "_" ∧ g.type = t2 ∧ g.offset = o2
 | [f, g], h => by
  simp only [twoB, Bool.and_eq_true, bne_iff_ne, beq_iff_eq] at h
  obtain ⟨⟨⟨⟨⟨h1, h2⟩, h3⟩, h4⟩, h5⟩, h6⟩ := h
  exact ⟨f, g, rfl, h1, h2, h3, h4, h5, h6⟩
 | [], h => by simp [twoB] at h
 | [_], h => by simp [twoB] at h
 | _ :: _ :: _ :: _, h => by simp [twoB] at h
theorem ent_fields : ∃ f g, (Tryz.prog.fieldsOf 46).toList = [f, g] ∧ f.name ≠ "_" ∧ f.type = 3 ∧ f.offset = 0 ∧ g.name ≠ "_" ∧ g.type = 3 ∧ g.offset = 1 := twoB_spec (by kernel_rfl)
theorem ent_in : Tryz.prog.stoodInHeld 46 = false := by kernel_rfl
theorem ent_guard : Tryz.prog.eqGuardType Tryz.prog.depth 46 = false := by kernel_rfl
theorem int_part {xs : Array Value} {j : Nat} {x : Int} (h : xs[j]? = some (.int .i64 x)) (W : World) : (part 3 xs j).run Tryz.prog W = .ok (.int .i64 x) W := by
 have hs := int_size W
 have hg := int_agg W
 simp only [part, Sem.run_bind, hg, Result.andThen_ok]
 rw [if_neg (by simp)]
 simp only [h, Sem.run_pure]
set_option maxRecDepth 100000 in
theorem run_eqIn' (n : Nat) (W : World) (p q : En) : (Op.equalIn (n + 2) 46 (eV p) (eV q)).run Tryz.prog W = .ok (decide (p = q)) W := by
 obtain ⟨p1, p2⟩ := p
 obtain ⟨q1, q2⟩ := q
 unfold eV
 obtain ⟨f, g, e0, e1, e2, e3, e4, e5, e6⟩ := ent_fields
 rw [run_equalIn_struct W (n + 1) _ _ _ ent_under ent_in, e0]
 simp only [Op.eqFields]
 rw [if_pos e1, if_pos e4, e2, e3, e5, e6]
 have a1 := int_part (xs := #[.int .i64 p1, .int .i64 p2]) (j := 0) rfl
 have a2 := int_part (xs := #[.int .i64 p1, .int .i64 p2]) (j := 1) rfl
 have b1 := int_part (xs := #[.int .i64 q1, .int .i64 q2]) (j := 0) rfl
 have b2 := int_part (xs := #[.int .i64 q1, .int .i64 q2]) (j := 1) rfl
 simp only [Sem.run_bind, Sem.run_ite, a1, a2, b1, b2, Result.andThen_ok, run_equalIn_int W n 3 .i64 .i64 _ _ Tryz.underlying3]
 by_cases h1 : p1 = q1 <;> by_cases h2 : p2 = q2 <;> simp [h1, h2]
theorem run_eqIn (W : World) (p q : En) : (Op.equalIn 10000 46 (eV p) (eV q)).run Tryz.prog W = .ok (decide (p = q)) W := run_eqIn' 9998 W p q
theorem run_eqE {a : Act} {o : Oper} {x y : Operand} {p q : En} {W : World} {tt : TypeId} (ho : o.op = .binOp .eql 46 x y tt) (hx : a.eval x = eV p) (hy : a.eval y = eV q) : (execOp a.eval o).run Tryz.prog W = .ok (.value (.bool (decide (p = q)))) W := by
 have hg : (eqGuard .eql 46 x y (eV p) (eV q)).run Tryz.prog W = .ok () W := run_eqGuard_agg W .eql _ x y _ _ ent_guard
 have he := run_eqIn W p q
 unfold execOp
 simp only [ho, hx, hy, Sem.run_bind, hg, Result.andThen_ok]
 unfold eV at he ⊢
 rw [run_eql_struct, he]
 rfl
theorem run_eqEb {a : Act} {o : Oper} {x y : Operand} {p q : En} {W : World} {tt : TypeId} {b : Bool} (hb : decide (p = q) = b) (ho : o.op = .binOp .eql 46 x y tt) (hx : a.eval x = eV p) (hy : a.eval y = eV q) : (execOp a.eval o).run Tryz.prog W = .ok (.value (.bool b)) W := by
 subst hb
 exact run_eqE ho hx hy
end
section
open Go Go.RowKit Go.BigFrame
def stC (f : Nat → Int) : List Value := (tab8 f).map iV
def eC (x : En) : List Value := [.int .i64 x.1, .int .i64 x.2]
def enC (f : Nat → En) : List Value := (tab16 f).flatMap eC
def plC (p : Pl) (sl : Value) : List Value := [.int .i64 p.1, .int .i64 p.2.1, sl]
def rgC (r : Rg) (sl : Value) : List Value := stC r.s ++ (plC r.p sl ++ enC r.e)
abbrev rgV (r : Rg) (sl : Value) : Value := .agg (rgC r sl).toArray
theorem sub_app (A B C : List Value) {k : Nat} {u : Value} (h : B[k]? = some u) : (A ++ (B ++ C))[A.length + k]? = some u := by
 rw [List.getElem?_append_right (Nat.le_add_right _ _), Nat.add_sub_cancel_left, List.getElem?_append_left (List.getElem?_eq_some_iff.1 h).1]
 exact h
theorem flat_at : ∀ (l : List En) (i : Nat) (x : En) (k : Nat) (u : Value), l[i]? = some x → (eC x)[k]? = some u → (l.flatMap eC)[i * 2 + k]? = some u
 | [], i, x, k, u, h, _ => by simp at h
 | y :: l, 0, x, k, u, h, hu => by
  simp only [List.getElem?_cons_zero, Option.some.injEq] at h
  subst h
  rw [List.flatMap_cons, Nat.zero_mul, Nat.zero_add, List.getElem?_append_left (List.getElem?_eq_some_iff.1 hu).1]
  exact hu
 | y :: l, i + 1, x, k, u, h, hu => by
  rw [List.getElem?_cons_succ] at h
  have h1 := flat_at l i x k u h hu
  rw [List.flatMap_cons, List.getElem?_append_right (by show 2 ≤ _; omega)]
  rw [show (i + 1) * 2 + k - (eC y).length = i * 2 + k by show (i + 1) * 2 + k - 2 = _; omega]
  exact h1
section
variable {r : Rg} {sl : Value}
theorem rgC_st : ∀ k u, (stC r.s)[k]? = some u → (rgC r sl)[0 + k]? = some u := fun k u h => by
 rw [Nat.zero_add]
 unfold rgC
 rw [List.getElem?_append_left (List.getElem?_eq_some_iff.1 h).1]
 exact h
theorem rgC_pl : ∀ k u, (plC r.p sl)[k]? = some u → (rgC r sl)[8 + k]? = some u := fun _ _ h => sub_app (stC r.s) (plC r.p sl) (enC r.e) h
theorem rgC_en : ∀ k u, (enC r.e)[k]? = some u → (rgC r sl)[11 + k]? = some u := fun k u h => by
 have h1 := sub_app (stC r.s ++ plC r.p sl) (enC r.e) [] h
 rw [List.append_nil, List.append_assoc] at h1
 exact h1
theorem rgC_s {i : Nat} (h : i < 8) : (rgC r sl)[i]? = some (.int .i64 (r.s i)) := by
 have h1 := rgC_st (r := r) (sl := sl) i (.int .i64 (r.s i)) (by unfold stC; rw [List.getElem?_map, tab8_at _ h]; rfl)
 rwa [Nat.zero_add] at h1
theorem rgC_e {i : Nat} (h : i < 16) : ∀ k u, (eC (r.e i))[k]? = some u → (rgC r sl)[11 + i * 2 + k]? = some u := fun k u hk => by
 rw [Nat.add_assoc]
 exact rgC_en _ _ (flat_at _ i _ k u (tab16_at _ h) hk)
theorem rgC_e1 {i : Nat} (h : i < 16) : (rgC r sl)[11 + i * 2]? = some (.int .i64 (r.e i).1) := rgC_e h 0 _ rfl
theorem rgC_e2 {i : Nat} (h : i < 16) : (rgC r sl)[11 + i * 2 + 1]? = some (.int .i64 (r.e i).2) := rgC_e h 1 _ rfl
theorem rgC_setE {i : Nat} (h : i < 16) (x : En) : putL (rgC r sl) (11 + i * 2) [.int .i64 x.1, .int .i64 x.2] = rgC ⟨r.s, r.p, upd r.e i x⟩ sl := by
 rcases (show i = 0 ∨ i = 1 ∨ i = 2 ∨ i = 3 ∨ i = 4 ∨ i = 5 ∨ i = 6 ∨ i = 7 ∨ i = 8 ∨ i = 9 ∨ i = 10 ∨ i = 11 ∨ i = 12 ∨ i = 13 ∨ i = 14 ∨ i = 15 from by omega) with rfl | rfl | rfl | rfl | rfl | rfl | rfl | rfl | rfl | rfl | rfl | rfl | rfl | rfl | rfl | rfl <;> rfl
theorem rgC_len : (rgC r sl).length = 43 := rfl
theorem rgC_one (p : Option Addr) (n c : Nat) : ((rgC r (.slice p n c)).all Value.oneCell') = true := by kernel_rfl
end
section
variable {L : List At} {H0 : Nat → Prop} {w W : World}
theorem Mem.sub {b : Nat} {cs cells : List Value} {t : TypeId} (h : Mem L H0 w W) (i : Nat) (hi : L[i]? = some (boxT b (.cells cs.toArray t (0, 0)))) {off : Nat} (hs : ∀ k u, cells[k]? = some u → cs[off + k]? = some u) : ∀ k u, cells[k]? = some u → W.cell? ⟨b, off + k, none⟩ = some u := fun k u hk => (h.cellL i hi (off + k)).trans (hs k u hk)
theorem Mem.sub1 {b : Nat} {cs : List Value} {t : TypeId} (h : Mem L H0 w W) (i : Nat) (hi : L[i]? = some (boxT b (.cells cs.toArray t (0, 0)))) {off : Nat} {u : Value} (hs : cs[off]? = some u) : W.cell? ⟨b, off, none⟩ = some u := (h.cellL i hi off).trans hs
def ringT (u : Value) (x : Rg) : At := exT fun s : Option Addr × Nat => [prT (u = rgV x (.slice s.1 x.p.2.2.length s.2)), rowT elemI (.slice s.1 x.p.2.2.length s.2) x.p.2.2]
theorem Mem.toRing {p : Option Addr} {c : Nat} {x : Rg} (h : Mem (rowT elemI (.slice p x.p.2.2.length c) x.p.2.2 :: L) H0 w W) : Mem (ringT (rgV x (.slice p x.p.2.2.length c)) x :: L) H0 w W := Mem.addEx (p, c) (Mem.addPr rfl h)
theorem Mem.ring {u : Value} {x : Rg} {n : Nat} (hn : x.p.2.2.length = n) (h : Mem (ringT u x :: L) H0 w W) : ∃ p c, u = rgV x (.slice p n c) ∧ Mem (rowT elemI (.slice p n c) x.p.2.2 :: L) H0 w W := by
 subst hn
 obtain ⟨s, h⟩ := Mem.ex h
 obtain ⟨hu, h⟩ := Mem.pr h
 exact ⟨s.1, s.2, hu, h⟩
end
set_option maxRecDepth 100000 in
theorem is8 : IsArr 37 8 := ⟨Tryz.underlying37, by kernel_rfl⟩
set_option maxRecDepth 100000 in
theorem under16 : Tryz.prog.underlying 47 = some (.array 16 46) := Tryz.underlying47
theorem ent_size (W : World) : (sizeOf 46).run Tryz.prog W = .ok 2 W := by
 have e : (Tryz.prog.info? 46).map (·.size) = some 2 := by kernel_rfl
 obtain ⟨i0, h1, h2⟩ := Option.map_eq_some_iff.1 e
 simp [sizeOf, typeInfo, h1, h2, go_sem]
theorem ent_agg (W : World) : (isAgg 46).run Tryz.prog W = .ok true W := by
 have hu' : (underlying 46).run Tryz.prog W = .ok (.struct (Tryz.prog.fieldsOf 46)) W := by simp [underlying, go_sem]
 unfold isAgg
 rw [Sem.run_bind, hu', Result.andThen_ok]
 simp [go_sem]
section
variable {W w : World} {H0 : Nat → Prop} {L : List At} {S : Nat → Prop} {ops : Array Oper} {Q : Act → World → Prop} {rest : List (Nat × Nat)} {a : Act} {i : Nat} {o : Oper} {d : Option Tmp}
set_option maxRecDepth 100000 in
theorem part_ent {f : Nat → En} {j : Nat} (hj : j < 16) (W : World) : (part 46 (enC f).toArray (j * 2)).run Tryz.prog W = .ok (eV (f j)) W := by
 have hs := ent_size W
 have hg := ent_agg W
 simp only [part, Sem.run_bind, hg, hs, Result.andThen_ok, if_true, Sem.run_pure]
 congr 1
 rcases (show j = 0 ∨ j = 1 ∨ j = 2 ∨ j = 3 ∨ j = 4 ∨ j = 5 ∨ j = 6 ∨ j = 7 ∨ j = 8 ∨ j = 9 ∨ j = 10 ∨ j = 11 ∨ j = 12 ∨ j = 13 ∨ j = 14 ∨ j = 15 from by omega) with rfl | rfl | rfl | rfl | rfl | rfl | rfl | rfl | rfl | rfl | rfl | rfl | rfl | rfl | rfl | rfl <;> rfl
theorem run_items {e : TypeId} {c dd : Nat} {xs ys : Array Value} {β : Type} [DecidableEq β] {f g : Nat → β} : ∀ (is : List Nat), (∀ j ∈ is, ∃ u v, (part e xs (j * c)).run Tryz.prog W = .ok u W ∧ (part e ys (j * c)).run Tryz.prog W = .ok v W ∧ (Op.equalIn dd e u v).run Tryz.prog W = .ok (decide (f j = g j)) W) → (Op.eqItems dd e c xs ys is).run Tryz.prog W = .ok (decide (is.map f = is.map g)) W
 | [], _ => by simp [Op.eqItems]
 | j :: is, h => by
  obtain ⟨u, v, h1, h2, h3⟩ := h j (by simp)
  have ih := run_items is fun k hk => h k (by simp [hk])
  simp only [Op.eqItems, Sem.run_bind, h1, h2, h3, Result.andThen_ok, Sem.run_ite, ih]
  by_cases hfg : f j = g j <;> simp [hfg]
set_option maxRecDepth 100000 in
theorem run_eqSt {x y : Operand} {tt : TypeId} {f g : Nat → Int} {b : Bool} (hb : decide (tab8 f = tab8 g) = b) (ho : o.op = .binOp .eql 37 x y tt) (hx : a.eval x = .agg (stC f).toArray) (hy : a.eval y = .agg (stC g).toArray) : (execOp a.eval o).run Tryz.prog W = .ok (.value (.bool b)) W := by
 subst hb
 have hg : (eqGuard .eql 37 x y (.agg (stC f).toArray) (.agg (stC g).toArray)).run Tryz.prog W = .ok () W := run_eqGuard_agg W .eql _ x y _ _ (by kernel_rfl)
 obtain ⟨i0, hin, hz0, hz1, hz2⟩ := info_parts elemI.info
 have he : (Op.equalIn 10000 37 (.agg (stC f).toArray) (.agg (stC g).toArray)).run Tryz.prog W = .ok (decide (tab8 f = tab8 g)) W := by
  rw [run_equalIn_array W 9999 _ _ is8.under hin, show Tryz.prog.cellsOf 3 = 1 by kernel_rfl, tab8_is, tab8_is]
  refine run_items _ fun j hj => ?_
  have hj8 := List.mem_range.1 hj
  have e1 : ∀ h : Nat → Int, ((stC h).toArray)[j * 1]? = some (.int .i64 (h j)) := fun h => by unfold stC; rw [Nat.mul_one, List.getElem?_toArray, List.getElem?_map, tab8_at h hj8]; rfl
  refine ⟨_, _, int_part (e1 f) W, int_part (e1 g) W, ?_⟩
  rw [run_equalIn_int W 9998 3 .i64 .i64 _ _ Tryz.underlying3]
  by_cases h : f j = g j <;> simp [h]
 unfold execOp
 simp only [ho, hx, hy, Sem.run_bind, hg, Result.andThen_ok]
 rw [run_eql_struct, he]
 rfl
theorem run_eqEn {x y : Operand} {tt : TypeId} {f g : Nat → En} {b : Bool} (hb : decide (tab16 f = tab16 g) = b) (ho : o.op = .binOp .eql 47 x y tt) (hx : a.eval x = .agg (enC f).toArray) (hy : a.eval y = .agg (enC g).toArray) : (execOp a.eval o).run Tryz.prog W = .ok (.value (.bool b)) W := by
 subst hb
 have hg : (eqGuard .eql 47 x y (.agg (enC f).toArray) (.agg (enC g).toArray)).run Tryz.prog W = .ok () W := run_eqGuard_agg W .eql _ x y _ _ (by kernel_rfl)
 obtain ⟨i0, hin⟩ : ∃ i, Tryz.prog.info? 46 = some i := info_of_underlying ent_under
 have he : (Op.equalIn 10000 47 (.agg (enC f).toArray) (.agg (enC g).toArray)).run Tryz.prog W = .ok (decide (tab16 f = tab16 g)) W := by
  rw [run_equalIn_array W 9999 _ _ under16 hin, show Tryz.prog.cellsOf 46 = 2 by kernel_rfl, tab16_is, tab16_is]
  refine run_items _ fun j hj => ?_
  have hj16 := List.mem_range.1 hj
  exact ⟨_, _, part_ent hj16 W, part_ent hj16 W, run_eqIn' 9997 W (f j) (g j)⟩
 unfold execOp
 simp only [ho, hx, hy, Sem.run_bind, hg, Result.andThen_ok]
 rw [run_eql_struct, he]
 rfl
end
end
end Go.Proofs.YtcchkkdbagpgjaaGreat
