/- BgV: VcV, BgV. -/
import Derived.Test.YtcchkkdbagpgjaaGreatBgM
import Derived.Test.YtcchkkdbagpgjaaGreatPB
import Derived.Test.YtcchkkdbagpgjaaGreatPA
import Derived.Laws.Rows
import Derived.Laws.StructEq
import Derived.StillTailTactics
import Derived.ChangeKeysEq
namespace Go.Proofs.YtcchkkdbagpgjaaGreat
section
open Go Go.RowKit Go.BigFrame
abbrev dV (x : En) : Value := .agg #[.int .i64 x.1, .int .i64 x.2]
theorem vint_size (W : World) : (sizeOf 3).run Tryz.prog W = .ok 1 W := by
 have e : (Tryz.prog.info? 3).map (·.size) = some 1 := by kernel_rfl
 obtain ⟨i0, h1, h2⟩ := Option.map_eq_some_iff.1 e
 simp [sizeOf, typeInfo, h1, h2, go_sem]
set_option maxRecDepth 100000 in
theorem vint_agg (W : World) : (isAgg 3).run Tryz.prog W = .ok false W := by
 have hu' : (underlying 3).run Tryz.prog W = .ok (.int .i64) W := by simp [underlying, Tryz.underlying3, go_sem]
 unfold isAgg
 rw [Sem.run_bind, hu', Result.andThen_ok]
 simp [go_sem]
set_option maxRecDepth 100000 in
theorem dot_under : Tryz.prog.underlying 72 = some (.struct (Tryz.prog.fieldsOf 72)) := Tryz.underlying72
def dtwoB (t1 t2 : TypeId) (o2 : Nat) : List Field → Bool
 | [f, g] => f.name != "_" && f.type == t1 && f.offset == 0 && g.name != "_" && g.type == t2 && g.offset == o2
 | _ => false
theorem dtwoB_spec {t1 t2 : TypeId} {o2 : Nat} : ∀ {l : List Field}, dtwoB t1 t2 o2 l = true → ∃ f g, l = [f, g] ∧ f.name ≠ "_" ∧ f.type = t1 ∧ f.offset = 0 ∧ g.name ≠ "_" ∧ g.type = t2 ∧ g.offset = o2
 | [f, g], h => by
  simp only [dtwoB, Bool.and_eq_true, bne_iff_ne, beq_iff_eq] at h
  obtain ⟨⟨⟨⟨⟨h1, h2⟩, h3⟩, h4⟩, h5⟩, h6⟩ := h
  exact ⟨f, g, rfl, h1, h2, h3, h4, h5, h6⟩
 | [], h => by simp [dtwoB] at h
 | [_], h => by simp [dtwoB] at h
 | _ :: _ :: _ :: _, h => by simp [dtwoB] at h
theorem dot_fields : ∃ f g, (Tryz.prog.fieldsOf 72).toList = [f, g] ∧ f.name ≠ "_" ∧ f.type = 3 ∧ f.offset = 0 ∧ g.name ≠ "_" ∧ g.type = 3 ∧ g.offset = 1 := dtwoB_spec (by kernel_rfl)
theorem dot_in : Tryz.prog.stoodInHeld 72 = false := by kernel_rfl
theorem dint_part {xs : Array Value} {j : Nat} {x : Int} (h : xs[j]? = some (.int .i64 x)) (W : World) : (part 3 xs j).run Tryz.prog W = .ok (.int .i64 x) W := by
 have hs := vint_size W
 have hg := vint_agg W
 simp only [part, Sem.run_bind, hg, Result.andThen_ok]
 rw [if_neg (by simp)]
 simp only [h, Sem.run_pure]
set_option maxRecDepth 100000 in
theorem run_eqDn' (n : Nat) (W : World) (p q : En) : (Op.equalIn (n + 2) 72 (dV p) (dV q)).run Tryz.prog W = .ok (decide (p = q)) W := by
 obtain ⟨p1, p2⟩ := p
 obtain ⟨q1, q2⟩ := q
 unfold dV
 obtain ⟨f, g, e0, e1, e2, e3, e4, e5, e6⟩ := dot_fields
 rw [run_equalIn_struct W (n + 1) _ _ _ dot_under dot_in, e0]
 simp only [Op.eqFields]
 rw [if_pos e1, if_pos e4, e2, e3, e5, e6]
 have a1 := dint_part (xs := #[.int .i64 p1, .int .i64 p2]) (j := 0) rfl
 have a2 := dint_part (xs := #[.int .i64 p1, .int .i64 p2]) (j := 1) rfl
 have b1 := dint_part (xs := #[.int .i64 q1, .int .i64 q2]) (j := 0) rfl
 have b2 := dint_part (xs := #[.int .i64 q1, .int .i64 q2]) (j := 1) rfl
 simp only [Sem.run_bind, Sem.run_ite, a1, a2, b1, b2, Result.andThen_ok, run_equalIn_int W n 3 .i64 .i64 _ _ Tryz.underlying3]
 by_cases h1 : p1 = q1 <;> by_cases h2 : p2 = q2 <;> simp [h1, h2]
def vcC (f : Nat → Int) : List Value := (tab8 f).map iV
abbrev vV (f : Nat → Int) : Value := .agg (vcC f).toArray
theorem vcC_len {f : Nat → Int} : (vcC f).length = 8 := rfl
theorem vcC_one (f : Nat → Int) : ((vcC f).all Value.oneCell') = true := by kernel_rfl
theorem vcC_at {f : Nat → Int} {i : Nat} (h : i < 8) : (vcC f)[i]? = some (.int .i64 (f i)) := by unfold vcC; rw [List.getElem?_map, tab8_at _ h]; rfl
theorem vcC_set {f : Nat → Int} {i : Nat} (h : i < 8) (x : Int) : putL (vcC f) i [.int .i64 x] = vcC (upd f i x) := by
 rcases (show i = 0 ∨ i = 1 ∨ i = 2 ∨ i = 3 ∨ i = 4 ∨ i = 5 ∨ i = 6 ∨ i = 7 from by omega) with rfl | rfl | rfl | rfl | rfl | rfl | rfl | rfl <;> rfl
theorem vcC_congr {f g : Nat → Int} (h : ∀ i, i < 8 → f i = g i) : vcC f = vcC g := by unfold vcC; rw [tab8_eq.2 h]
section
variable {W : World} {a : Act} {o : Oper}
set_option maxRecDepth 100000 in
theorem run_addrV {x ix : Operand} {b j : Nat} (hj : j < 8) (ho : o.op = .indexAddr 38 x ix) (hx : a.eval x = .pointer (some ⟨b, 0, none⟩)) (hix : a.eval ix = .int .i64 (j : Int)) : (execOp a.eval o).run Tryz.prog W = .ok (.value (.pointer (some ⟨b, j, none⟩))) W := by
 have hu : (underlying 38).run Tryz.prog W = .ok (.array 8 3) W := by simp [underlying, Tryz.underlying38, go_sem]
 have hs := vint_size W
 unfold execOp
 simp only [ho, hx, hix, Instr.indexAt, asIntOf, Instr.sureAddr, Sem.run_bind, Sem.run_pure, Result.andThen_ok, hu]
 simp [hs, addr_off, go_sem]
 omega
theorem run_addrVI {x ix : Operand} {b : Nat} {n : Int} (hn : 0 ≤ n ∧ n < 8) (ho : o.op = .indexAddr 38 x ix) (hx : a.eval x = .pointer (some ⟨b, 0, none⟩)) (hix : a.eval ix = .int .i64 n) : (execOp a.eval o).run Tryz.prog W = .ok (.value (.pointer (some ⟨b, n.toNat, none⟩))) W := by
 obtain ⟨j, rfl⟩ := Int.eq_ofNat_of_zero_le hn.1
 exact run_addrV (by omega) ho hx hix
set_option maxRecDepth 100000 in
theorem run_indexV {x ix : Operand} {f : Nat → Int} {j : Nat} (hj : j < 8) (ho : o.op = .index 38 x ix) (hx : a.eval x = vV f) (hix : a.eval ix = .int .i64 (j : Int)) : (execOp a.eval o).run Tryz.prog W = .ok (.value (.int .i64 (f j))) W := by
 have hu : (underlying 38).run Tryz.prog W = .ok (.array 8 3) W := by simp [underlying, Tryz.underlying38, go_sem]
 have hs := vint_size W
 have hg := vint_agg W
 have hc : ((vcC f).toArray)[j]? = some (.int .i64 (f j)) := by rw [List.getElem?_toArray, vcC_at hj]
 unfold execOp
 simp only [ho, hx, hix, Instr.index, asIntOf, Sem.run_bind, Sem.run_pure, Result.andThen_ok, hu]
 rw [if_pos ⟨Int.natCast_nonneg j, by exact_mod_cast hj⟩]
 simp only [part, Sem.run_bind, hs, hg, Result.andThen_ok, Int.toNat_natCast, Nat.mul_one]
 rw [if_neg (by simp)]
 simp only [hc, Sem.run_pure, Result.andThen_ok]
theorem run_itemsV {e : TypeId} {c dd : Nat} {xs ys : Array Value} {β : Type} [DecidableEq β] {f g : Nat → β} : ∀ (is : List Nat), (∀ j ∈ is, ∃ u v, (part e xs (j * c)).run Tryz.prog W = .ok u W ∧ (part e ys (j * c)).run Tryz.prog W = .ok v W ∧ (Op.equalIn dd e u v).run Tryz.prog W = .ok (decide (f j = g j)) W) → (Op.eqItems dd e c xs ys is).run Tryz.prog W = .ok (decide (is.map f = is.map g)) W
 | [], _ => by simp [Op.eqItems]
 | j :: is, h => by
  obtain ⟨u, v, h1, h2, h3⟩ := h j (by simp)
  have ih := run_itemsV is fun k hk => h k (by simp [hk])
  simp only [Op.eqItems, Sem.run_bind, h1, h2, h3, Result.andThen_ok, Sem.run_ite, ih]
  by_cases hfg : f j = g j <;> simp [hfg]
set_option maxRecDepth 100000 in
theorem run_eqIV (W : World) (f g : Nat → Int) : (Op.equalIn 10000 38 (vV f) (vV g)).run Tryz.prog W = .ok (decide (tab8 f = tab8 g)) W := by
 obtain ⟨i0, hin⟩ : ∃ i, Tryz.prog.info? 3 = some i := info_of_underlying Tryz.underlying3
 rw [run_equalIn_array W 9999 _ _ Tryz.underlying38 hin, show Tryz.prog.cellsOf 3 = 1 by kernel_rfl, tab8_is, tab8_is]
 refine run_itemsV _ fun j hj => ?_
 have hj8 := List.mem_range.1 hj
 have e1 : ∀ h : Nat → Int, ((vcC h).toArray)[j * 1]? = some (.int .i64 (h j)) := fun h => by rw [Nat.mul_one, List.getElem?_toArray, vcC_at hj8]
 refine ⟨_, _, dint_part (e1 f) W, dint_part (e1 g) W, ?_⟩
 rw [run_equalIn_int W 9998 3 .i64 .i64 _ _ Tryz.underlying3]
 by_cases h : f j = g j <;> simp [h]
theorem run_eqV {x y : Operand} {tt : TypeId} {f g : Nat → Int} {b : Bool} (hb : decide (tab8 f = tab8 g) = b) (ho : o.op = .binOp .eql 38 x y tt) (hx : a.eval x = vV f) (hy : a.eval y = vV g) : (execOp a.eval o).run Tryz.prog W = .ok (.value (.bool b)) W := by
 subst hb
 have hg : (eqGuard .eql 38 x y (vV f) (vV g)).run Tryz.prog W = .ok () W := run_eqGuard_agg W .eql _ x y _ _ (by kernel_rfl)
 unfold execOp
 simp only [ho, hx, hy, Sem.run_bind, hg, Result.andThen_ok]
 rw [run_eql_struct, run_eqIV W f g]
 rfl
end
end
section
open Go Go.RowKit Go.BigFrame
def vlC (x : Vl) : List Value := [.int .i64 x.1.1, .int .i64 x.1.2, .string x.2]
abbrev vlV (x : Vl) : Value := .agg #[.int .i64 x.1.1, .int .i64 x.1.2, .string x.2]
def elemV : Elem Tryz.prog Vl where
 enc := vlC
 k := 3
 pos := by decide
 len _ := rfl
 one _ u hu := by
  simp only [vlC, List.mem_cons, List.not_mem_nil, or_false] at hu
  rcases hu with rfl | rfl | rfl <;> rfl
 t := 140
 sl := 39
 under := Tryz.underlying39
 z := .agg #[.int .i64 0, .int .i64 0, .string ⟨#[]⟩]
 bytes := 32
 bpos := by decide
 info := by kernel_rfl
 zs := by kernel_rfl
def elemS : Elem Tryz.prog ByteArray where
 enc x := [.string x]
 k := 1
 pos := by decide
 len _ := rfl
 one _ u hu := by
  simp only [List.mem_cons, List.not_mem_nil, or_false] at hu
  subst hu
  rfl
 t := 9
 sl := 81
 under := Tryz.underlying81
 z := .string ⟨#[]⟩
 bytes := 16
 bpos := by decide
 info := by kernel_rfl
 zs := by kernel_rfl
def bgC (f : Nat → Int) (sl : Value) : List Value := vcC f ++ [sl]
abbrev bgV (f : Nat → Int) (sl : Value) : Value := .agg (bgC f sl).toArray
section
variable {f : Nat → Int} {sl : Value}
theorem bgC_all : ∀ k u, (bgC f sl)[k]? = some u → (bgC f sl)[0 + k]? = some u := fun k u h => by rwa [Nat.zero_add]
theorem bgC_vc : ∀ k u, (vcC f)[k]? = some u → (bgC f sl)[0 + k]? = some u := fun k u h => by
 rw [Nat.zero_add]
 unfold bgC
 rw [List.getElem?_append_left (List.getElem?_eq_some_iff.1 h).1]
 exact h
theorem bgC_sl : (bgC f sl)[8]? = some sl := rfl
theorem bgC_len : (bgC f sl).length = 9 := rfl
theorem bgC_one (p : Option Addr) (n c : Nat) : ((bgC f (.slice p n c)).all Value.oneCell') = true := by kernel_rfl
end
section
variable {L : List At} {H0 : Nat → Prop} {w W : World}
theorem Mem.part {b : Nat} {cs cells : List Value} {t : TypeId} (h : Mem L H0 w W) (i : Nat) (hi : L[i]? = some (boxT b (.cells cs.toArray t (0, 0)))) {off : Nat} (hs : ∀ k u, cells[k]? = some u → cs[off + k]? = some u) : ∀ k u, cells[k]? = some u → W.cell? ⟨b, off + k, none⟩ = some u := fun k u hk => (h.cellL i hi (off + k)).trans (hs k u hk)
theorem Mem.part1 {b : Nat} {cs : List Value} {t : TypeId} (h : Mem L H0 w W) (i : Nat) (hi : L[i]? = some (boxT b (.cells cs.toArray t (0, 0)))) {off : Nat} {u : Value} (hs : cs[off]? = some u) : W.cell? ⟨b, off, none⟩ = some u := (h.cellL i hi off).trans hs
def bagT (u : Value) (x : Bg) : At := exT fun s : Option Addr × Nat => [prT (u = bgV x.k (.slice s.1 x.v.length s.2)), rowT elemV (.slice s.1 x.v.length s.2) x.v]
def bagE (u : Value) (x : Bg) (e : Int) : At := exT fun s : Option Addr × Nat => [prT (u = .tuple #[bgV x.k (.slice s.1 x.v.length s.2), .int .i64 e]), rowT elemV (.slice s.1 x.v.length s.2) x.v]
def textsT (u : Value) (l : List ByteArray) : At := exT fun s : Option Addr × Nat => [prT (u = .slice s.1 l.length s.2), rowT elemS (.slice s.1 l.length s.2) l]
theorem Mem.toBag {p : Option Addr} {c : Nat} {x : Bg} (h : Mem (rowT elemV (.slice p x.v.length c) x.v :: L) H0 w W) : Mem (bagT (bgV x.k (.slice p x.v.length c)) x :: L) H0 w W := Mem.addEx (p, c) (Mem.addPr rfl h)
theorem Mem.toBagE {p : Option Addr} {c : Nat} {x : Bg} {e : Int} (h : Mem (rowT elemV (.slice p x.v.length c) x.v :: L) H0 w W) : Mem (bagE (.tuple #[bgV x.k (.slice p x.v.length c), .int .i64 e]) x e :: L) H0 w W := Mem.addEx (p, c) (Mem.addPr rfl h)
theorem Mem.bag {u : Value} {x : Bg} {n : Nat} (hn : x.v.length = n) (h : Mem (bagT u x :: L) H0 w W) : ∃ p c, u = bgV x.k (.slice p n c) ∧ Mem (rowT elemV (.slice p n c) x.v :: L) H0 w W := by
 subst hn
 obtain ⟨s, h⟩ := Mem.ex h
 obtain ⟨hu, h⟩ := Mem.pr h
 exact ⟨s.1, s.2, hu, h⟩
theorem Mem.bagE {u : Value} {x : Bg} {e : Int} {n : Nat} (hn : x.v.length = n) (h : Mem (bagE u x e :: L) H0 w W) : ∃ p c, u = .tuple #[bgV x.k (.slice p n c), .int .i64 e] ∧ Mem (rowT elemV (.slice p n c) x.v :: L) H0 w W := by
 subst hn
 obtain ⟨s, h⟩ := Mem.ex h
 obtain ⟨hu, h⟩ := Mem.pr h
 exact ⟨s.1, s.2, hu, h⟩
theorem Mem.texts {u : Value} {l : List ByteArray} {n : Nat} (hn : l.length = n) (h : Mem (textsT u l :: L) H0 w W) : ∃ p c, u = .slice p n c ∧ Mem (rowT elemS (.slice p n c) l :: L) H0 w W := by
 subst hn
 obtain ⟨s, h⟩ := Mem.ex h
 obtain ⟨hu, h⟩ := Mem.pr h
 exact ⟨s.1, s.2, hu, h⟩
end
/- Who reads a row of values. -/
theorem vNil (R : At) : Reads elemV R (.slice none 0 0) [] := fun _ _ _ => ⟨.inl ⟨rfl, _, _, rfl⟩, none, 0, rfl, Nat.zero_le _, fun _ => rfl⟩
theorem vL {α : Type} {E : Elem Tryz.prog α} {v : Value} {xs : List α} {l : List At} (i : Nat) {A : At} (hi : l[i]? = some A) (hA : Reads E A v xs) : Reads E (listT l) v xs := fun W H h => by
 obtain ⟨H1, H2, h1, _⟩ := stars_pick l i A hi h
 exact hA W H1 h1
theorem vRow {α : Type} {E : Elem Tryz.prog α} {v : Value} {xs : List α} : ∀ W H, (rowT E v xs).p W H → RowAt E W v xs := fun W H h => rowAt_src (rowT_reads W H h)
/- Values compared. -/
set_option maxRecDepth 100000 in
theorem val_under : Tryz.prog.underlying 140 = some (.struct (Tryz.prog.fieldsOf 140)) := Tryz.underlying140
theorem val_fields : ∃ f g, (Tryz.prog.fieldsOf 140).toList = [f, g] ∧ f.name ≠ "_" ∧ f.type = 72 ∧ f.offset = 0 ∧ g.name ≠ "_" ∧ g.type = 9 ∧ g.offset = 2 := dtwoB_spec (by kernel_rfl)
theorem val_in : Tryz.prog.stoodInHeld 140 = false := by kernel_rfl
theorem val_guard : Tryz.prog.eqGuardType Tryz.prog.depth 140 = false := by kernel_rfl
theorem dotP_size (W : World) : (sizeOf 72).run Tryz.prog W = .ok 2 W := by
 have e : (Tryz.prog.info? 72).map (·.size) = some 2 := by kernel_rfl
 obtain ⟨i0, h1, h2⟩ := Option.map_eq_some_iff.1 e
 simp [sizeOf, typeInfo, h1, h2, go_sem]
theorem dotP_agg (W : World) : (isAgg 72).run Tryz.prog W = .ok true W := by
 have hu' : (underlying 72).run Tryz.prog W = .ok (.struct (Tryz.prog.fieldsOf 72)) W := by simp [underlying, go_sem]
 unfold isAgg
 rw [Sem.run_bind, hu', Result.andThen_ok]
 simp [go_sem]
set_option maxRecDepth 100000 in
theorem strP_agg (W : World) : (isAgg 9).run Tryz.prog W = .ok false W := by
 have hu' : (underlying 9).run Tryz.prog W = .ok .string W := by simp [underlying, Tryz.underlying9, go_sem]
 unfold isAgg
 rw [Sem.run_bind, hu', Result.andThen_ok]
 simp [go_sem]
theorem dotP_part (x : Vl) (W : World) : (part 72 #[.int .i64 x.1.1, .int .i64 x.1.2, .string x.2] 0).run Tryz.prog W = .ok (dV x.1) W := by
 have hs := dotP_size W
 have hg := dotP_agg W
 simp only [part, Sem.run_bind, hg, hs, Result.andThen_ok, if_true, Sem.run_pure]
 rfl
theorem strP_part (x : Vl) (W : World) : (part 9 #[.int .i64 x.1.1, .int .i64 x.1.2, .string x.2] 2).run Tryz.prog W = .ok (.string x.2) W := by
 have hg := strP_agg W
 have hc : (#[Value.int .i64 x.1.1, .int .i64 x.1.2, .string x.2])[2]? = some (.string x.2) := rfl
 simp only [part, Sem.run_bind, hg, Result.andThen_ok]
 rw [if_neg (by simp)]
 simp only [hc, Sem.run_pure]
theorem bytes_beq (a b : ByteArray) : (a.toList == b.toList) = decide (a = b) := by
 rw [Bool.eq_iff_iff, beq_iff_eq, decide_eq_true_iff, ByteArray.toList_eq, ByteArray.toList_eq]
 exact ⟨fun h => ByteArray.ext (Array.toList_inj.1 h), fun h => by rw [h]⟩
set_option maxRecDepth 100000 in
theorem run_eqIVl (W : World) (p q : Vl) : (Op.equalIn 10000 140 (vlV p) (vlV q)).run Tryz.prog W = .ok (decide (p = q)) W := by
 obtain ⟨f, g, e0, e1, e2, e3, e4, e5, e6⟩ := val_fields
 rw [run_equalIn_struct W 9999 _ _ _ val_under val_in, e0]
 simp only [Op.eqFields]
 rw [if_pos e1, if_pos e4, e2, e3, e5, e6]
 simp only [Sem.run_bind, Sem.run_ite, dotP_part, strP_part, Result.andThen_ok, run_eqDn' 9997, run_equalIn_string W 9998 9 _ _ Tryz.underlying9, bytes_beq]
 obtain ⟨p1, p2⟩ := p
 obtain ⟨q1, q2⟩ := q
 by_cases h1 : p1 = q1 <;> by_cases h2 : p2 = q2 <;> simp [h1, h2]
section
variable {W : World} {a : Act} {o : Oper} {x y : Operand} {p q : Vl} {tt : TypeId} {b : Bool}
theorem run_neVl (hb : (!decide (p = q)) = b) (ho : o.op = .binOp .neq 140 x y tt) (hx : a.eval x = vlV p) (hy : a.eval y = vlV q) : (execOp a.eval o).run Tryz.prog W = .ok (.value (.bool b)) W := by
 subst hb
 have hg : (eqGuard .neq 140 x y (vlV p) (vlV q)).run Tryz.prog W = .ok () W := run_eqGuard_agg W .neq _ x y _ _ val_guard
 have he := run_eqIVl W p q
 unfold execOp
 simp only [ho, hx, hy, Sem.run_bind, hg, Result.andThen_ok]
 rw [run_neq_struct, he]
 rfl
end
end
end Go.Proofs.YtcchkkdbagpgjaaGreat
