/- Bags: their values: cells, rows of values, compared. -/
import Derived.Test.YtneeidedadlioaaVcV
import Derived.Test.YtneeidedadlioaaBgM
namespace Go.Proofs.Ytneeidedadlioaa
open Go Go.RowKit Go.BigFrame

def vlC (x : Vl) : List Value := [.int .i64 x.1.1, .int .i64 x.1.2, .string x.2]
/-- A value with its dot. -/
abbrev vlV (x : Vl) : Value := .agg #[.int .i64 x.1.1, .int .i64 x.1.2, .string x.2]
def elemV : Elem Try.prog Vl where
  enc := vlC
  k := 3
  pos := by decide
  len _ := rfl
  one _ u hu := by
    simp only [vlC, List.mem_cons, List.not_mem_nil, or_false] at hu
    rcases hu with rfl | rfl | rfl <;> rfl
  t := 41
  sl := 25
  under := Try.underlying25
  z := .agg #[.int .i64 0, .int .i64 0, .string ⟨#[]⟩]
  bytes := 32
  bpos := by decide
  info := by kernel_rfl
  zs := by kernel_rfl
def elemS : Elem Try.prog ByteArray where
  enc x := [.string x]
  k := 1
  pos := by decide
  len _ := rfl
  one _ u hu := by
    simp only [List.mem_cons, List.not_mem_nil, or_false] at hu
    subst hu
    rfl
  t := 9
  sl := 51
  under := Try.underlying51
  z := .string ⟨#[]⟩
  bytes := 16
  bpos := by decide
  info := by kernel_rfl
  zs := by kernel_rfl
/-- A bag's cells: its slice is given. -/
def bgC (f : Nat → Int) (sl : Value) : List Value := vcC f ++ [sl]
abbrev bgV (f : Nat → Int) (sl : Value) : Value := .agg (bgC f sl).toArray
section
variable {f : Nat → Int} {sl : Value}
theorem bgC_all : ∀ k u, (bgC f sl)[k]? = some u → (bgC f sl)[0 + k]? = some u := fun k u h => by rwa [Nat.zero_add]
theorem bgC_vc : ∀ k u, (vcC f)[k]? = some u → (bgC f sl)[0 + k]? = some u := fun k u h => by
  rw [Nat.zero_add]
  unfold bgC
  rw [List.getElem?_append_left (List.getElem?_eq_some_iff.1 h).1]
  exact h
theorem bgC_sl : (bgC f sl)[8]? = some sl := rfl
theorem bgC_len : (bgC f sl).length = 9 := rfl
theorem bgC_one (p : Option Addr) (n c : Nat) : ((bgC f (.slice p n c)).all Value.oneCell') = true := by kernel_rfl
theorem bgC_congr {g : Nat → Int} (h : ∀ i, i < 8 → f i = g i) : bgC f sl = bgC g sl := by unfold bgC; rw [vcC_congr h]
theorem bgC_setK (g : Nat → Int) : putL (bgC f sl) 0 (vcC g) = bgC g sl := by kernel_rfl
theorem bgC_setS (sl' : Value) : putL (bgC f sl) 8 [sl'] = bgC f sl' := by kernel_rfl
end
section
variable {L : List At} {H0 : Nat → Prop} {w W : World}
theorem Mem.part {b : Nat} {cs cells : List Value} {t : TypeId} (h : Mem L H0 w W) (i : Nat) (hi : L[i]? = some (boxT b (.cells cs.toArray t (0, 0)))) {off : Nat} (hs : ∀ k u, cells[k]? = some u → cs[off + k]? = some u) : ∀ k u, cells[k]? = some u → W.cell? ⟨b, off + k, none⟩ = some u := fun k u hk => (h.cellL i hi (off + k)).trans (hs k u hk)
theorem Mem.part1 {b : Nat} {cs : List Value} {t : TypeId} (h : Mem L H0 w W) (i : Nat) (hi : L[i]? = some (boxT b (.cells cs.toArray t (0, 0)))) {off : Nat} {u : Value} (hs : cs[off]? = some u) : W.cell? ⟨b, off, none⟩ = some u := (h.cellL i hi off).trans hs
/-- A bag that a call made: its values are a row of its own. -/
def bagT (u : Value) (x : Bg) : At := exT fun s : Option Addr × Nat => [prT (u = bgV x.k (.slice s.1 x.v.length s.2)), rowT elemV (.slice s.1 x.v.length s.2) x.v]
def bagE (u : Value) (x : Bg) (e : Int) : At := exT fun s : Option Addr × Nat => [prT (u = .tuple #[bgV x.k (.slice s.1 x.v.length s.2), .int .i64 e]), rowT elemV (.slice s.1 x.v.length s.2) x.v]
def textsT (u : Value) (l : List ByteArray) : At := exT fun s : Option Addr × Nat => [prT (u = .slice s.1 l.length s.2), rowT elemS (.slice s.1 l.length s.2) l]
theorem Mem.toBag {p : Option Addr} {c : Nat} {x : Bg} (h : Mem (rowT elemV (.slice p x.v.length c) x.v :: L) H0 w W) : Mem (bagT (bgV x.k (.slice p x.v.length c)) x :: L) H0 w W := Mem.addEx (p, c) (Mem.addPr rfl h)
theorem Mem.toBagE {p : Option Addr} {c : Nat} {x : Bg} {e : Int} (h : Mem (rowT elemV (.slice p x.v.length c) x.v :: L) H0 w W) : Mem (bagE (.tuple #[bgV x.k (.slice p x.v.length c), .int .i64 e]) x e :: L) H0 w W := Mem.addEx (p, c) (Mem.addPr rfl h)
theorem Mem.toTexts {p : Option Addr} {c : Nat} {l : List ByteArray} (h : Mem (rowT elemS (.slice p l.length c) l :: L) H0 w W) : Mem (textsT (.slice p l.length c) l :: L) H0 w W := Mem.addEx (p, c) (Mem.addPr rfl h)
theorem Mem.bag {u : Value} {x : Bg} {n : Nat} (hn : x.v.length = n) (h : Mem (bagT u x :: L) H0 w W) : ∃ p c, u = bgV x.k (.slice p n c) ∧ Mem (rowT elemV (.slice p n c) x.v :: L) H0 w W := by
  subst hn
  obtain ⟨s, h⟩ := Mem.ex h
  obtain ⟨hu, h⟩ := Mem.pr h
  exact ⟨s.1, s.2, hu, h⟩
theorem Mem.bagE {u : Value} {x : Bg} {e : Int} {n : Nat} (hn : x.v.length = n) (h : Mem (bagE u x e :: L) H0 w W) : ∃ p c, u = .tuple #[bgV x.k (.slice p n c), .int .i64 e] ∧ Mem (rowT elemV (.slice p n c) x.v :: L) H0 w W := by
  subst hn
  obtain ⟨s, h⟩ := Mem.ex h
  obtain ⟨hu, h⟩ := Mem.pr h
  exact ⟨s.1, s.2, hu, h⟩
theorem Mem.texts {u : Value} {l : List ByteArray} {n : Nat} (hn : l.length = n) (h : Mem (textsT u l :: L) H0 w W) : ∃ p c, u = .slice p n c ∧ Mem (rowT elemS (.slice p n c) l :: L) H0 w W := by
  subst hn
  obtain ⟨s, h⟩ := Mem.ex h
  obtain ⟨hu, h⟩ := Mem.pr h
  exact ⟨s.1, s.2, hu, h⟩
end
/- Who reads a row of values. -/
theorem vNil (R : At) : Reads elemV R (.slice none 0 0) [] := fun _ _ _ => ⟨.inl ⟨rfl, _, _, rfl⟩, none, 0, rfl, Nat.zero_le _, fun _ => rfl⟩
theorem vOld {W0 : World} {v : Value} {xs : List Vl} (hv : SrcE elemV W0 v xs) : Reads elemV (oldT W0) v xs := fun _ _ h => ⟨OldA.row h hv.1, hv.2⟩
theorem vL {α : Type} {E : Elem Try.prog α} {v : Value} {xs : List α} {l : List At} (i : Nat) {A : At} (hi : l[i]? = some A) (hA : Reads E A v xs) : Reads E (listT l) v xs := fun W H h => by
  obtain ⟨H1, H2, h1, _⟩ := stars_pick l i A hi h
  exact hA W H1 h1
theorem vRow {α : Type} {E : Elem Try.prog α} {v : Value} {xs : List α} : ∀ W H, (rowT E v xs).p W H → RowAt E W v xs := fun W H h => rowAt_src (rowT_reads W H h)
/- Values compared. -/
theorem val_under : Try.prog.underlying 41 = some (.struct (Try.prog.fieldsOf 41)) := Try.underlying41
theorem val_fields : ∃ f g, (Try.prog.fieldsOf 41).toList = [f, g] ∧ f.name ≠ "_" ∧ f.type = 39 ∧ f.offset = 0 ∧ g.name ≠ "_" ∧ g.type = 9 ∧ g.offset = 2 := dtwoB_spec (by kernel_rfl)
theorem val_in : Try.prog.stoodInHeld 41 = false := by kernel_rfl
theorem val_guard : Try.prog.eqGuardType Try.prog.depth 41 = false := by kernel_rfl
theorem dotP_size (W : World) : (sizeOf 39).run Try.prog W = .ok 2 W := by
  have e : (Try.prog.info? 39).map (·.size) = some 2 := by kernel_rfl
  obtain ⟨i0, h1, h2⟩ := Option.map_eq_some_iff.1 e
  simp [sizeOf, typeInfo, h1, h2, go_sem]
theorem dotP_agg (W : World) : (isAgg 39).run Try.prog W = .ok true W := by
  have hu' : (underlying 39).run Try.prog W = .ok (.struct (Try.prog.fieldsOf 39)) W := by simp [underlying, go_sem]
  unfold isAgg
  rw [Sem.run_bind, hu', Result.andThen_ok]
  simp [go_sem]
theorem strP_agg (W : World) : (isAgg 9).run Try.prog W = .ok false W := by
  have hu' : (underlying 9).run Try.prog W = .ok .string W := by simp [underlying, Try.underlying9, go_sem]
  unfold isAgg
  rw [Sem.run_bind, hu', Result.andThen_ok]
  simp [go_sem]
theorem dotP_part (x : Vl) (W : World) : (part 39 #[.int .i64 x.1.1, .int .i64 x.1.2, .string x.2] 0).run Try.prog W = .ok (dV x.1) W := by
  have hs := dotP_size W
  have hg := dotP_agg W
  simp only [part, Sem.run_bind, hg, hs, Result.andThen_ok, if_true, Sem.run_pure]
  rfl
theorem strP_part (x : Vl) (W : World) : (part 9 #[.int .i64 x.1.1, .int .i64 x.1.2, .string x.2] 2).run Try.prog W = .ok (.string x.2) W := by
  have hg := strP_agg W
  have hc : (#[Value.int .i64 x.1.1, .int .i64 x.1.2, .string x.2])[2]? = some (.string x.2) := rfl
  simp only [part, Sem.run_bind, hg, Result.andThen_ok]
  rw [if_neg (by simp)]
  simp only [hc, Sem.run_pure]
theorem bytes_beq (a b : ByteArray) : (a.toList == b.toList) = decide (a = b) := by
  rw [Bool.eq_iff_iff, beq_iff_eq, decide_eq_true_iff, ByteArray.toList_eq, ByteArray.toList_eq]
  exact ⟨fun h => ByteArray.ext (Array.toList_inj.1 h), fun h => by rw [h]⟩
theorem run_eqIVl (W : World) (p q : Vl) : (Op.equalIn 10000 41 (vlV p) (vlV q)).run Try.prog W = .ok (decide (p = q)) W := by
  obtain ⟨f, g, e0, e1, e2, e3, e4, e5, e6⟩ := val_fields
  rw [run_equalIn_struct W 9999 _ _ _ val_under val_in, e0]
  simp only [Op.eqFields]
  rw [if_pos e1, if_pos e4, e2, e3, e5, e6]
  simp only [Sem.run_bind, Sem.run_ite, dotP_part, strP_part, Result.andThen_ok, run_eqDn' 9997, run_equalIn_string W 9998 9 _ _ Try.underlying9, bytes_beq]
  obtain ⟨p1, p2⟩ := p
  obtain ⟨q1, q2⟩ := q
  by_cases h1 : p1 = q1 <;> by_cases h2 : p2 = q2 <;> simp [h1, h2]
section
variable {W : World} {a : Act} {o : Oper} {x y : Operand} {p q : Vl} {tt : TypeId} {b : Bool}
theorem run_eqVl (hb : decide (p = q) = b) (ho : o.op = .binOp .eql 41 x y tt) (hx : a.eval x = vlV p) (hy : a.eval y = vlV q) : (execOp a.eval o).run Try.prog W = .ok (.value (.bool b)) W := by
  subst hb
  have hg : (eqGuard .eql 41 x y (vlV p) (vlV q)).run Try.prog W = .ok () W := run_eqGuard_agg W .eql _ x y _ _ val_guard
  have he := run_eqIVl W p q
  unfold execOp
  simp only [ho, hx, hy, Sem.run_bind, hg, Result.andThen_ok]
  rw [run_eql_struct, he]
  rfl
theorem run_neVl (hb : (!decide (p = q)) = b) (ho : o.op = .binOp .neq 41 x y tt) (hx : a.eval x = vlV p) (hy : a.eval y = vlV q) : (execOp a.eval o).run Try.prog W = .ok (.value (.bool b)) W := by
  subst hb
  have hg : (eqGuard .neq 41 x y (vlV p) (vlV q)).run Try.prog W = .ok () W := run_eqGuard_agg W .neq _ x y _ _ val_guard
  have he := run_eqIVl W p q
  unfold execOp
  simp only [ho, hx, hy, Sem.run_bind, hg, Result.andThen_ok]
  rw [run_neq_struct, he]
  rfl
end
end Go.Proofs.Ytneeidedadlioaa
