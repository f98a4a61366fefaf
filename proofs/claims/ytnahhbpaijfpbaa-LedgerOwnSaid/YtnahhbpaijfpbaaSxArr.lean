/- Arrays of ints: in blocks of their own, and as values. -/
import Derived.Test.YtnahhbpaijfpbaaSxInts
import Derived.Test.YtnahhbpaijfpbaaSxStay
namespace Go.Proofs.Ytnahhbpaijfpbaa
open Go Go.RowKit

/-- A block that is an array of ints. -/
abbrev arrT (b : Nat) (t : TypeId) (l : List Int) : At := boxT b (.cells (l.map iV).toArray t (0, 0))
abbrev aV (l : List Int) : Value := .agg (l.map iV).toArray
structure IsArr (t : TypeId) (n : Nat) : Prop where
  under : Try.prog.underlying t = some (.array n 3)
  size : (Try.prog.info? t).map (·.size) = some n
theorem int_size (W : World) : (sizeOf 3).run Try.prog W = .ok 1 W := by
  obtain ⟨i0, hin, hz0, hz1, hz2⟩ := info_parts elemI.info
  have e1 : (Try.prog.info? 3) = some i0 := hin
  have e2 : i0.size = 1 := hz1
  simp [sizeOf, typeInfo, e1, e2, go_sem]
theorem int_agg (W : World) : (isAgg 3).run Try.prog W = .ok false W := by
  have hu' : (underlying 3).run Try.prog W = .ok (.int .i64) W := by simp [underlying, Try.underlying3, go_sem]
  unfold isAgg
  rw [Sem.run_bind, hu', Result.andThen_ok]
  simp [go_sem]
section
variable {W w : World} {H0 : Nat → Prop} {L : List At} {S : Nat → Prop} {ops : Array Oper} {Q : Act → World → Prop} {rest : List (Nat × Nat)} {a : Act} {i : Nat} {o : Oper} {d : Option Tmp} {t tt : TypeId} {n : Nat}
theorem Mem.arr {b : Nat} {l : List Int} (h : Mem L H0 w W) (k : Nat) (hk : L[k]? = some (arrT b tt l)) {j : Nat} {y : Int} (hy : l[j]? = some y) : W.cell? ⟨b, j, none⟩ = some (.int .i64 y) :=
  (h.cellL k hk j).trans (by rw [List.getElem?_map, hy]; rfl)
theorem run_addrArr {x ix : Operand} {b j : Nat} (hA : IsArr t n) (ho : o.op = .indexAddr t x ix) (hx : a.eval x = .pointer (some ⟨b, 0, none⟩)) (hix : a.eval ix = .int .i64 (j : Int)) (hj : j < n) : (execOp a.eval o).run Try.prog W = .ok (.value (.pointer (some ⟨b, j, none⟩))) W := by
  have hu : (underlying t).run Try.prog W = .ok (.array n 3) W := by simp [underlying, hA.under, go_sem]
  have hs := int_size W
  unfold execOp
  simp only [ho, hx, hix, Instr.indexAt, asIntOf, Instr.sureAddr, Sem.run_bind, Sem.run_pure, Result.andThen_ok, hu]
  by_cases h1 : n ≤ 1
  · simp [hs, hj, addr_off, go_sem]
  · simp [hs, hj, addr_off, go_sem]
/-- The address of an array's element. -/
theorem wpS_addrArr {x ix : Operand} {b j : Nat} (hA : IsArr t n) (hi : ops[i]? = some o) (hw : Region.wanted o (yielded ops a.tmps) = true) (ho : o.op = .indexAddr t x ix) (hx : a.eval x = .pointer (some ⟨b, 0, none⟩)) (hix : a.eval ix = .int .i64 (j : Int)) (hj : j < n) (hd : o.dst = d)
    (h : wpS Try.prog ops S Q rest (a.put d (.pointer (some ⟨b, j, none⟩))) W) : wpS Try.prog ops S Q ((i, 1) :: rest) a W :=
  wpS_read hi hw (run_addrArr hA ho hx hix hj) hd h
/-- An element is read. -/
theorem wpS_loadEl {x : Operand} {b j : Nat} {y : Int} (hi : ops[i]? = some o) (hw : Region.wanted o (yielded ops a.tmps) = true) (ho : o.op = .load 3 x) (hx : a.eval x = .pointer (some ⟨b, j, none⟩)) (hc : W.cell? ⟨b, j, none⟩ = some (.int .i64 y)) (hd : o.dst = d) (h : wpS Try.prog ops S Q rest (a.put d (.int .i64 y)) W) : wpS Try.prog ops S Q ((i, 1) :: rest) a W :=
  wpS_load1 hi hw ho hx hc Try.underlying3 rfl hd h
/-- An element is set. -/
theorem wpS_setEl {x y : Operand} {b j : Nat} {z : Int} {l : List Int} {L2 : List At} (hi : ops[i]? = some o) (hw : Region.wanted o (yielded ops a.tmps) = true) (ho : o.op = .store 3 x y) (hx : a.eval x = .pointer (some ⟨b, j, none⟩)) (hy : a.eval y = .int .i64 z)
    (hm : Mem L H0 w W) (k : Nat) (hk : L[k]? = some (arrT b tt l)) (hL2 : L.eraseIdx k = L2) (hj : j < l.length) (hS : CovS L2 S) (hd : o.dst = none) (h : ∀ W', Mem (arrT b tt (l.set j z) :: L2) H0 w W' → GK S W W' → wpS Try.prog ops S Q rest a W') : wpS Try.prog ops S Q ((i, 3) :: rest) a W := by
  subst hL2
  refine wpS_store (v := .int .i64 z) (vs := [.int .i64 z]) (cs := l.map iV) (cs' := (l.set j z).map iV) hi hw ho hx hy rfl (by kernel_rfl) rfl hm k hk (by simp; omega) ?_ hS hd h
  rw [List.map_set]
  rfl
/-- A whole array is read. -/
theorem wpS_loadArr {x : Operand} {b : Nat} {l : List Int} (hA : IsArr t n) (hi : ops[i]? = some o) (hw : Region.wanted o (yielded ops a.tmps) = true) (ho : o.op = .load t x) (hx : a.eval x = .pointer (some ⟨b, 0, none⟩)) (hm : Mem L H0 w W) (k : Nat) (hk : L[k]? = some (arrT b tt l)) (hn : l.length = n) (hd : o.dst = d)
    (h : wpS Try.prog ops S Q rest (a.put d (aV l)) W) : wpS Try.prog ops S Q ((i, 1) :: rest) a W :=
  wpS_loadA hi hw ho hx (hm.cells0 k hk) hA.under rfl (by rw [List.length_map, hn]; exact hA.size) hd h
theorem wpS_loadArr2 {x : Operand} {b : Nat} {l : List Int} (hA : IsArr t n) (hi : ops[i]? = some o) (hw : Region.wanted o (yielded ops a.tmps) = true) (ho : o.op = .load t x) (hx : a.eval x = .pointer (some ⟨b, 0, none⟩)) (hb : S b) (hm : Mem L H0 w W) (k : Nat) (hk : L[k]? = some (arrT b tt l)) (hn : l.length = n) (hd : o.dst = d)
    (h : wpS Try.prog ops S Q rest (a.put d (aV l)) W) : wpS Try.prog ops S Q ((i, 2) :: rest) a W :=
  wpS_loadA2 hi hw ho hx hb (hm.cells0 k hk) hA.under rfl (by rw [List.length_map, hn]; exact hA.size) hd h
theorem putL_at : ∀ (vs A B : List Value), vs.length = B.length → putL (A ++ B) A.length vs = A ++ vs
  | [], A, [], _ => by simp [putL]
  | v :: vs, A, b :: B, h => by
    have e : (A ++ b :: B).set A.length v = (A ++ [v]) ++ B := by simp [List.set_append_right]
    have := putL_at vs (A ++ [v]) B (by simpa using h)
    rw [List.length_append, List.length_singleton] at this
    unfold putL
    rw [e, this]
    simp
  | [], _, _ :: _, h => by simp at h
  | _ :: _, _, [], h => by simp at h
theorem putL_all {vs cs : List Value} (h : vs.length = cs.length) : putL cs 0 vs = vs := by
  have := putL_at vs [] cs h
  simpa using this
theorem one_iV (l : List Int) : ((l.map iV).all Value.oneCell') = true := by
  rw [List.all_map, List.all_eq_true]
  intro x _
  rfl
/-- A whole array is written. -/
theorem wpS_storeArr {x y : Operand} {b : Nat} {l z : List Int} {L2 : List At} (hA : IsArr t n) (hi : ops[i]? = some o) (hw : Region.wanted o (yielded ops a.tmps) = true) (ho : o.op = .store t x y) (hx : a.eval x = .pointer (some ⟨b, 0, none⟩)) (hy : a.eval y = aV z)
    (hm : Mem L H0 w W) (k : Nat) (hk : L[k]? = some (arrT b tt l)) (hL2 : L.eraseIdx k = L2) (hn : l.length = n) (hz : z.length = n) (hS : CovS L2 S) (hd : o.dst = none) (h : ∀ W', Mem (arrT b tt z :: L2) H0 w W' → GK S W W' → wpS Try.prog ops S Q rest a W') : wpS Try.prog ops S Q ((i, 3) :: rest) a W := by
  subst hL2
  exact wpS_store (v := aV z) (vs := z.map iV) (cs := l.map iV) (cs' := z.map iV) hi hw ho hx hy (by simp [Value.cells]) (by rw [List.length_map, hz]; exact hA.size) (one_iV z) hm k hk (by simp; omega) (putL_all (by simp; omega)) hS hd h
/-- An element of an array that is a value. -/
theorem wpS_indexArr {x ix : Operand} {j : Nat} {l : List Int} {y : Int} (hA : IsArr t n) (hi : ops[i]? = some o) (hw : Region.wanted o (yielded ops a.tmps) = true) (ho : o.op = .index t x ix) (hx : a.eval x = aV l) (hix : a.eval ix = .int .i64 (j : Int)) (hy : l[j]? = some y) (hn : l.length = n) (hd : o.dst = d)
    (h : wpS Try.prog ops S Q rest (a.put d (.int .i64 y)) W) : wpS Try.prog ops S Q ((i, 1) :: rest) a W := by
  refine wpS_read hi hw ?_ hd h
  have hu : (underlying t).run Try.prog W = .ok (.array n 3) W := by simp [underlying, hA.under, go_sem]
  have hs := int_size W
  have hg := int_agg W
  have hj : j < n := by rw [← hn]; exact (List.getElem?_eq_some_iff.1 hy).1
  have hc : ((l.map iV).toArray)[j]? = some (.int .i64 y) := by rw [List.getElem?_toArray, List.getElem?_map, hy]; rfl
  unfold execOp
  simp only [ho, hx, hix, Instr.index, asIntOf, Sem.run_bind, Sem.run_pure, Result.andThen_ok, hu]
  rw [if_pos ⟨Int.natCast_nonneg j, by exact_mod_cast hj⟩]
  simp only [part, Sem.run_bind, hs, hg, Result.andThen_ok, Int.toNat_natCast, Nat.mul_one]
  rw [if_neg (by simp)]
  simp only [hc, Sem.run_pure, Result.andThen_ok]
/-- A slice of a whole array. -/
theorem wpS_sliceArr {x : Operand} {b : Nat} (hA : IsArr t n) (hi : ops[i]? = some o) (hw : Region.wanted o (yielded ops a.tmps) = true) (ho : o.op = .slice t x none none none) (hx : a.eval x = .pointer (some ⟨b, 0, none⟩)) (h0 : n ≠ 0) (hd : o.dst = d)
    (h : wpS Try.prog ops S Q rest (a.put d (.slice (some ⟨b, 0, none⟩) n n)) W) : wpS Try.prog ops S Q ((i, 1) :: rest) a W := by
  refine wpS_read hi hw ?_ hd h
  have hu : (underlying t).run Try.prog W = .ok (.array n 3) W := by simp [underlying, hA.under, go_sem]
  have hs := int_size W
  unfold execOp
  simp only [ho, hx, Option.map_none, Instr.sliceAt, Instr.sliceBounds, Instr.sureAddr, Sem.run_bind, Sem.run_pure, Result.andThen_ok, hu, hs]
  simp [h0, addr_off, go_sem]
end
/-- Results that lie in two arrays of the call's own. -/
theorem results_arr2 {fn : Func} {p q : Tmp} {t1 t2 : TypeId} (h : fn.results = #[.cell p t1, .cell q t2]) {tmps : Array Value} {W : World} {b1 b2 n1 n2 : Nat} {l1 l2 : List Int} (hA1 : IsArr t1 n1) (hA2 : IsArr t2 n2)
    (hp : tmps.getD p undef = .pointer (some ⟨b1, 0, none⟩)) (hq : tmps.getD q undef = .pointer (some ⟨b2, 0, none⟩)) {tt1 tt2 : TypeId} (h1 : W.heap[b1]? = some (.cells (l1.map iV).toArray tt1 (0, 0))) (h2 : W.heap[b2]? = some (.cells (l2.map iV).toArray tt2 (0, 0))) (hn1 : l1.length = n1) (hn2 : l2.length = n2) :
    (results fn tmps).run Try.prog W = .ok (.tuple #[aV l1, aV l2]) W := by
  have hp' : tmps[p]?.getD undef = .pointer (some ⟨b1, 0, none⟩) := by simpa using hp
  have hq' : tmps[q]?.getD undef = .pointer (some ⟨b2, 0, none⟩) := by simpa using hq
  have e1 := run_loadVar_row (P := Try.prog) W b1 tt1 t1 _ (0, 0) _ h1 hA1.under rfl (by rw [List.size_toArray, List.length_map, hn1]; exact hA1.size)
  have e2 := run_loadVar_row (P := Try.prog) W b2 tt2 t2 _ (0, 0) _ h2 hA2.under rfl (by rw [List.size_toArray, List.length_map, hn2]; exact hA2.size)
  simp [results, h, hp', hq', asAddr, e1, e2]
theorem ret_arr2 {fn : Func} {p q : Tmp} {t1 t2 : TypeId} {b1 b2 n1 n2 : Nat} {l1 l2 : List Int} {R : Ending → World → Prop} {L : List At} {H0 : Nat → Prop} {w0 w : World} {a : Act} (h : fn.results = #[.cell p t1, .cell q t2]) (hA1 : IsArr t1 n1) (hA2 : IsArr t2 n2) (hm : Mem L H0 w0 w) {tt1 tt2 : TypeId}
    (k1 k2 : Nat) (hk1 : L[k1]? = some (arrT b1 tt1 l1)) (hk2 : L[k2]? = some (arrT b2 tt2 l2)) (hp : a.tmps.getD p undef = .pointer (some ⟨b1, 0, none⟩)) (hq : a.tmps.getD q undef = .pointer (some ⟨b2, 0, none⟩)) (hn1 : l1.length = n1) (hn2 : l2.length = n2) (hdf : a.defers = []) (hR : R (.returned (.tuple #[aV l1, aV l2])) w) : bodyPost Try.prog fn R .ret a w :=
  bodyPost_ret (results_arr2 h hA1 hA2 hp hq (hm.box k1 hk1) (hm.box k2 hk2) hn1 hn2) hdf hR
theorem ret_arr {fn : Func} {p : Tmp} {t : TypeId} {b n : Nat} {l : List Int} {R : Ending → World → Prop} {L : List At} {H0 : Nat → Prop} {w0 w : World} {a : Act} (h : fn.results = #[.cell p t]) (hA : IsArr t n) (hm : Mem L H0 w0 w) {tt : TypeId}
    (k : Nat) (hk : L[k]? = some (arrT b tt l)) (hp : a.tmps.getD p undef = .pointer (some ⟨b, 0, none⟩)) (hn : l.length = n) (hdf : a.defers = []) (hR : R (.returned (aV l)) w) : bodyPost Try.prog fn R .ret a w :=
  ret_cell h hm k hk hp hA.under rfl (by rw [List.size_toArray, List.length_map, hn]; exact hA.size) hdf hR
theorem arr_row {W : World} {b c : Nat} {t : TypeId} {l : List Int} (h1 : W.heap[b]? = some (.cells (l.map iV).toArray t (0, 0))) : RowAt elemI W (.slice (some ⟨b, 0, none⟩) l.length c) l := .inr ⟨b, 0, c, rfl, (Array.getElem?_eq_some_iff.1 h1).1, fun k x hk j u hu => by
  have hj : j = 0 := by
    rcases Nat.eq_zero_or_pos j with h0 | h0
    · exact h0
    · rw [List.getElem?_eq_none (by show ([Value.int .i64 x] : List Value).length ≤ j; simp; omega)] at hu; simp at hu
  subst hj
  have hu' : Value.int .i64 x = u := by simpa [elemI] using hu
  subst hu'
  have e : (0 + k * elemI.k + 0) = k := by show 0 + k * 1 + 0 = k; omega
  rw [e]
  simp [World.cell?, h1, iV, hk]⟩
/-- A row that may be read, in a block of its own, of whatever type. -/
def rdRow (v : Value) (l : List Int) : At := exT fun x : Nat × TypeId × Bool => if x.2.2 = true then [prT (v = .slice (some ⟨x.1, 0, none⟩) l.length l.length), arrT x.1 x.2.1 l] else [prT (v = .slice none 0 0 ∧ l = [])]
theorem rdRow_reads {v : Value} {l : List Int} : ∀ W H, (rdRow v l).p W H → RowAt elemI W v l := fun W H ⟨x, h⟩ => by
  dsimp only at h
  by_cases hx : x.2.2 = true
  · rw [if_pos hx] at h
    obtain ⟨H1, H2, ⟨h1, _⟩, h2, _⟩ := h
    obtain ⟨H3, H4, h3, _⟩ := h2
    subst h1
    exact arr_row h3.1
  · rw [if_neg hx] at h
    obtain ⟨H1, H2, ⟨⟨h1, h1'⟩, _⟩, _⟩ := h
    exact .inl ⟨h1', _, _, h1⟩
section
variable {W w : World} {H0 : Nat → Prop} {L : List At}
theorem Mem.rdArr {b n : Nat} {t : TypeId} {l : List Int} (hn : l.length = n) (h : Mem (arrT b t l :: L) H0 w W) : Mem (rdRow (.slice (some ⟨b, 0, none⟩) n n) l :: L) H0 w W := by
  subst hn
  exact Mem.addEx (b, t, true) (by
    rw [if_pos rfl]
    exact Mem.addPr rfl h)
theorem Mem.rdNil (h : Mem L H0 w W) : Mem (rdRow (.slice none 0 0) [] :: L) H0 w W := Mem.addEx (0, 0, false) (by
  rw [if_neg (by simp)]
  exact Mem.addPr ⟨rfl, rfl⟩ h)
end
/- Arrays of bools. -/
def bV (x : Bool) : Value := .bool x
abbrev arrB (b : Nat) (t : TypeId) (l : List Bool) : At := boxT b (.cells (l.map bV).toArray t (0, 0))
abbrev aB (l : List Bool) : Value := .agg (l.map bV).toArray
structure IsArrB (t : TypeId) (n : Nat) : Prop where
  under : Try.prog.underlying t = some (.array n 4)
  size : (Try.prog.info? t).map (·.size) = some n
theorem bool_size (W : World) : (sizeOf 4).run Try.prog W = .ok 1 W := by
  have e : (Try.prog.info? 4).map (·.size) = some 1 := by kernel_rfl
  obtain ⟨i0, h1, h2⟩ := Option.map_eq_some_iff.1 e
  simp [sizeOf, typeInfo, h1, h2, go_sem]
theorem bool_agg (W : World) : (isAgg 4).run Try.prog W = .ok false W := by
  have hu' : (underlying 4).run Try.prog W = .ok .bool W := by simp [underlying, Try.underlying4, go_sem]
  unfold isAgg
  rw [Sem.run_bind, hu', Result.andThen_ok]
  simp [go_sem]
section
variable {W w : World} {H0 : Nat → Prop} {L : List At} {S : Nat → Prop} {ops : Array Oper} {Q : Act → World → Prop} {rest : List (Nat × Nat)} {a : Act} {i : Nat} {o : Oper} {d : Option Tmp} {t tt : TypeId} {n : Nat}
theorem wpS_addrArrB {x ix : Operand} {b j : Nat} (hA : IsArrB t n) (hi : ops[i]? = some o) (hw : Region.wanted o (yielded ops a.tmps) = true) (ho : o.op = .indexAddr t x ix) (hx : a.eval x = .pointer (some ⟨b, 0, none⟩)) (hix : a.eval ix = .int .i64 (j : Int)) (hj : j < n) (hd : o.dst = d)
    (h : wpS Try.prog ops S Q rest (a.put d (.pointer (some ⟨b, j, none⟩))) W) : wpS Try.prog ops S Q ((i, 1) :: rest) a W := by
  refine wpS_read hi hw ?_ hd h
  have hu : (underlying t).run Try.prog W = .ok (.array n 4) W := by simp [underlying, hA.under, go_sem]
  have hs := bool_size W
  unfold execOp
  simp only [ho, hx, hix, Instr.indexAt, asIntOf, Instr.sureAddr, Sem.run_bind, Sem.run_pure, Result.andThen_ok, hu]
  by_cases h1 : n ≤ 1
  · simp [hs, hj, addr_off, go_sem]
  · simp [hs, hj, addr_off, go_sem]
theorem wpS_setElB {x y : Operand} {b j : Nat} {z : Bool} {l : List Bool} {L2 : List At} (hi : ops[i]? = some o) (hw : Region.wanted o (yielded ops a.tmps) = true) (ho : o.op = .store 4 x y) (hx : a.eval x = .pointer (some ⟨b, j, none⟩)) (hy : a.eval y = .bool z)
    (hm : Mem L H0 w W) (k : Nat) (hk : L[k]? = some (arrB b tt l)) (hL2 : L.eraseIdx k = L2) (hj : j < l.length) (hS : CovS L2 S) (hd : o.dst = none) (h : ∀ W', Mem (arrB b tt (l.set j z) :: L2) H0 w W' → GK S W W' → wpS Try.prog ops S Q rest a W') : wpS Try.prog ops S Q ((i, 3) :: rest) a W := by
  subst hL2
  refine wpS_store (v := .bool z) (vs := [.bool z]) (cs := l.map bV) (cs' := (l.set j z).map bV) hi hw ho hx hy rfl (by kernel_rfl) rfl hm k hk (by simp; omega) ?_ hS hd h
  rw [List.map_set]
  rfl
theorem wpS_loadArrB {x : Operand} {b : Nat} {l : List Bool} (hA : IsArrB t n) (hi : ops[i]? = some o) (hw : Region.wanted o (yielded ops a.tmps) = true) (ho : o.op = .load t x) (hx : a.eval x = .pointer (some ⟨b, 0, none⟩)) (hm : Mem L H0 w W) (k : Nat) (hk : L[k]? = some (arrB b tt l)) (hn : l.length = n) (hd : o.dst = d)
    (h : wpS Try.prog ops S Q rest (a.put d (aB l)) W) : wpS Try.prog ops S Q ((i, 1) :: rest) a W :=
  wpS_loadA hi hw ho hx (hm.cells0 k hk) hA.under rfl (by rw [List.length_map, hn]; exact hA.size) hd h
theorem wpS_indexArrB {x ix : Operand} {j : Nat} {l : List Bool} {y : Bool} (hA : IsArrB t n) (hi : ops[i]? = some o) (hw : Region.wanted o (yielded ops a.tmps) = true) (ho : o.op = .index t x ix) (hx : a.eval x = aB l) (hix : a.eval ix = .int .i64 (j : Int)) (hy : l[j]? = some y) (hn : l.length = n) (hd : o.dst = d)
    (h : wpS Try.prog ops S Q rest (a.put d (.bool y)) W) : wpS Try.prog ops S Q ((i, 1) :: rest) a W := by
  refine wpS_read hi hw ?_ hd h
  have hu : (underlying t).run Try.prog W = .ok (.array n 4) W := by simp [underlying, hA.under, go_sem]
  have hs := bool_size W
  have hg := bool_agg W
  have hj : j < n := by rw [← hn]; exact (List.getElem?_eq_some_iff.1 hy).1
  have hc : ((l.map bV).toArray)[j]? = some (.bool y) := by rw [List.getElem?_toArray, List.getElem?_map, hy]; rfl
  unfold execOp
  simp only [ho, hx, hix, Instr.index, asIntOf, Sem.run_bind, Sem.run_pure, Result.andThen_ok, hu]
  rw [if_pos ⟨Int.natCast_nonneg j, by exact_mod_cast hj⟩]
  simp only [part, Sem.run_bind, hs, hg, Result.andThen_ok, Int.toNat_natCast, Nat.mul_one]
  rw [if_neg (by simp)]
  simp only [hc, Sem.run_pure, Result.andThen_ok]
end
end Go.Proofs.Ytnahhbpaijfpbaa
