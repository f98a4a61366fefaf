/- Rows of any elements: made by make, an element set whole, nothing appended, the end cleared. -/
import Derived.Test.YtnahhbpaijfpbaaSxIns
import Derived.Laws.OwnMore
namespace Go.Proofs.Ytnahhbpaijfpbaa
open Go Go.RowKit

section
variable {P : Program} {α : Type} {E : Elem P α}
theorem cells_replicate {z0 : α} (hz : E.z.cells.toList = E.enc z0) : ∀ (n j : Nat), j < n * E.k → (E.cells (List.replicate n z0))[j]? = some (E.z.cells[j % E.z.cells.size]!)
  | 0, j, h => by omega
  | n + 1, j, h => by
    rw [List.replicate_succ, Elem.cells_cons]
    have hk := E.pos
    by_cases hj : j < E.k
    · rw [List.getElem?_append_left (by rw [E.len]; exact hj), E.zs, Nat.mod_eq_of_lt hj, ← hz, Array.getElem?_toList, getElem!_pos _ _ (by rw [E.zs]; exact hj), Array.getElem?_eq_getElem (by rw [E.zs]; exact hj)]
    · rw [List.getElem?_append_right (by rw [E.len]; omega), E.len, cells_replicate hz n (j - E.k) (by rw [Nat.succ_mul] at h; omega), E.zs, Nat.mod_eq_sub_mod (by omega : E.k ≤ j)]
theorem made_cells {z0 : α} (hz : E.z.cells.toList = E.enc z0) (n : Nat) : (madeCells E.z.cells (n * E.k)).toList = E.cells (List.replicate n z0) := by
  apply List.ext_getElem?
  intro j
  by_cases hj : j < n * E.k
  · rw [cells_replicate hz n j hj]
    simp [madeCells, hj]
  · rw [List.getElem?_eq_none (by simp [madeCells]; omega), List.getElem?_eq_none (by rw [E.cells_len, List.length_replicate]; omega)]
theorem zero_one {z0 : α} (hz : E.z.cells.toList = E.enc z0) (n : Nat) : ∀ u ∈ (Builtin.zeroCells E.z.cells n).toList, u.oneCell' = true := fun u hu => by
  simp only [Builtin.zeroCells, Array.toList_map, List.mem_map] at hu
  obtain ⟨i, _, rfl⟩ := hu
  have hlt : i % E.z.cells.size < E.z.cells.size := Nat.mod_lt _ (by rw [E.zs]; exact E.pos)
  rw [getElem!_pos E.z.cells (i % E.z.cells.size) hlt]
  refine E.one z0 _ ?_
  rw [← hz]
  exact Array.mem_toList_iff.2 (Array.getElem_mem hlt)
theorem putL_take : ∀ (vs l : List Value) (off n : Nat), (putL l off vs).take n = putL (l.take n) off vs
  | [], _, _, _ => rfl
  | v :: r, l, off, n => by
    show (putL (l.set off v) (off + 1) r).take n = putL ((l.take n).set off v) (off + 1) r
    rw [putL_take r, List.take_set]
theorem cells_put {y0 : α} : ∀ {xs : List α} {j : Nat}, j < xs.length → putL (E.cells xs) (j * E.k) (E.enc y0) = E.cells (xs.set j y0)
  | [], j, h => by simp at h
  | x :: l, 0, h => by
    rw [Nat.zero_mul, Elem.cells_cons, putL_eq _ _ _ (by rw [List.length_append, E.len, E.len]; omega), List.take_zero, List.nil_append, Nat.zero_add, E.len, List.drop_left' (E.len x)]
    rfl
  | x :: l, j + 1, h => by
    have hl : j < l.length := by simpa using h
    have hlen := E.cells_len l
    have hb : (j + 1) * E.k ≤ l.length * E.k := Nat.mul_le_mul_right _ hl
    have hs : (j + 1) * E.k = E.k + j * E.k := by rw [Nat.succ_mul]; omega
    have ih := cells_put (y0 := y0) hl
    rw [putL_eq _ _ _ (by rw [E.len, hlen]; omega), E.len y0] at ih
    rw [hs, Elem.cells_cons, putL_eq _ _ _ (by rw [List.length_append, E.len, E.len, hlen]; omega), List.take_append, List.take_of_length_le (by rw [E.len]; omega), E.len x, Nat.add_sub_cancel_left, List.append_assoc, List.drop_append, E.len y0, List.drop_of_length_le (by rw [E.len]; omega), List.nil_append, E.len x, show E.k + j * E.k + E.k - E.k = j * E.k + E.k by omega, ih]
    rfl
end
section
variable {P : Program} {α : Type} {E : Elem P α} {W w : World} {H0 : Nat → Prop} {L : List At} {S : Nat → Prop} {ops : Array Oper} {Q : Act → World → Prop} {rest : List (Nat × Nat)} {a : Act} {i : Nat} {o : Oper} {d : Option Tmp} {xs : List α}
/-- A row of zeros. -/
theorem wpS_makeE {n : Nat} {x y : Operand} {dd : Tmp} {z0 : α} (hz : E.z.cells.toList = E.enc z0) (hi : ops[i]? = some o) (hw : Region.wanted o (yielded ops a.tmps) = true) (ho : o.op = .makeSlice E.sl x y) (hx : a.eval x = .int .i64 (n : Int)) (hy : a.eval y = .int .i64 (n : Int)) (hb : E.bytes * n ≤ 281474976710656) (hm : Mem L H0 w W) (hS : CovS L S) (hd : o.dst = some dd)
    (h : ∀ b W', Mem (rowT E (.slice (some ⟨b, 0, none⟩) n n) (List.replicate n z0) :: L) H0 w W' → GK S W W' → wpS P ops S Q rest (a.put (some dd) (.slice (some ⟨b, 0, none⟩) n n)) W') : wpS P ops S Q ((i, 3) :: rest) a W := by
  obtain ⟨ti, hti, hz0, hz1, hz2⟩ := info_parts E.info
  have hbp := E.bpos
  have hn : n ≤ maxLen := by
    have : n * 1 ≤ n * E.bytes := Nat.mul_le_mul_left _ hbp
    rw [Nat.mul_comm] at hb
    unfold maxLen
    omega
  obtain ⟨w', hr, hown, hg⟩ := run_make_full W W.heap.size E.sl E.t ti E.z E.k E.under hti hz0 hz1 .i64 .i64 n (by rw [hz2]; exact hb) hn (Nat.le_refl _)
  have hbl : Below W.heap.size W w' := ⟨hg.os, hg.tape, hg.output, hg.size, fun k hk => hg.block k hk (by simp)⟩
  rw [made_cells hz] at hown
  refine wpS_eff hi hw (R := fun u W' => u = .slice (some ⟨W.heap.size, 0, none⟩) n n ∧ W' = w') ⟨_, _, ?_, rfl, rfl⟩ (fun v W' ⟨_, e⟩ => by subst e; exact GK.of_below hbl (hS.lt hm)) hd fun u W' ⟨hu, hW⟩ => ?_
  · unfold execOp
    simp only [ho, hx, hy, Sem.run_bind, Sem.run_pure, Result.andThen_ok, hr]
  · subst hu hW
    refine h _ _ (SEnd.fresh (stars_owns L) (rowT E _ _).owns hm hbl (HQ := fun k => k = W.heap.size) ⟨?_, fun k => by simp [Value.ownBlock, eq_comm]⟩ fun k hk => Nat.le_of_eq hk.symm) (GK.of_below hbl (hS.lt hm))
    rw [List.length_replicate]
    refine ⟨hown.1, hown.2.imp id fun ⟨g, cap, cur, e, _, r⟩ => ⟨g, cap, cur, e, Nat.zero_le _, r⟩⟩
/-- An element set whole. -/
theorem wpS_putE {t : TypeId} {x y : Operand} {p : Option Addr} {b n cap j : Nat} {y0 : α} {L2 : List At} (ht : t = E.t) (hi : ops[i]? = some o) (hw : Region.wanted o (yielded ops a.tmps) = true) (ho : o.op = .store t x y) (hx : a.eval x = .pointer (some ⟨b, j * E.k, none⟩)) (hy : a.eval y = .agg (E.enc y0).toArray)
    (hm : Mem L H0 w W) (k : Nat) (hk : L[k]? = some (rowT E (.slice p n cap) xs)) (hp : p = some ⟨b, 0, none⟩) (hL2 : L.eraseIdx k = L2) (hj : j < xs.length) (hS : CovS L2 S) (hd : o.dst = none) (h : ∀ W', Mem (rowT E (.slice p n cap) (xs.set j y0) :: L2) H0 w W' → GK S W W' → wpS P ops S Q rest a W') : wpS P ops S Q ((i, 3) :: rest) a W := by
  subst hL2 ht
  have hm1 : Mem (rowT E (.slice p n cap) xs :: L.eraseIdx k) H0 w W := SEnd.mono hm fun _ h => stars_pick L k _ hk h
  obtain ⟨g, cur, hp', hn, hc, hmx, hl, hcur, hm2⟩ := hm1.rowOpen (by omega)
  rw [hp] at hp'
  simp only [Option.some.injEq, Addr.mk.injEq, and_true] at hp'
  subst hp' hp
  obtain ⟨i0, hin, hz0, hz1, hz2⟩ := info_parts E.info
  have hb : (j + 1) * E.k ≤ n * E.k := Nat.mul_le_mul_right _ (by omega)
  have hb2 : n * E.k ≤ cap * E.k := Nat.mul_le_mul_right _ hc
  rw [Nat.succ_mul] at hb
  refine wpS_store (v := .agg (E.enc y0).toArray) (vs := E.enc y0) (cs := cur) (cs' := putL cur (j * E.k) (E.enc y0)) hi hw ho hx hy (by simp [Value.cells]) (by rw [hin, E.len]; exact congrArg some hz1) (List.all_eq_true.2 (E.one y0)) hm2 0 rfl (by rw [E.len, hl]; omega) rfl hS hd fun W' hm3 hg => h W' ?_ hg
  refine Mem.rowClose (by rw [List.length_set, hn]) hc hmx (by rw [putL_len, hl]) ?_ hm3
  rw [putL_take, hcur, cells_put hj]
/-- Nothing is appended. -/
theorem run_app0 {x y : Operand} {p q : Option Addr} {n c e : Nat} (hc : n ≤ c) (ho : o.op = .call { callee := .builtin .append, args := #[x, y], argTypes := #[E.sl, E.sl] }) (hx : a.eval x = .slice p n c) (hy : a.eval y = .slice q 0 e) : (execOp a.eval o).run P W = .ok (.value (.slice p n c)) W := by
  have hr : (Builtin.append_ #[E.sl, E.sl] o.type #[.slice p n c, .slice q 0 e]).run P W = .ok (.slice p n c) W := by
    have hs := E.size_run W
    have hf : (Builtin.firstCells E.k 0 (.slice q 0 e)).run P W = .ok #[] W := by
      cases q with
      | none => exact run_firstCells_none W E.k 0 0 e
      | some ad => exact run_firstCells_some W E.k 0 ad 0 e [] (by simp) (by simp)
    clear hx hy
    cases p <;> cases q <;> simp [Builtin.append_, run_underlying E.under, hs, Builtin.lenOf, hc, storeCells, Result.andThen_ok, go_sem]
  unfold execOp
  simp only [ho, resolve, invoke, builtin, Sem.run_bind, Sem.run_pure, Result.andThen_ok, List.map_toArray, List.map_cons, List.map_nil, hx, hy, hr]
/-- The end of a row of one's own. -/
theorem run_endE {x l h : Operand} {p : Option Addr} {n c k m : Nat} (hk : k ≤ m) (hm : m ≤ c) (ho : o.op = .slice E.sl x (some l) (some h) none) (hx : a.eval x = .slice p n c) (hl : a.eval l = .int .i64 (k : Int)) (hh : a.eval h = .int .i64 (m : Int)) : (execOp a.eval o).run P W = .ok (.value (.slice (if c = k then p else p.map fun a => a.add (k * E.k)) (m - k) (c - k))) W := by
  have hu : P.underlying E.sl = some (.slice (P.elem E.sl)) := by rw [E.elem_t]; exact E.under
  have hs : (sizeOf (P.elem E.sl)).run P W = .ok E.k W := by rw [E.elem_t]; exact E.size_run W
  have h3 := run_slice_lh (P := P) W E.sl p n c hu .i64 .i64 (k : Int) (m : Int) (Int.natCast_nonneg k) (by exact_mod_cast hk) (by exact_mod_cast hm)
  rw [hs] at h3
  unfold execOp
  simp only [ho, hx, hl, hh, Option.map_none, Option.map_some, Sem.run_bind, run_sliceAt_slice W _ _ _ _ _ hu, h3, Result.andThen_ok]
  cases p <;> simp [sliced, go_sem]
theorem run_endB {x l h : Operand} {b n c k m : Nat} (hk : k < m) (hm : m ≤ c) (ho : o.op = .slice E.sl x (some l) (some h) none) (hx : a.eval x = .slice (some ⟨b, 0, none⟩) n c) (hl : a.eval l = .int .i64 (k : Int)) (hh : a.eval h = .int .i64 (m : Int)) : (execOp a.eval o).run P W = .ok (.value (.slice (some ⟨b, k * E.k, none⟩) (m - k) (c - k))) W := by
  rw [run_endE (Nat.le_of_lt hk) hm ho hx hl hh, if_neg (by omega), Option.map_some, addr_off, Nat.zero_add]
theorem run_allE {x l h m : Operand} {p : Option Addr} {n c k j e : Nat} (hk : k ≤ j) (hj : j ≤ e) (he : e ≤ c) (ho : o.op = .slice E.sl x (some l) (some h) (some m)) (hx : a.eval x = .slice p n c) (hl : a.eval l = .int .i64 (k : Int)) (hh : a.eval h = .int .i64 (j : Int)) (hm : a.eval m = .int .i64 (e : Int)) : (execOp a.eval o).run P W = .ok (.value (.slice (if e = k then p else p.map fun a => a.add (k * E.k)) (j - k) (e - k))) W := by
  have hu : P.underlying E.sl = some (.slice (P.elem E.sl)) := by rw [E.elem_t]; exact E.under
  have hs : (sizeOf (P.elem E.sl)).run P W = .ok E.k W := by rw [E.elem_t]; exact E.size_run W
  have h3 := run_slice_lhm (P := P) W E.sl p n c hu .i64 .i64 .i64 (k : Int) (j : Int) (e : Int) (Int.natCast_nonneg k) (by exact_mod_cast hk) (by exact_mod_cast hj) (by exact_mod_cast he)
  rw [hs] at h3
  unfold execOp
  simp only [ho, hx, hl, hh, hm, Option.map_some, Sem.run_bind, run_sliceAt_slice W _ _ _ _ _ hu, h3, Result.andThen_ok]
  cases p <;> simp [sliced, go_sem]
/-- The end of a row is cleared: what is left of it is a row. -/
theorem wpS_clearE {x : Operand} {b n cap j c2 : Nat} {z0 : α} {L2 : List At} (hz : E.z.cells.toList = E.enc z0) (hi : ops[i]? = some o) (hw : Region.wanted o (yielded ops a.tmps) = true) (ho : o.op = .call { callee := .builtin .clear, args := #[x], argTypes := #[E.sl] }) (hx : a.eval x = .slice (some ⟨b, j * E.k, none⟩) (n - j) c2)
    (hm : Mem L H0 w W) (k : Nat) (hk : L[k]? = some (rowT E (.slice (some ⟨b, 0, none⟩) n cap) xs)) (hL2 : L.eraseIdx k = L2) (hn : xs.length = n) (hj : j < n) (hS : CovS L2 S) (hd : o.dst = none) (h : ∀ W', Mem (rowT E (.slice (some ⟨b, 0, none⟩) j cap) (xs.take j) :: L2) H0 w W' → GK S W W' → wpS P ops S Q rest a W') : wpS P ops S Q ((i, 3) :: rest) a W := by
  subst hL2
  have hm1 : Mem (rowT E (.slice (some ⟨b, 0, none⟩) n cap) xs :: L.eraseIdx k) H0 w W := SEnd.mono hm fun _ h => stars_pick L k _ hk h
  obtain ⟨g, cur, hp', hn', hc, hmx, hl, hcur, hm2⟩ := hm1.rowOpen (by omega)
  simp only [Option.some.injEq, Addr.mk.injEq, and_true] at hp'
  subst hp'
  obtain ⟨i0, hin, hz0, hz1, hz2⟩ := info_parts E.info
  have hb2 : n * E.k ≤ cap * E.k := Nat.mul_le_mul_right _ hc
  have hb3 : j * E.k ≤ n * E.k := Nat.mul_le_mul_right _ (Nat.le_of_lt hj)
  obtain ⟨h1, h2⟩ := hm2.setBox 0 rfl (.cells (putL cur (j * E.k) (Builtin.zeroCells E.z.cells (n - j)).toList).toArray E.t (0, 0)) hS
  have hlen : (Builtin.zeroCells E.z.cells (n - j)).toList.length = (n - j) * E.k := by simp [Builtin.zeroCells, E.zs]
  have hst := run_storeCells (P := P) _ cur (j * E.k) 0 W (hm2.box 0 rfl) (by rw [hlen, Nat.sub_mul, hl]; omega) (zero_one hz (n - j))
  refine wpS_eff hi hw (R := fun _ W' => W' = { W with heap := W.heap.setIfInBounds b (.cells (putL cur (j * E.k) (Builtin.zeroCells E.z.cells (n - j)).toList).toArray E.t (0, 0)) }) ⟨.tuple #[], _, ?_, rfl⟩ (fun _ W' e => by subst e; exact h2) hd fun _ W' e => e ▸ h _ (?_ : Mem (rowT E (.slice (some ⟨b, 0, none⟩) j cap) (xs.take j) :: L.eraseIdx k) H0 w { W with heap := W.heap.setIfInBounds b (.cells (putL cur (j * E.k) (Builtin.zeroCells E.z.cells (n - j)).toList).toArray E.t (0, 0)) }) h2
  · obtain ⟨m, hm⟩ : ∃ m, n - j = m + 1 := ⟨n - j - 1, by omega⟩
    have hv : (zeroValue E.t).run P W = .ok E.z W := by simp [zeroValue, typeInfo, hin, hz0, go_sem]
    have hr : (Builtin.clear_ #[E.sl] o.type #[.slice (some ⟨b, j * E.k, none⟩) (n - j) c2]).run P W = .ok (.tuple #[]) { W with heap := W.heap.setIfInBounds b (.cells (putL cur (j * E.k) (Builtin.zeroCells E.z.cells (n - j)).toList).toArray E.t (0, 0)) } := by
      rw [hm] at hst ⊢
      simp only [Builtin.clear_, Sem.run_bind, run_underlying E.under, Result.andThen_ok, List.getElem?_toArray, List.getElem?_cons_zero, hv, hst, Sem.run_pure, Nat.add_zero]
    unfold execOp
    simp only [ho, resolve, invoke, builtin, Sem.run_bind, Sem.run_pure, Result.andThen_ok, List.map_toArray, List.map_cons, List.map_nil, hx, hr]
  · refine Mem.rowClose (by rw [List.length_take]; omega) (by omega) hmx (by rw [putL_len, hl]) ?_ h1
    rw [putL_eq _ _ _ (by rw [hlen, Nat.sub_mul, hl]; omega), List.take_left' (by rw [List.length_take, hl]; omega), ← E.take_cells (by omega), ← hcur, List.take_take, Nat.min_eq_left hb3]
end
end Go.Proofs.Ytnahhbpaijfpbaa
