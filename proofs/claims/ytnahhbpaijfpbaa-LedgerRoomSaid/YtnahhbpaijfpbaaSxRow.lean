/- Slices among the objects: of one's own, read, made, appended to. -/
import Derived.Test.YtnahhbpaijfpbaaSxLoop
namespace Go.Proofs.Ytnahhbpaijfpbaa
open Go Go.RowKit

theorem fillS_from : ∀ (l : List Value) (k : Nat) (arr : Array Value), k + l.length = arr.size → (l.zipIdx k).foldl (fun cs x => cs.setIfInBounds x.snd x.fst) arr = (arr.toList.take k ++ l).toArray
  | [], k, arr, h => by
    simp only [List.zipIdx_nil, List.foldl_nil, List.append_nil]
    apply Array.toList_inj.1
    simp only [List.length_nil, Nat.add_zero] at h
    rw [List.take_of_length_le (by simp; omega)]
  | x :: l, k, arr, h => by
    rw [List.length_cons] at h
    rw [List.zipIdx_cons, List.foldl_cons, fillS_from l (k + 1) _ (by simp; omega)]
    apply Array.toList_inj.1
    dsimp only
    rw [Array.toList_setIfInBounds]
    have hk : k < arr.toList.length := by simp; omega
    rw [List.take_add_one, List.getElem?_set_self hk, List.take_set_of_le (Nat.le_refl _)]
    simp
theorem fillS_all (l : List Value) (arr : Array Value) (h : l.length = arr.size) : l.zipIdx.foldl (fun cs x => cs.setIfInBounds x.snd x.fst) arr = l.toArray := by
  rw [fillS_from l 0 arr (by omega)]
  rfl
section
variable {P : Program} {α : Type} {E : Elem P α} {w W W' : World} {v v2 : Value} {xs l2 : List α} {H0 : Nat → Prop} {L rem : List At}
theorem runR_append (ty : TypeId) (hm : W.ownsRow 0 E.t E.k v xs.length (E.cells xs)) (hs : SrcE E W v2 l2) (hb : (xs.length + l2.length) * E.bytes ≤ 140737488355328) :
    ∃ v' w', (Builtin.append_ #[E.sl, E.sl] ty #[v, v2]).run P W = .ok v' w' ∧ w'.ownsRow 0 E.t E.k v' (xs ++ l2).length (E.cells (xs ++ l2)) ∧ W.grownBy w' v.ownBlock ∧ ∀ g, v'.ownBlock = some g → v.ownBlock = some g ∨ W.heap.size ≤ g := by
  obtain ⟨i0, hi, hz0, hz1, hz2⟩ := info_parts E.info
  obtain ⟨hl, p, cap, rfl, hlc, hpc⟩ := hs
  cases p with
  | none =>
    obtain rfl := hpc rfl
    obtain rfl : l2 = [] := List.eq_nil_of_length_eq_zero (by omega)
    refine ⟨v, W, run_append_owned_none (P := P) (w := W) 0 E.sl ty E.t i0 E.k E.under hi v xs.length (E.cells xs) hm, ?_, ⟨rfl, rfl, rfl, Nat.le_refl _, fun _ _ _ => rfl⟩, fun g h => .inl h⟩
    rw [List.append_nil]
    exact hm
  | some a =>
    have hnews : ∀ j u, (E.cells l2)[j]? = some u → W.cell? (a.add j) = some u := by
      intro j u hu
      rcases hl with ⟨rfl, _⟩ | ⟨b, o, cap', he, hlt, hc⟩
      · simp [Elem.cells] at hu
      · simp only [Value.slice.injEq, Option.some.injEq] at he
        obtain ⟨rfl, _, _⟩ := he
        rw [addr_off]
        obtain ⟨i, j', x, rfl, hx, hu'⟩ := E.cells_inv l2 j u hu
        rw [← Nat.add_assoc]
        exact hc i x hx j' u hu'
    have hbp := E.bpos
    have hle : xs.length + l2.length ≤ 140737488355328 := Nat.le_trans (Nat.le_mul_of_pos_right _ hbp) hb
    obtain ⟨v', w', hr, h2, h3, h4⟩ := run_append_where (P := P) W E.sl ty E.t i0 E.z E.k E.bytes E.under hi hz0 hz1 hz2 E.zs E.pos v xs.length (E.cells xs) hm a l2.length cap (E.cells l2) (E.cells_len l2) hnews (E.cells_one l2) (by unfold maxLen; omega) hb
    refine ⟨v', w', hr, ?_, h3, h4⟩
    rw [List.length_append, E.cells_append]
    exact h2
/-- A row of one's own: all of its block. -/
def rowT (E : Elem P α) (v : Value) (xs : List α) : At where
  p := fun W H => W.ownsRow 0 E.t E.k v xs.length (E.cells xs) ∧ ∀ k, H k ↔ v.ownBlock = some k
  owns := ⟨fun _ _ h k hk => (h.1.lt k ((h.2 k).1 hk)).2, fun _ _ _ h _ hk => ⟨row_keepsE h.1 fun g hg => hk g ((h.2 g).2 hg), h.2⟩⟩
/-- What reads as a row. -/
def Reads (E : Elem P α) (A : At) (v : Value) (xs : List α) : Prop := ∀ W H, A.p W H → SrcE E W v xs
theorem rowT_reads : Reads E (rowT E v xs) v xs := fun _ _ h => ⟨rowAt_own h.1, ownsRow_formE h.1⟩
theorem Mem.src (h : Mem L H0 w W) (i : Nat) {A : At} (hi : L[i]? = some A) (hr : Reads E A v xs) : SrcE E W v xs := h.have i hi fun H h => hr W H h
theorem Mem.row (h : Mem L H0 w W) (i : Nat) {A : At} (hi : L[i]? = some A) (hr : ∀ W H, A.p W H → RowAt E W v xs) : RowAt E W v xs := h.have i hi fun H h => hr W H h
theorem Mem.nilRow (E : Elem P α) (h : Mem L H0 w W) : Mem (rowT E (.slice none 0 0) [] :: L) H0 w W := SEnd.mono h fun H h => ⟨fun _ => False, H, ⟨World.ownsRow_nil _ _ _ _, fun k => by simp [Value.ownBlock]⟩, h, fun _ h => h.elim, fun _ => ⟨.inr, fun h => h.elim (fun h => h.elim) id⟩⟩
theorem row_form (h : SrcE E W v xs) : ∃ p cap, v = .slice p xs.length cap := by obtain ⟨_, p, cap, h, _⟩ := h; exact ⟨p, cap, h⟩
/-- A new block of one element is a row. -/
theorem Mem.row1 {b : Nat} {x : α} {cs : Array Value} (hc : cs.toList = E.enc x) (h : Mem (boxT b (.cells cs E.t (0, 0)) :: L) H0 w W) : Mem (rowT E (.slice (some ⟨b, 0, none⟩) 1 1) [x] :: L) H0 w W := h.as fun H h => by
  have hl : cs.toList.length = E.k := by rw [hc, E.len]
  have hcells : E.cells [x] = E.enc x := by show E.enc x ++ [] = _; rw [List.append_nil]
  refine ⟨⟨by rw [E.cells_len], .inr ⟨b, 1, cs, rfl, Nat.zero_le _, h.1, Nat.le_refl _, by unfold maxLen; omega, by rw [Nat.one_mul, ← hl]; simp, ?_⟩⟩, fun k => ?_⟩
  · rw [hcells, ← hc]
    exact List.take_of_length_le (by rw [hl]; simp)
  · rw [h.2 k]
    simp [Value.ownBlock, eq_comm]
theorem run_build1 (E : Elem P α) {x : Value} (hx : x.cells.size = E.k) (hb : E.k ≤ 1000) (W : World) : (Instr.buildSlice E.sl 1 #[(0, x)]).run P W = .ok (.slice (some ⟨W.heap.size, 0, none⟩) 1 1) (W.alloc (.cells x.cells E.t (0, 0))) := by
  obtain ⟨i0, hi, hz0, hz1, hz2⟩ := info_parts E.info
  have hpos := E.pos
  have hu : (underlying E.sl).run P W = .ok (.slice E.t) W := by simp [underlying, E.under, go_sem]
  have hs : (sizeOf E.t).run P W = .ok E.k W := by simp [sizeOf, typeInfo, hi, hz1, go_sem]
  have hz : (zeroValue E.t).run P W = .ok E.z W := by simp [zeroValue, typeInfo, hi, hz0, go_sem]
  have hf : Instr.fill (fun i => some (i * E.k, E.k)) ((Array.range (1 * E.k)).map (E.z.cells[· % E.z.cells.size]!)) [(0, x)] = some x.cells := by
    have e : ∀ (cs z : Array Value), cs.size = z.size → cs.zipIdx.foldl (fun cs x => cs.setIfInBounds x.2 x.1) z = cs := by
      intro cs z h
      rw [← Array.foldl_toList, Array.toList_zipIdx, fillS_all _ _ (by simpa using h)]
    unfold Instr.fill
    simp only [Nat.zero_mul, Nat.zero_add]
    rw [if_neg (by simp [hx])]
    unfold Instr.fill
    congr 1
    exact e _ _ (by simp [hx])
  unfold Instr.buildSlice
  simp only [Sem.run_bind, hu, hs, Result.andThen_ok]
  rw [if_neg (by simp; omega), if_neg (by simp; omega)]
  simp only [Sem.run_bind, hz, Sem.run_pure, Result.andThen_ok, hf]
  simp [newRow, go_sem]
end
section
variable {P : Program} {ops : Array Oper} {S : Nat → Prop} {Q : Act → World → Prop} {a : Act} {W w : World} {H0 : Nat → Prop} {rest : List (Nat × Nat)} {i : Nat} {o : Oper} {L pre post rem : List At} {d : Option Tmp} {α : Type} {E : Elem P α}
/-- A reading operation, by its outcome. -/
theorem wpS_read {v : Value} (hi : ops[i]? = some o) (hw : Region.wanted o (yielded ops a.tmps) = true) (hrun : (execOp a.eval o).run P W = .ok (.value v) W) (hd : o.dst = d) (h : wpS P ops S Q rest (a.put d v) W) : wpS P ops S Q ((i, 1) :: rest) a W := by
  subst hd
  show opS P ops S i 1 (wpS P ops S Q rest) a W
  unfold opS
  rw [hi]
  dsimp only
  rw [if_pos (by omega)]
  exact ⟨v, .inl ⟨hw, fun x hx => .inl (by have e : x = W := hx; subst e; exact hrun)⟩, h⟩
/-- A function value. -/
theorem wpS_func {fn : Fn} {first cap : Array Operand} {v : Value} (hi : ops[i]? = some o) (hw : Region.wanted o (yielded ops a.tmps) = true) (ho : o.op = .makeFunc fn first cap) (hv : Value.func fn (first.map a.eval) (cap.map a.eval) = v) (hd : o.dst = d) (h : wpS P ops S Q rest (a.put d v) W) : wpS P ops S Q ((i, 0) :: rest) a W := by
  subst hd hv
  show opS P ops S i 0 (wpS P ops S Q rest) a W
  unfold opS
  rw [hi]
  dsimp only
  rw [if_pos (by omega)]
  refine ⟨_, .inl ⟨hw, fun x _ => .inl ?_⟩, h⟩
  unfold execOp
  simp only [ho, Instr.makeFunc, Sem.run_bind, Sem.run_pure, Result.andThen_ok]
theorem wpS_func1 {fn : Fn} {x : Operand} {v : Value} (hi : ops[i]? = some o) (hw : Region.wanted o (yielded ops a.tmps) = true) (ho : o.op = .makeFunc fn #[x] #[]) (hx : a.eval x = v) (hd : o.dst = d) (h : wpS P ops S Q rest (a.put d (.func fn #[v] #[])) W) : wpS P ops S Q ((i, 0) :: rest) a W := wpS_func hi hw ho (by simp [hx]) hd h
/-- A call of a function value. -/
theorem run_callV {f : Nat} {x : Operand} {xs : Array Operand} {ts : Array TypeId} {first cap : Array Value} (ho : o.op = .call { callee := .value x, args := xs, argTypes := ts }) (hx : a.eval x = .func (.func f) first cap) (eg : ∀ args w, (callFunc f args).run P w = .ok (.enter f args) w) {args : Array Value} (hxs : first ++ xs.map a.eval ++ cap = args) : (execOp a.eval o).run P W = .ok (.enter f args) W := by
  subst hxs
  unfold execOp
  simp only [ho, resolve, hx, Deferred.ofValue, invoke, Sem.run_bind, Sem.run_pure, Result.andThen_ok, eg]
theorem wpS_doesV1 {f : Nat} {x x1 : Operand} {ts : Array TypeId} {first cap : Array Value} {args : Array Value} {v v1 : Value} {out : List At} (hi : ops[i]? = some o) (hw : Region.wanted o (yielded ops a.tmps) = true) (ho : o.op = .call { callee := .value x, args := #[x1], argTypes := ts }) (hx : a.eval x = .func (.func f) first cap) (eg : ∀ args w, (callFunc f args).run P w = .ok (.enter f args) w)
    (hc : Does P f args pre v post) (h1 : a.eval x1 = v1) (hargs : first ++ #[v1] ++ cap = args) (hm : Mem L H0 w W) (idx : List Nat) (hsel : selA L idx = (pre, rem)) (hS : CovS rem S) (hout : post ++ rem = out) (hd : o.dst = d) (h : ∀ W', Mem out H0 w W' → GK S W W' → wpS P ops S Q rest (a.put d v) W') : wpS P ops S Q ((i, 3) :: rest) a W :=
  wpS_enter hi hw (run_callV ho hx eg (by rw [← hargs]; simp [h1])) (R := fun u W' => u = v ∧ Mem (post ++ rem) H0 w W' ∧ GK S W W') ((hc.mem hm idx hsel hS).mono fun e W' ⟨he, h⟩ => ⟨v, he, rfl, h⟩) (fun _ _ h => h.2.2) hd fun u W' ⟨hu, h1, h2⟩ => by subst hu; exact h W' (hout ▸ h1) h2
/-- The address of an element. -/
theorem wpS_index {x ix : Operand} {p : Option Addr} {n cap j : Nat} {xs : List α} {y : α} (hi : ops[i]? = some o) (hw : Region.wanted o (yielded ops a.tmps) = true) (ho : o.op = .indexAddr E.sl x ix) (hx : a.eval x = .slice p n cap) (hix : a.eval ix = .int .i64 (j : Int)) (hr : RowAt E W (.slice p n cap) xs) (hy : xs[j]? = some y) (hd : o.dst = d)
    (h : ∀ b off, (∀ k u, (E.enc y)[k]? = some u → W.cell? ⟨b, off + k, none⟩ = some u) → wpS P ops S Q rest (a.put d (.pointer (some ⟨b, off, none⟩))) W) : wpS P ops S Q ((i, 1) :: rest) a W := by
  obtain ⟨i0, hin, hz0, hz1, hz2⟩ := info_parts E.info
  have hlt := (List.getElem?_eq_some_iff.1 hy).1
  rcases hr with ⟨rfl, _⟩ | ⟨b, off, cap', he, _, hc⟩
  · simp at hlt
  · simp only [Value.slice.injEq] at he
    obtain ⟨rfl, rfl, _⟩ := he
    refine wpS_read hi hw (v := .pointer (some ⟨b, off + j * E.k, none⟩)) ?_ hd (h _ _ fun k u hu => hc j y hy k u hu)
    have hu : (underlying E.sl).run P W = .ok (.slice E.t) W := by simp [underlying, E.under, go_sem]
    have hs : (sizeOf E.t).run P W = .ok E.k W := by simp [sizeOf, typeInfo, hin, hz1, go_sem]
    unfold execOp
    simp only [ho, hx, hix, Instr.indexAt, asIntOf, Sem.run_bind, Sem.run_pure, Result.andThen_ok, hu]
    simp [hs, hlt, addr_off, go_sem]
theorem run_loadFrom {b off : Nat} {W : World} : ∀ (n i : Nat) (cells : List Value) (acc : Array Value), (∀ k u, cells[k]? = some u → W.cell? ⟨b, off + k, none⟩ = some u) → i + n = cells.length → acc = (cells.take i).toArray → (loadCellsFrom ⟨b, off, none⟩ i n acc).run P W = .ok cells.toArray W
  | 0, i, cells, acc, _, hn, ha => by
    subst ha
    rw [Nat.add_zero] at hn
    subst hn
    simp [loadCellsFrom, go_sem]
  | n + 1, i, cells, acc, h, hn, ha => by
    have hlt : i < cells.length := by omega
    have hc := h i cells[i] (List.getElem?_eq_getElem hlt)
    have hl : (load (Addr.add ⟨b, off, none⟩ i)).run P W = .ok cells[i] W := by
      rw [addr_off]
      simp [load, Sem.run, hc]
    unfold loadCellsFrom
    rw [Sem.run_bind, hl, Result.andThen_ok]
    refine run_loadFrom n (i + 1) cells _ h (by omega) ?_
    subst ha
    rw [List.take_add_one, List.getElem?_eq_getElem hlt]
    simp
/-- A struct read out of memory. -/
theorem wpS_loadA {t : TypeId} {x : Operand} {b off : Nat} {cells : List Value} {td : TypeDesc} (hi : ops[i]? = some o) (hw : Region.wanted o (yielded ops a.tmps) = true) (ho : o.op = .load t x) (hx : a.eval x = .pointer (some ⟨b, off, none⟩)) (hc : ∀ k u, cells[k]? = some u → W.cell? ⟨b, off + k, none⟩ = some u)
    (hu : P.underlying t = some td) (hd' : (match td with | .struct _ | .array _ _ => true | _ => false) = true) (hn : (P.info? t).map (·.size) = some cells.length) (hd : o.dst = d) (h : wpS P ops S Q rest (a.put d (.agg cells.toArray)) W) : wpS P ops S Q ((i, 1) :: rest) a W := by
  refine wpS_read hi hw ?_ hd h
  obtain ⟨ti, hti, hsz⟩ := Option.map_eq_some_iff.1 hn
  have h1 : (isAgg t).run P W = .ok true W := by
    have hu' : (underlying t).run P W = .ok td W := by simp [underlying, hu, go_sem]
    unfold isAgg
    rw [Sem.run_bind, hu', Result.andThen_ok]
    cases td <;> simp_all [go_sem]
  have h2 : (sizeOf t).run P W = .ok cells.length W := by simp [sizeOf, typeInfo, hti, hsz, go_sem]
  have h3 : (loadCells ⟨b, off, none⟩ cells.length).run P W = .ok cells.toArray W := run_loadFrom cells.length 0 cells #[] hc (by omega) (by simp)
  have h4 : (loadVar t ⟨b, off, none⟩).run P W = .ok (.agg cells.toArray) W := by
    unfold loadVar
    rw [Sem.run_bind, h1, Result.andThen_ok]
    simp only [if_true]
    rw [Sem.run_bind, h2, Result.andThen_ok, Sem.run_bind, h3, Result.andThen_ok]
    rfl
  unfold execOp
  simp only [ho, hx, Instr.loadAt, Instr.sureAddr, Sem.run_bind, Sem.run_pure, Result.andThen_ok, h4]
/-- A number and its like read out of memory. -/
theorem wpS_load1 {t : TypeId} {x : Operand} {b off : Nat} {u : Value} {td : TypeDesc} (hi : ops[i]? = some o) (hw : Region.wanted o (yielded ops a.tmps) = true) (ho : o.op = .load t x) (hx : a.eval x = .pointer (some ⟨b, off, none⟩)) (hc : W.cell? ⟨b, off, none⟩ = some u)
    (hu : P.underlying t = some td) (hd' : (match td with | .struct _ | .array _ _ => true | _ => false) = false) (hd : o.dst = d) (h : wpS P ops S Q rest (a.put d u) W) : wpS P ops S Q ((i, 1) :: rest) a W := by
  refine wpS_read hi hw ?_ hd h
  have h1 : (isAgg t).run P W = .ok false W := by
    have hu' : (underlying t).run P W = .ok td W := by simp [underlying, hu, go_sem]
    unfold isAgg
    rw [Sem.run_bind, hu', Result.andThen_ok]
    cases td <;> simp_all [go_sem]
  have h4 : (loadVar t ⟨b, off, none⟩).run P W = .ok u W := by
    unfold loadVar
    rw [Sem.run_bind, h1, Result.andThen_ok]
    simp [load, Sem.run, hc]
  unfold execOp
  simp only [ho, hx, Instr.loadAt, Instr.sureAddr, Sem.run_bind, Sem.run_pure, Result.andThen_ok, h4]
/-- A slice of one new element. -/
theorem wpS_build1 (E : Elem P α) {x : Operand} {v : Value} {y : α} {dd : Tmp} (hi : ops[i]? = some o) (hw : Region.wanted o (yielded ops a.tmps) = true) (ho : o.op = .buildSlice E.sl 1 #[(0, x)]) (hx : a.eval x = v) (hv : v.cells.toList = E.enc y) (hb : E.k ≤ 1000) (hm : Mem L H0 w W) (hS : CovS L S) (hd : o.dst = some dd)
    (h : ∀ b W', Mem (rowT E (.slice (some ⟨b, 0, none⟩) 1 1) [y] :: L) H0 w W' → GK S W W' → wpS P ops S Q rest (a.put (some dd) (.slice (some ⟨b, 0, none⟩) 1 1)) W') : wpS P ops S Q ((i, 3) :: rest) a W := by
  have hs : v.cells.size = E.k := by rw [← E.len y, ← hv]; simp
  refine wpS_eff hi hw (R := fun u W' => u = .slice (some ⟨W.heap.size, 0, none⟩) 1 1 ∧ W' = W.alloc (.cells v.cells E.t (0, 0))) ⟨_, _, ?_, rfl, rfl⟩ (fun v W' ⟨_, e⟩ => by subst e; exact GK.of_below (ext_alloc (ext_refl W) _) (hS.lt hm)) hd fun u W' ⟨hu, hW⟩ => ?_
  · unfold execOp
    simp only [ho, List.map_toArray, List.map_cons, List.map_nil, hx, Sem.run_bind, Sem.run_pure, Result.andThen_ok, run_build1 E hs hb]
  · subst hu hW
    exact h _ _ (Mem.row1 hv (SEnd.box (stars_owns L) hm _)) (GK.of_below (ext_alloc (ext_refl W) _) (hS.lt hm))
/-- A new block of some elements is a row. -/
theorem Mem.rowN {b n : Nat} {xs : List α} {cs : Array Value} (hc : cs.toList = E.cells xs) (hn : xs.length = n) (hl : n ≤ maxLen) (h : Mem (boxT b (.cells cs E.t (0, 0)) :: L) H0 w W) : Mem (rowT E (.slice (some ⟨b, 0, none⟩) n n) xs :: L) H0 w W := h.as fun H h => by
  subst hn
  have hz : cs.size = xs.length * E.k := by
    have := E.cells_len xs
    rw [← hc] at this
    simpa using this
  refine ⟨⟨by rw [E.cells_len], .inr ⟨b, xs.length, cs, rfl, Nat.zero_le _, h.1, Nat.le_refl _, hl, hz, ?_⟩⟩, fun k => ?_⟩
  · rw [← hc]
    exact List.take_of_length_le (by rw [Array.length_toList, hz]; exact Nat.le_refl _)
  · rw [h.2 k]
    simp [Value.ownBlock, eq_comm]
theorem wpS_buildN (E : Elem P α) {n : Nat} {xs : List α} {cs : Array Value} {dd : Tmp} (hi : ops[i]? = some o) (hw : Region.wanted o (yielded ops a.tmps) = true) (hrun : ∀ W : World, (execOp a.eval o).run P W = .ok (.value (.slice (some ⟨W.heap.size, 0, none⟩) n n)) (W.alloc (.cells cs E.t (0, 0)))) (hc : cs.toList = E.cells xs) (hn : (xs.length == n && Nat.ble n 1000) = true) (hm : Mem L H0 w W) (hS : CovS L S) (hd : o.dst = some dd)
    (h : ∀ b W', Mem (rowT E (.slice (some ⟨b, 0, none⟩) n n) xs :: L) H0 w W' → GK S W W' → wpS P ops S Q rest (a.put (some dd) (.slice (some ⟨b, 0, none⟩) n n)) W') : wpS P ops S Q ((i, 3) :: rest) a W := by
  rw [Bool.and_eq_true] at hn
  have hn1 : xs.length = n := by simpa using hn.1
  have hn2 : n ≤ maxLen := Nat.le_trans (Nat.le_of_ble_eq_true hn.2) (by decide)
  refine wpS_eff hi hw (R := fun u W' => u = .slice (some ⟨W.heap.size, 0, none⟩) n n ∧ W' = W.alloc (.cells cs E.t (0, 0))) ⟨_, _, hrun W, rfl, rfl⟩ (fun v W' ⟨_, e⟩ => by subst e; exact GK.of_below (ext_alloc (ext_refl W) _) (hS.lt hm)) hd fun u W' ⟨hu, hW⟩ => ?_
  subst hu hW
  exact h _ _ (Mem.rowN hc hn1 hn2 (SEnd.box (stars_owns L) hm _)) (GK.of_below (ext_alloc (ext_refl W) _) (hS.lt hm))
theorem Mem.append {v v2 : Value} {xs l2 : List α} (ty : TypeId) (h : Mem L H0 w W) (k : Nat) (hk : L[k]? = some (rowT E v xs)) (hs : SrcE E W v2 l2) (hb : (xs.length + l2.length) * E.bytes ≤ 140737488355328) (hS : CovS (L.eraseIdx k) S) :
    ∃ v' w', (Builtin.append_ #[E.sl, E.sl] ty #[v, v2]).run P W = .ok v' w' ∧ Mem (rowT E v' (xs ++ l2) :: L.eraseIdx k) H0 w w' ∧ GK S W w' := by
  have h1 : SEnd (star (rowT E v xs).p (stars (L.eraseIdx k))) H0 w W := SEnd.mono h fun _ h => stars_pick L k _ hk h
  obtain ⟨H, hst, hf, hg⟩ := h1
  obtain ⟨H1, h1, _, h3⟩ := star_frame (stars_owns _) hst
  obtain ⟨v', w', hr, h2, h4, h5⟩ := runR_append ty h1.1 hs hb
  have hstep : SEnd (rowT E v' (xs ++ l2)).p H1 W w' := by
    refine ⟨fun k => v'.ownBlock = some k, ⟨h2, fun _ => Iff.rfl⟩, Fr.of_grownBy h4 fun j hj => .inl ((h1.2 j).2 hj), fun k hk => ?_⟩
    rcases h5 k hk with h | h
    · exact .inl ((h1.2 k).2 h)
    · exact .inr h
  refine ⟨v', w', hr, ?_, (h3 _ _ hstep).2 S (hS W)⟩
  exact SEnd.trans (P := fun W1 H' => W1 = W ∧ H' = H) ⟨H, ⟨rfl, rfl⟩, hf, hg⟩ fun H' ⟨_, e⟩ => by subst e; exact (h3 _ _ hstep).1
/-- append, to a row of one's own. -/
theorem wpS_append {x y : Operand} {v v2 : Value} {xs l2 : List α} {L2 : List At} (hi : ops[i]? = some o) (hw : Region.wanted o (yielded ops a.tmps) = true) (ho : o.op = .call { callee := .builtin .append, args := #[x, y], argTypes := #[E.sl, E.sl] }) (hm : Mem L H0 w W) (k : Nat) (hk : L[k]? = some (rowT E v xs)) (hx : a.eval x = v) (hs : SrcE E W v2 l2) (hy : a.eval y = v2) (hb : (xs.length + l2.length) * E.bytes ≤ 140737488355328) (hL2 : L.eraseIdx k = L2) (hS : CovS L2 S) (hd : o.dst = d)
    (h : ∀ v' W', Mem (rowT E v' (xs ++ l2) :: L2) H0 w W' → GK S W W' → wpS P ops S Q rest (a.put d v') W') : wpS P ops S Q ((i, 3) :: rest) a W := by
  subst hL2
  obtain ⟨v', w', hr, h1, h2⟩ := hm.append o.type k hk hs hb hS
  refine wpS_eff hi hw (R := fun v' W' => Mem (rowT E v' (xs ++ l2) :: L.eraseIdx k) H0 w W' ∧ GK S W W') ⟨v', w', ?_, h1, h2⟩ (fun _ _ h => h.2) hd fun v' W' hh => h v' W' hh.1 hh.2
  unfold execOp
  simp only [ho, resolve, invoke, builtin, Sem.run_bind, Sem.run_pure, Result.andThen_ok, List.map_toArray, List.map_cons, List.map_nil, hx, hy, hr]
end
end Go.Proofs.Ytnahhbpaijfpbaa
