/- Rows opened: their blocks' cells; copied into, zeros behind them, parts of them. -/
import Derived.Test.YtnahhbpaijfpbaaSxRow
import Derived.Lib.AppendZeros
import Derived.Lib.Overlaps
namespace Go.Proofs.Ytnahhbpaijfpbaa
open Go Go.RowKit

theorem putL_eq : ∀ (vs l : List Value) (off : Nat), off + vs.length ≤ l.length → putL l off vs = l.take off ++ (vs ++ l.drop (off + vs.length))
  | [], l, off, _ => by
    show l = _
    rw [List.nil_append, List.length_nil, Nat.add_zero, List.take_append_drop]
  | v :: r, l, off, h => by
    rw [List.length_cons] at h
    show putL (l.set off v) (off + 1) r = _
    rw [putL_eq r _ (off + 1) (by rw [List.length_set]; omega), ← List.append_assoc, list_seg_step l off v r (by omega), List.append_assoc, List.length_cons]
theorem putL_mid {A B D vs : List Value} {off : Nat} (ha : A.length = off) (hb : B.length = vs.length) : putL (A ++ (B ++ D)) off vs = A ++ (vs ++ D) := by
  subst ha
  rw [putL_eq vs _ _ (by rw [List.length_append, List.length_append]; omega), List.take_left, ← hb, List.drop_append, List.drop_of_length_le (by omega), List.nil_append, show A.length + B.length - A.length = B.length by omega, List.drop_left]
/-- Room is made, then taken. -/
theorem putL_shift {A B R Y : List Value} {a : Nat} (ha : A.length = a) (hr : Y.length ≤ R.length) : putL (putL (A ++ (B ++ R)) (a + Y.length) B) a Y = A ++ (Y ++ (B ++ R.drop Y.length)) := by
  have e1 : A ++ (B ++ R) = (A ++ (B ++ R).take Y.length) ++ (((B ++ R).drop Y.length).take B.length ++ ((B ++ R).drop Y.length).drop B.length) := by
    rw [List.take_append_drop, List.append_assoc, List.take_append_drop]
  rw [e1, putL_mid (by rw [List.length_append, List.length_take, List.length_append]; omega) (by rw [List.length_take, List.length_drop, List.length_append]; omega), List.append_assoc, putL_mid ha (by rw [List.length_take, List.length_append]; omega)]
  congr 3
  rw [List.drop_drop, Nat.add_comm, ← List.drop_drop, List.drop_left]
/-- Two pieces are laid behind what is there. -/
theorem putL_two {A B Y Z : List Value} {a : Nat} (ha : A.length = a) (hz : Y.length + B.length ≤ Z.length) : putL (putL (A ++ Z) a Y) (a + Y.length) B = A ++ (Y ++ (B ++ Z.drop (Y.length + B.length))) := by
  have e1 : A ++ Z = A ++ (Z.take Y.length ++ Z.drop Y.length) := by rw [List.take_append_drop]
  have e2 : A ++ (Y ++ Z.drop Y.length) = (A ++ Y) ++ ((Z.drop Y.length).take B.length ++ (Z.drop Y.length).drop B.length) := by rw [List.take_append_drop, List.append_assoc]
  rw [e1, putL_mid ha (by rw [List.length_take]; omega), e2, putL_mid (by rw [List.length_append]; omega) (by rw [List.length_take, List.length_drop]; omega), List.append_assoc, List.drop_drop]
section
variable {P : Program} {α : Type} {E : Elem P α} {w W W' : World} {v v2 : Value} {xs l2 : List α} {H0 : Nat → Prop} {L rem : List At}
theorem Elem.take_cells {l : List α} {n : Nat} (hn : n ≤ l.length) : (E.cells l).take (n * E.k) = E.cells (l.take n) := by
  have h : E.cells l = E.cells (l.take n) ++ E.cells (l.drop n) := by rw [← E.cells_append, List.take_append_drop]
  have hl : (E.cells (l.take n)).length = n * E.k := by rw [E.cells_len, List.length_take, Nat.min_eq_left hn]
  rw [h, ← hl, List.take_left]
/-- A row of one's own, opened. -/
theorem Mem.rowOpen {p : Option Addr} {n c : Nat} (h : Mem (rowT E (.slice p n c) xs :: L) H0 w W) (hp : 0 < xs.length) : ∃ (g : Nat) (cur : List Value), p = some ⟨g, 0, none⟩ ∧ n = xs.length ∧ n ≤ c ∧ c ≤ maxLen ∧ cur.length = c * E.k ∧ cur.take (n * E.k) = E.cells xs ∧ Mem (boxT g (.cells cur.toArray E.t (0, 0)) :: L) H0 w W := by
  have h0 := h.have 0 rfl (p := ∃ g cap cur, Value.slice p n c = .slice (some ⟨g, 0, none⟩) xs.length cap ∧ W.heap[g]? = some (.cells cur E.t (0, 0)) ∧ xs.length ≤ cap ∧ cap ≤ maxLen ∧ cur.size = cap * E.k ∧ cur.toList.take (xs.length * E.k) = E.cells xs) fun H h => by
    rcases h.1.2 with ⟨_, e⟩ | ⟨g, cap, cur, e, _, hg, r⟩
    · omega
    · exact ⟨g, cap, cur, e, hg, r⟩
  obtain ⟨g, cap, cur, e, hg, h1, h2, h3, h4⟩ := h0
  simp only [Value.slice.injEq] at e
  obtain ⟨rfl, rfl, rfl⟩ := e
  refine ⟨g, cur.toList, rfl, rfl, h1, h2, by simpa using h3, h4, h.as fun H h => ⟨?_, fun k => ?_⟩⟩
  · simpa using hg
  · rw [h.2 k]
    simp [Value.ownBlock, eq_comm]
theorem row_cap {p : Option Addr} {n c : Nat} (h : SrcE E W (.slice p n c) xs) : xs.length ≤ c := by
  obtain ⟨_, _, _, e1, e2, _⟩ := h
  simp only [Value.slice.injEq] at e1
  omega
/-- A block is a row. -/
theorem Mem.rowClose {g n c : Nat} {cur : List Value} (hn : xs.length = n) (hc : n ≤ c) (hm : c ≤ maxLen) (hl : cur.length = c * E.k) (ht : cur.take (n * E.k) = E.cells xs) (h : Mem (boxT g (.cells cur.toArray E.t (0, 0)) :: L) H0 w W) : Mem (rowT E (.slice (some ⟨g, 0, none⟩) n c) xs :: L) H0 w W := h.as fun H h => by
  subst hn
  refine ⟨⟨E.cells_len xs, .inr ⟨g, c, cur.toArray, rfl, Nat.zero_le _, h.1, hc, hm, by simpa using hl, by simpa using ht⟩⟩, fun k => ?_⟩
  rw [h.2 k]
  simp [Value.ownBlock, eq_comm]
theorem Elem.elem_t : P.elem E.sl = E.t := by unfold Program.elem; rw [E.under]
theorem Elem.size_run (W : World) : (sizeOf E.t).run P W = .ok E.k W := by
  obtain ⟨i0, hi, hz0, hz1, hz2⟩ := info_parts E.info
  simp [sizeOf, typeInfo, hi, hz1, go_sem]
theorem run_tailE {o : Oper} {a : Act} {x l : Operand} {p : Option Addr} {n c k : Nat} (hk : k ≤ n) (ho : o.op = .slice E.sl x (some l) none none) (hx : a.eval x = .slice p n c) (hl : a.eval l = .int .i64 (k : Int)) : (execOp a.eval o).run P W = .ok (.value (.slice (if c = k then p else p.map fun a => a.add (k * E.k)) (n - k) (c - k))) W := by
  have hu : P.underlying E.sl = some (.slice (P.elem E.sl)) := by rw [E.elem_t]; exact E.under
  have hs : (sizeOf (P.elem E.sl)).run P W = .ok E.k W := by rw [E.elem_t]; exact E.size_run W
  have h3 := run_slice_l (P := P) W E.sl p n c hu .i64 (k : Int) (Int.natCast_nonneg k) (by exact_mod_cast hk)
  rw [hs] at h3
  unfold execOp
  simp only [ho, hx, hl, Option.map_none, Option.map_some, Sem.run_bind, run_sliceAt_slice W _ _ _ _ _ hu, h3, Result.andThen_ok]
  cases p <;> simp [sliced, go_sem]
theorem run_tailB {o : Oper} {a : Act} {x l : Operand} {b off n c k : Nat} (hk : k ≤ n) (hc : k < c) (ho : o.op = .slice E.sl x (some l) none none) (hx : a.eval x = .slice (some ⟨b, off, none⟩) n c) (hl : a.eval l = .int .i64 (k : Int)) : (execOp a.eval o).run P W = .ok (.value (.slice (some ⟨b, off + k * E.k, none⟩) (n - k) (c - k))) W := by
  rw [run_tailE hk ho hx hl, if_neg (by omega), Option.map_some, addr_off]
theorem run_headE {o : Oper} {a : Act} {x h : Operand} {p : Option Addr} {n c k : Nat} (hk : k ≤ c) (ho : o.op = .slice E.sl x none (some h) none) (hx : a.eval x = .slice p n c) (hh : a.eval h = .int .i64 (k : Int)) : (execOp a.eval o).run P W = .ok (.value (.slice p k c)) W := by
  have hu : P.underlying E.sl = some (.slice (P.elem E.sl)) := by rw [E.elem_t]; exact E.under
  have hs : (sizeOf (P.elem E.sl)).run P W = .ok E.k W := by rw [E.elem_t]; exact E.size_run W
  have h3 := run_slice_h (P := P) W E.sl p n c hu .i64 (k : Int) (Int.natCast_nonneg k) (by exact_mod_cast hk)
  rw [hs] at h3
  unfold execOp
  simp only [ho, hx, hh, Option.map_none, Option.map_some, Sem.run_bind, run_sliceAt_slice W _ _ _ _ _ hu, h3, Result.andThen_ok]
  cases p <;> simp [sliced, go_sem]
theorem run_copyE {g off dl dc sl sc n : Nat} {ad : Addr} {cur cs : List Value} {t ty : TypeId} (hg : W.heap[g]? = some (.cells cur.toArray t (0, 0))) (hn : Nat.min sl dl = n) (hl : cs.length = n * E.k) (hsrc : ∀ j u, cs[j]? = some u → W.cell? (ad.add j) = some u) (hfit : off + cs.length ≤ cur.length) (h1 : ∀ u ∈ cs, u.oneCell' = true) :
    (Builtin.copy_ #[E.sl, E.sl] ty #[.slice (some ⟨g, off, none⟩) dl dc, .slice (some ad) sl sc]).run P W = .ok (.int .i64 (n : Int)) { W with heap := W.heap.setIfInBounds g (.cells (putL cur off cs).toArray t (0, 0)) } := by
  have hf := run_firstCells_some (P := P) W E.k n ad sl sc cs hl hsrc
  have hst := run_storeCells (P := P) (b := g) (t := t) cs cur off 0 W hg (by omega) h1
  have hs := E.size_run W
  simp only [Builtin.copy_, run_underlying E.under, Builtin.lenOf, hs, hf, hn, hst, Sem.run_bind, Sem.run_pure, Result.andThen_ok, List.getElem?_toArray, List.getElem?_cons_zero, List.getElem?_cons_succ, Nat.add_zero]
  rfl
/-- append of so many zeros, where there is no room: a new block. -/
theorem run_zerosE {g i c m : Nat} {cs : List Value} {ti ty : TypeId} (hti : P.underlying ti = some (.int .i64)) (hl : cs.length = i * E.k) (hsrc : ∀ j u, cs[j]? = some u → W.cell? ((⟨g, 0, none⟩ : Addr).add j) = some u) (hm : 0 < m) (hroom : c < i + m) (hb : (i + m) * E.bytes ≤ 140737488355328) :
    ∃ cap z : _, ∃ Z : List Value, z = W.heap.size ∧ i + m ≤ cap ∧ cap ≤ maxLen ∧ Z.length = (cap - i) * E.k ∧ (Builtin.append_ #[E.sl, ti] ty #[.slice (some ⟨g, 0, none⟩) i c, .int .i64 (m : Int)]).run P W = .ok (.slice (some ⟨z, 0, none⟩) (i + m) cap) (W.drew.alloc (.cells (cs ++ Z).toArray E.t (0, 0))) := by
  obtain ⟨i0, hi, hz0, hz1, hz2⟩ := info_parts E.info
  have hbp := E.bpos
  have hkp := E.pos
  have hle : i + m ≤ 140737488355328 := Nat.le_trans (Nat.le_mul_of_pos_right _ hbp) hb
  have hge := grownCap_ge W (i + m) c E.t
  have hcm := grownCap_le_maxLen W (i + m) c E.t (by unfold maxLen; omega)
  have hw : IntKind.i64.wrap (m : Int) = m := by rw [IntKind.wrap_i64]; omega
  have hneg : ¬ ((m : Int) < 0) := by omega
  have hfit := growslice_fits (need := i + m) (old := c) (bytes := E.bytes) hroom hb
  have h48' : ¬ (281474976710656 < Builtin.nextslicecap (i + m) c * E.bytes) := by omega
  have hmb : m * E.bytes ≤ 140737488355328 := Nat.le_trans (Nat.mul_le_mul_right _ (by omega)) hb
  have h48i : ¬ (281474976710656 < (m : Int) * (E.bytes : Int)) := by
    rw [← Int.natCast_mul]
    omega
  have h63' : ¬ (9223372036854775807 < ((i : Int) + (m : Int))) := by omega
  have hn : ¬ (i + m ≤ c) := by omega
  have hns : ¬ (m * E.k = 0) := Nat.mul_ne_zero (by omega) (by omega)
  have hfo := run_firstCells_some (P := P) W.drew E.k i ⟨g, 0, none⟩ i c cs hl (by simpa using hsrc)
  refine ⟨grownCap W (i + m) c E.t, W.heap.size, (Builtin.zeroCells E.z.cells m ++ Builtin.zeroCells E.z.cells (grownCap W (i + m) c E.t - (i + m))).toList, rfl, hge, hcm, ?_, ?_⟩
  · simp only [Array.length_toList, Array.size_append, size_zeroCells, E.zs, ← Nat.add_mul]
    congr 1
    omega
  · simp [Builtin.append_, run_underlying E.under, run_underlying hti, sizeOf, typeInfo, zeroValue, hi, hz0, hz1, hz2, asInt, asIntOf, hw, hneg, h48i, hn, h63', h48', hns, Question.forced, hfo, newRow, grownCap]
    congr 2
    apply Array.ext'
    simp
theorem putL_len : ∀ (vs l : List Value) (off : Nat), (putL l off vs).length = l.length
  | [], _, _ => rfl
  | v :: r, l, off => by
    show (putL (l.set off v) (off + 1) r).length = _
    rw [putL_len r, List.length_set]
theorem Mem.ne_box {b b' : Nat} {o o' : Obj} (h : Mem (boxT b o :: boxT b' o' :: L) H0 w W) : b ≠ b' := by
  obtain ⟨H, ⟨H1, H2, h1, ⟨H3, H4, h3, h4, _, he'⟩, ha, _⟩, _⟩ := h
  rintro rfl
  exact ha b ((h1.2 b).2 rfl) ((he' b).2 (.inl ((h3.2 b).2 rfl)))
theorem rowAt_cells {b o n c : Nat} (h : RowAt E W (.slice (some ⟨b, o, none⟩) n c) xs) : ∀ j u, (E.cells xs)[j]? = some u → W.cell? ((⟨b, o, none⟩ : Addr).add j) = some u := fun j u hu => by
  rcases h with ⟨rfl, _⟩ | ⟨b, o, cap', he, hlt, hc⟩
  · simp [Elem.cells] at hu
  · simp only [Value.slice.injEq, Option.some.injEq, Addr.mk.injEq] at he
    obtain ⟨⟨rfl, rfl, _⟩, _, _⟩ := he
    rw [addr_off]
    obtain ⟨i, j', x, rfl, hx, hu'⟩ := E.cells_inv xs j u hu
    rw [← Nat.add_assoc]
    exact hc i x hx j' u hu'
theorem Mem.boxCells0 {g : Nat} {cur : List Value} {t : TypeId} (h : Mem L H0 w W) (k : Nat) (hk : L[k]? = some (boxT g (.cells cur.toArray t (0, 0)))) {n : Nat} (hct : cur.take n = E.cells xs) : ∀ j u, (E.cells xs)[j]? = some u → W.cell? ((⟨g, 0, none⟩ : Addr).add j) = some u := fun j u hu => by
  rw [addr_off, Nat.zero_add, h.cellL k hk]
  rw [← hct, List.getElem?_take] at hu
  split at hu
  · exact hu
  · cases hu
theorem Mem.boxCells {g i : Nat} {cur : List Value} {t : TypeId} (h : Mem L H0 w W) (k : Nat) (hk : L[k]? = some (boxT g (.cells cur.toArray t (0, 0)))) {n : Nat} (hct : cur.take n = E.cells xs) (hi : i ≤ xs.length) : ∀ j u, (E.cells (xs.drop i))[j]? = some u → W.cell? ((⟨g, 0 + i * E.k, none⟩ : Addr).add j) = some u := fun j u hu => by
  have h1 : E.cells xs = E.cells (xs.take i) ++ E.cells (xs.drop i) := by rw [← E.cells_append, List.take_append_drop]
  have h2 : (E.cells (xs.take i)).length = i * E.k := by rw [E.cells_len, List.length_take, Nat.min_eq_left hi]
  have h3 : (E.cells xs)[i * E.k + j]? = some u := by rw [h1, List.getElem?_append_right (by omega), h2, Nat.add_sub_cancel_left]; exact hu
  have h4 := h.boxCells0 k hk hct (i * E.k + j) u h3
  rw [addr_off] at h4 ⊢
  rw [Nat.add_assoc]
  exact h4
theorem Elem.cells_one1 (y : α) : (E.cells [y]).length = E.k := by rw [E.cells_len, List.length_singleton, Nat.one_mul]
theorem Elem.cells_at_take {l : List α} {i : Nat} (hi : i ≤ l.length) : (E.cells (l.take i)).length = i * E.k := by rw [E.cells_len, List.length_take, Nat.min_eq_left hi]
theorem take_take_cells {cur : List Value} {i : Nat} (hct : cur.take (xs.length * E.k) = E.cells xs) (hi : i ≤ xs.length) : cur.take (i * E.k) = E.cells (xs.take i) := by
  rw [← E.take_cells hi, ← hct, List.take_take, Nat.min_eq_left (Nat.mul_le_mul_right _ hi)]
section
variable {y : α} {i n c cap : Nat} {Z cur : List Value}
theorem fitA (hZ : Z.length = (cap - i) * E.k) (hc : i + 1 ≤ cap) (hi : i ≤ xs.length) : (0 + i * E.k) + (E.cells [y]).length ≤ (E.cells (xs.take i) ++ Z).length := by
  rw [E.cells_one1, List.length_append, E.cells_at_take hi, hZ]
  have h1 : 1 * E.k ≤ (cap - i) * E.k := Nat.mul_le_mul_right _ (by omega)
  omega
theorem fitB {o1 : Nat} (hZ : Z.length = (cap - i) * E.k) (hc : xs.length + 1 ≤ cap) (hi : i ≤ xs.length) : (0 + (i + 1) * E.k) + (E.cells (xs.drop i)).length ≤ (putL (E.cells (xs.take i) ++ Z) o1 (E.cells [y])).length := by
  rw [putL_len, List.length_append, E.cells_at_take hi, hZ, E.cells_len, List.length_drop, ← Nat.add_mul, Nat.zero_add, ← Nat.add_mul]
  exact Nat.mul_le_mul_right _ (by omega)
theorem fitC (hcl : cur.length = c * E.k) (hc : xs.length + 1 ≤ c) (hi : i ≤ xs.length) : (0 + (i + 1) * E.k) + (E.cells (xs.drop i)).length ≤ cur.length := by
  rw [hcl, E.cells_len, List.length_drop, Nat.zero_add, ← Nat.add_mul]
  exact Nat.mul_le_mul_right _ (by omega)
theorem fitD {o1 : Nat} {l : List Value} (hcl : cur.length = c * E.k) (hc : xs.length + 1 ≤ c) (hi : i ≤ xs.length) : (0 + i * E.k) + (E.cells [y]).length ≤ (putL cur o1 l).length := by
  rw [putL_len, hcl, E.cells_one1, Nat.zero_add]
  have h1 : (i + 1) * E.k ≤ c * E.k := Nat.mul_le_mul_right _ (by omega)
  rw [Nat.add_mul] at h1
  omega
theorem ins_cells (_hi : i ≤ xs.length) : E.cells (xs.take i ++ y :: xs.drop i) = E.cells (xs.take i) ++ (E.cells [y] ++ E.cells (xs.drop i)) := by rw [E.cells_append, show y :: xs.drop i = [y] ++ xs.drop i from rfl, E.cells_append]
theorem ins_len (hi : i ≤ xs.length) : (xs.take i ++ y :: xs.drop i).length = xs.length + 1 := by
  rw [List.length_append, List.length_cons, List.length_take, List.length_drop]
  omega
theorem ins_two (hZ : Z.length = (cap - i) * E.k) (hc : xs.length + 1 ≤ cap) (hi : i ≤ xs.length) : (putL (putL (E.cells (xs.take i) ++ Z) (0 + i * E.k) (E.cells [y])) (0 + (i + 1) * E.k) (E.cells (xs.drop i))).take ((xs.length + 1) * E.k) = E.cells (xs.take i ++ y :: xs.drop i) := by
  have h0 : 0 + (i + 1) * E.k = i * E.k + (E.cells [y]).length := by rw [E.cells_one1, Nat.zero_add, Nat.add_mul, Nat.one_mul]
  have h1 : (E.cells [y]).length + (E.cells (xs.drop i)).length ≤ Z.length := by
    rw [E.cells_one1, E.cells_len, List.length_drop, hZ]
    have : (1 + (xs.length - i)) * E.k ≤ (cap - i) * E.k := Nat.mul_le_mul_right _ (by omega)
    rw [Nat.add_mul] at this
    omega
  rw [h0, Nat.zero_add, putL_two (E.cells_at_take hi) h1, ← ins_len (y := y) hi, ← E.cells_len, ins_cells hi]
  have e : ∀ A B C D : List Value, A ++ (B ++ (C ++ D)) = (A ++ (B ++ C)) ++ D := fun A B C D => by simp
  rw [e, List.take_left]
theorem ins_shift (hcl : cur.length = c * E.k) (hct : cur.take (xs.length * E.k) = E.cells xs) (hc : xs.length + 1 ≤ c) (hi : i ≤ xs.length) : (putL (putL cur (0 + (i + 1) * E.k) (E.cells (xs.drop i))) (0 + i * E.k) (E.cells [y])).take ((xs.length + 1) * E.k) = E.cells (xs.take i ++ y :: xs.drop i) := by
  have h0 : 0 + (i + 1) * E.k = i * E.k + (E.cells [y]).length := by rw [E.cells_one1, Nat.zero_add, Nat.add_mul, Nat.one_mul]
  have h1 : E.cells xs = E.cells (xs.take i) ++ E.cells (xs.drop i) := by rw [← E.cells_append, List.take_append_drop]
  have h2 : cur = E.cells (xs.take i) ++ (E.cells (xs.drop i) ++ cur.drop (xs.length * E.k)) := by rw [← List.append_assoc, ← h1, ← hct, List.take_append_drop]
  have h3 : (E.cells [y]).length ≤ (cur.drop (xs.length * E.k)).length := by
    rw [E.cells_one1, List.length_drop, hcl]
    have : (xs.length + 1) * E.k ≤ c * E.k := Nat.mul_le_mul_right _ hc
    rw [Nat.add_mul] at this
    omega
  obtain ⟨R, hR⟩ : ∃ R, cur.drop (xs.length * E.k) = R := ⟨_, rfl⟩
  rw [hR] at h2 h3
  rw [h2, h0, Nat.zero_add, putL_shift (E.cells_at_take hi) h3, ← ins_len (y := y) hi, ← E.cells_len, ins_cells hi]
  have e : ∀ A B C D : List Value, A ++ (B ++ (C ++ D)) = (A ++ (B ++ C)) ++ D := fun A B C D => by simp
  rw [e, List.take_left]
theorem len_two {o1 o2 : Nat} {l1 l2 : List Value} (hcl : cur.length = c * E.k) : (putL (putL cur o1 l1) o2 l2).length = c * E.k := by rw [putL_len, putL_len, hcl]
theorem len_zero (hZ : Z.length = (cap - i) * E.k) (hc : xs.length + 1 ≤ cap) (hi : i ≤ xs.length) : (E.cells (xs.take i) ++ Z).length = cap * E.k := by
  rw [List.length_append, E.cells_at_take hi, hZ, ← Nat.add_mul]
  congr 1
  omega
end
/-- Two slices in two blocks do not overlap. -/
theorem run_overlaps2 {f : FuncId} {fn : Func} {o : Oper} {a : Act} {x y : Operand} {tR : TypeId} {ts : Array TypeId} {b1 o1 n1 c1 b2 o2 n2 c2 : Nat} {cs1 cs2 : List Value} {t1 t2 : TypeId} (hf : P.funcs[f]? = some fn) (hname : (fn.name == "runtime.NumGoroutine") = false) (hb : fn.body.isNone = true) (hnx : Extern.findNext fn = none) (he : Extern.find fn = some (Extern.SlicesOverlaps.overlaps #[E.sl, E.sl] #[tR]))
    (ho : o.op = .call { callee := .value (.func f), args := #[x, y], argTypes := ts }) (hx : a.eval x = .slice (some ⟨b1, o1, none⟩) n1 c1) (hy : a.eval y = .slice (some ⟨b2, o2, none⟩) n2 c2) (hne : b1 ≠ b2) (h1 : W.heap[b1]? = some (.cells cs1.toArray t1 (0, 0))) (h2 : W.heap[b2]? = some (.cells cs2.toArray t2 (0, 0))) (h0 : cs2.length ≠ 0) : (execOp a.eval o).run P W = .ok (.value (.bool false)) W := by
  have hs1 : W.shape? b1 = some (t1, cs1.length) := by simp [World.shape?, h1]
  have hs2 : W.shape? b2 = some (t2, cs2.length) := by simp [World.shape?, h2]
  have hr : (callFunc f #[.slice (some ⟨b1, o1, none⟩) n1 c1, .slice (some ⟨b2, o2, none⟩) n2 c2]).run P W = .ok (.value (.bool false)) W := by
    rw [run_callFunc_extern hf hname hb hnx he, Lib.run_overlaps_apart W E.sl tR E.t E.under E.k (fun w => E.size_run w) ⟨b1, o1, none⟩ ⟨b2, o2, none⟩ n1 c1 n2 c2 hne t1 t2 _ _ hs1 hs2 h0 (by simp [World.frozen?, h1]) (by simp [World.frozen?, h1])]
    rfl
  have hxy : a.eval (.func f) = .func (.func f) #[] #[] := rfl
  unfold execOp
  simp only [ho, resolve, hxy, Deferred.ofValue, invoke, Sem.run_bind, Sem.run_pure, Result.andThen_ok, List.map_toArray, List.map_cons, List.map_nil, hx, hy]
  simpa using hr
end
section
variable {P : Program} {ops : Array Oper} {S : Nat → Prop} {Q : Act → World → Prop} {a : Act} {W w : World} {H0 : Nat → Prop} {rest : List (Nat × Nat)} {i : Nat} {o : Oper} {L pre post rem : List At} {d : Option Tmp} {α : Type} {E : Elem P α}
theorem wpS_copy {x y : Operand} {g off dl dc sl sc n : Nat} {ad : Addr} {cur cs : List Value} {t : TypeId} {L2 : List At} (hi : ops[i]? = some o) (hw : Region.wanted o (yielded ops a.tmps) = true) (ho : o.op = .call { callee := .builtin .copy, args := #[x, y], argTypes := #[E.sl, E.sl] }) (hx : a.eval x = .slice (some ⟨g, off, none⟩) dl dc) (hy : a.eval y = .slice (some ad) sl sc) (hm : Mem L H0 w W) (k : Nat) (hk : L[k]? = some (boxT g (.cells cur.toArray t (0, 0)))) (hL2 : L.eraseIdx k = L2)
    (hn : Nat.min sl dl = n) (hl : cs.length = n * E.k) (hsrc : ∀ j u, cs[j]? = some u → W.cell? (ad.add j) = some u) (hfit : off + cs.length ≤ cur.length) (h1 : ∀ u ∈ cs, u.oneCell' = true) (hS : CovS L2 S) (hd : o.dst = d)
    (h : ∀ W', Mem (boxT g (.cells (putL cur off cs).toArray t (0, 0)) :: L2) H0 w W' → GK S W W' → wpS P ops S Q rest (a.put d (.int .i64 (n : Int))) W') : wpS P ops S Q ((i, 3) :: rest) a W := by
  subst hL2
  obtain ⟨h2, h3⟩ := hm.setBox k hk (.cells (putL cur off cs).toArray t (0, 0)) hS
  have hr := run_copyE (E := E) (ty := o.type) (dc := dc) (sc := sc) (hm.box k hk) hn hl hsrc hfit h1
  refine wpS_eff hi hw (R := fun u W' => u = .int .i64 (n : Int) ∧ W' = { W with heap := W.heap.setIfInBounds g (.cells (putL cur off cs).toArray t (0, 0)) }) ⟨_, _, ?_, rfl, rfl⟩ (fun v W' ⟨_, e⟩ => by subst e; exact h3) hd fun u W' ⟨hu, hW⟩ => ?_
  · unfold execOp
    simp only [ho, resolve, invoke, builtin, Sem.run_bind, Sem.run_pure, Result.andThen_ok, List.map_toArray, List.map_cons, List.map_nil, hx, hy, hr]
  · subst hu hW
    exact h _ h2 h3
theorem wpS_funcC1 {fn : Fn} {x1 : Operand} {v1 : Value} (hi : ops[i]? = some o) (hw : Region.wanted o (yielded ops a.tmps) = true) (ho : o.op = .makeFunc fn #[] #[x1]) (h1 : a.eval x1 = v1) (hd : o.dst = d) (h : wpS P ops S Q rest (a.put d (.func fn #[] #[v1])) W) : wpS P ops S Q ((i, 0) :: rest) a W := wpS_func hi hw ho (by simp [h1]) hd h
/-- A call of a function value of two arguments. -/
theorem wpS_doesV2 {f : Nat} {x x1 x2 : Operand} {ts : Array TypeId} {first cap : Array Value} {args : Array Value} {v v1 v2 : Value} {out : List At} (hi : ops[i]? = some o) (hw : Region.wanted o (yielded ops a.tmps) = true) (ho : o.op = .call { callee := .value x, args := #[x1, x2], argTypes := ts }) (hx : a.eval x = .func (.func f) first cap) (eg : ∀ args w, (callFunc f args).run P w = .ok (.enter f args) w)
    (hc : Does P f args pre v post) (h1 : a.eval x1 = v1) (h2 : a.eval x2 = v2) (hargs : first ++ #[v1, v2] ++ cap = args) (hm : Mem L H0 w W) (idx : List Nat) (hsel : selA L idx = (pre, rem)) (hS : CovS rem S) (hout : post ++ rem = out) (hd : o.dst = d) (h : ∀ W', Mem out H0 w W' → GK S W W' → wpS P ops S Q rest (a.put d v) W') : wpS P ops S Q ((i, 3) :: rest) a W :=
  wpS_enter hi hw (run_callV ho hx eg (by rw [← hargs]; simp [h1, h2])) (R := fun u W' => u = v ∧ Mem (post ++ rem) H0 w W' ∧ GK S W W') ((hc.mem hm idx hsel hS).mono fun e W' ⟨he, h⟩ => ⟨v, he, rfl, h⟩) (fun _ _ h => h.2.2) hd fun u W' ⟨hu, h1, h2⟩ => by subst hu; exact h W' (hout ▸ h1) h2
/-- What leaves the world as it is. -/
theorem wpS_still {v : Value} (hi : ops[i]? = some o) (hw : Region.wanted o (yielded ops a.tmps) = true) (hrun : (execOp a.eval o).run P W = .ok (.value v) W) (hd : o.dst = d) (h : wpS P ops S Q rest (a.put d v) W) : wpS P ops S Q ((i, 3) :: rest) a W :=
  wpS_eff hi hw (R := fun u W' => u = v ∧ W' = W) ⟨_, _, hrun, rfl, rfl⟩ (fun _ _ ⟨_, e⟩ => by subst e; exact GK.refl S _) hd fun u W' ⟨hu, hW⟩ => by subst hu hW; exact h
theorem wpS_zeros {x y : Operand} {g i0 c m : Nat} {cur cs : List Value} {ti : TypeId} (hti : P.underlying ti = some (.int .i64)) (hi : ops[i]? = some o) (hw : Region.wanted o (yielded ops a.tmps) = true) (ho : o.op = .call { callee := .builtin .append, args := #[x, y], argTypes := #[E.sl, ti] }) (hx : a.eval x = .slice (some ⟨g, 0, none⟩) i0 c) (hy : a.eval y = .int .i64 (m : Int)) (hm : Mem L H0 w W) (k : Nat) (hk : L[k]? = some (boxT g (.cells cur.toArray E.t (0, 0))))
    (hcs : cur.take (i0 * E.k) = cs) (hl : cs.length = i0 * E.k) (hm0 : 0 < m) (hroom : c < i0 + m) (hb : (i0 + m) * E.bytes ≤ 140737488355328) (hS : CovS L S) (hd : o.dst = d)
    (h : ∀ b cap (Z : List Value) W', i0 + m ≤ cap → cap ≤ maxLen → Z.length = (cap - i0) * E.k → Mem (boxT b (.cells (cs ++ Z).toArray E.t (0, 0)) :: L) H0 w W' → GK S W W' → wpS P ops S Q rest (a.put d (.slice (some ⟨b, 0, none⟩) (i0 + m) cap)) W') : wpS P ops S Q ((i, 3) :: rest) a W := by
  have hsrc : ∀ j u, cs[j]? = some u → W.cell? ((⟨g, 0, none⟩ : Addr).add j) = some u := fun j u hu => by
    rw [addr_off, Nat.zero_add, hm.cellL k hk j]
    rw [← hcs, List.getElem?_take] at hu
    split at hu
    · exact hu
    · cases hu
  obtain ⟨cap, z, Z, rfl, h1, h2, h3, hr⟩ := run_zerosE (E := E) (W := W) (ty := o.type) hti hl hsrc hm0 hroom hb
  have hbel : Below W.heap.size W (W.drew.alloc (.cells (cs ++ Z).toArray E.t (0, 0))) := ext_alloc (ext_drew (ext_refl W)) _
  refine wpS_eff hi hw (R := fun u W' => u = .slice (some ⟨W.heap.size, 0, none⟩) (i0 + m) cap ∧ W' = W.drew.alloc (.cells (cs ++ Z).toArray E.t (0, 0))) ⟨_, _, ?_, rfl, rfl⟩ (fun v W' ⟨_, e⟩ => by subst e; exact GK.of_below hbel (hS.lt hm)) hd fun u W' ⟨hu, hW⟩ => ?_
  · unfold execOp
    simp only [ho, resolve, invoke, builtin, Sem.run_bind, Sem.run_pure, Result.andThen_ok, List.map_toArray, List.map_cons, List.map_nil, hx, hy, hr]
  · subst hu hW
    exact h _ _ _ _ h1 h2 h3 (SEnd.box (stars_owns L) hm.drew _) (GK.of_below hbel (hS.lt hm))
end
end Go.Proofs.Ytnahhbpaijfpbaa
