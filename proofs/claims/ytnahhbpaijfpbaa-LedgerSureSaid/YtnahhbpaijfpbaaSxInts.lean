/- Rows of ints that the call itself makes by make, and sets: their blocks. -/
import Derived.Test.YtnahhbpaijfpbaaProg
import Derived.Test.YtnahhbpaijfpbaaSxRow
import Derived.Laws.OwnMore
namespace Go.Proofs.Ytnahhbpaijfpbaa
open Go Go.RowKit

def elemI : Elem Try.prog Int where
  enc x := [.int .i64 x]
  k := 1
  pos := by decide
  len _ := rfl
  one _ u hu := by
    simp only [List.mem_singleton] at hu
    subst hu
    rfl
  t := 3
  sl := 34
  under := Try.underlying34
  z := .int .i64 0
  bytes := 8
  bpos := by decide
  info := by kernel_rfl
  zs := by kernel_rfl
def iV (x : Int) : Value := .int .i64 x
/-- A block of ints. -/
abbrev intsT (b : Nat) (l : List Int) : At := boxT b (.cells (l.map iV).toArray 3 (0, 0))
theorem elemI_cells : ∀ l : List Int, elemI.cells l = l.map iV
  | [] => rfl
  | x :: l => by rw [Elem.cells_cons, elemI_cells l]; rfl
section
variable {W W' w : World} {H0 : Nat → Prop} {L : List At} {S : Nat → Prop} {ops : Array Oper} {Q : Act → World → Prop} {rest : List (Nat × Nat)} {a : Act} {i : Nat} {o : Oper} {d : Option Tmp}
theorem ints_row {b n : Nat} {l : List Int} (hn : l.length = n) (hl : n ≤ 1000000) (h : Mem (intsT b l :: L) H0 w W) : Mem (rowT elemI (.slice (some ⟨b, 0, none⟩) n n) l :: L) H0 w W :=
  Mem.rowN (by rw [elemI_cells]) hn (by unfold maxLen; omega) h
theorem ints_reads {b n c : Nat} {l : List Int} (hn : l.length = n) : ∀ W H, (intsT b l).p W H → RowAt elemI W (.slice (some ⟨b, 0, none⟩) n c) l := fun W H h => .inr ⟨b, 0, c, by rw [hn], (Array.getElem?_eq_some_iff.1 h.1).1, fun k x hk j u hu => by
  have hj : j = 0 := by
    rcases Nat.eq_zero_or_pos j with h0 | h0
    · exact h0
    · rw [List.getElem?_eq_none (by show ([Value.int .i64 x] : List Value).length ≤ j; simp; omega)] at hu; simp at hu
  subst hj
  have hu' : Value.int .i64 x = u := by simpa [elemI] using hu
  subst hu'
  have h1 : W.heap[b]? = some (.cells (l.map iV).toArray 3 (0, 0)) := h.1
  have e : (0 + k * elemI.k + 0) = k := by show 0 + k * 1 + 0 = k; omega
  rw [e]
  simp [World.cell?, h1, iV, hk]⟩
theorem below_of_grown {W W' : World} (h : W.grownBy W' none) : Below W.heap.size W W' := ⟨h.os, h.tape, h.output, h.size, fun k hk => h.block k hk (by simp)⟩
theorem wpS_makeI {n : Nat} {x y : Operand} {dd : Tmp} (hi : ops[i]? = some o) (hw : Region.wanted o (yielded ops a.tmps) = true) (ho : o.op = .makeSlice 34 x y) (hx : a.eval x = .int .i64 (n : Int)) (hy : a.eval y = .int .i64 (n : Int)) (hn : n ≤ 1000000) (hm : Mem L H0 w W) (hS : CovS L S) (hd : o.dst = some dd)
    (h : ∀ b W', Mem (intsT b (List.replicate n 0) :: L) H0 w W' → GK S W W' → wpS Try.prog ops S Q rest (a.put (some dd) (.slice (some ⟨b, 0, none⟩) n n)) W') : wpS Try.prog ops S Q ((i, 3) :: rest) a W := by
  obtain ⟨ti, hti, hz0, hz1, hz2⟩ := info_parts elemI.info
  obtain ⟨w', hr, hown, hg⟩ := run_makeSlice_full (P := Try.prog) W 0 34 3 ti (.int .i64 0) 1 Try.underlying34 hti hz0 hz1 .i64 .i64 n (by omega) (by rw [hz2]; show 8 * n ≤ _; omega) (by unfold maxLen; omega) (Nat.zero_le _)
  have hb := below_of_grown hg
  have hcell : w'.heap[W.heap.size]? = some (.cells ((List.replicate n (0 : Int)).map iV).toArray 3 (0, 0)) := by
    rcases hown.2 with ⟨h1, _⟩ | ⟨g, cap, cur, hv, _, hh, _, _, hsz, ht⟩
    · simp at h1
    · simp only [Value.slice.injEq, Option.some.injEq, Addr.mk.injEq] at hv
      obtain ⟨⟨rfl, _, _⟩, _, rfl⟩ := hv
      rw [hh]
      have e : cur.toList = (List.replicate n (0 : Int)).map iV := by
        rw [List.take_of_length_le (by rw [Array.length_toList, hsz]; omega)] at ht
        rw [ht]
        rw [Nat.mul_one]
        unfold madeCells
        apply List.ext_getElem?
        intro j
        simp only [Array.toList_map, Array.toList_range, List.getElem?_map, List.map_replicate, List.getElem?_replicate]
        by_cases hj : j < n
        · simp [hj, iV, Value.cells, Nat.mod_one]
        · simp [hj]
      have e2 : cur = ((List.replicate n (0 : Int)).map iV).toArray := by rw [← e]
      rw [e2]
  refine wpS_eff hi hw (R := fun u W' => u = .slice (some ⟨W.heap.size, 0, none⟩) n n ∧ W' = w') ⟨_, _, ?_, rfl, rfl⟩ (fun v W' ⟨_, e⟩ => by subst e; exact GK.of_below hb (hS.lt hm)) hd fun u W' ⟨hu, hW⟩ => ?_
  · unfold execOp
    simp only [ho, hx, hy, Sem.run_bind, Sem.run_pure, Result.andThen_ok, hr]
  · subst hu hW
    exact h _ _ (SEnd.boxed (stars_owns L) hm hb (Nat.le_refl _) hcell) (GK.of_below hb (hS.lt hm))
/-- The address of an element of a row of one's own. -/
theorem wpS_addrI {x ix : Operand} {b n cap j : Nat} (hi : ops[i]? = some o) (hw : Region.wanted o (yielded ops a.tmps) = true) (ho : o.op = .indexAddr 34 x ix) (hx : a.eval x = .slice (some ⟨b, 0, none⟩) n cap) (hix : a.eval ix = .int .i64 (j : Int)) (hj : j < n) (hd : o.dst = d)
    (h : wpS Try.prog ops S Q rest (a.put d (.pointer (some ⟨b, j, none⟩))) W) : wpS Try.prog ops S Q ((i, 1) :: rest) a W := by
  refine wpS_read hi hw ?_ hd h
  obtain ⟨i0, hin, hz0, hz1, hz2⟩ := info_parts elemI.info
  have hu : (underlying 34).run Try.prog W = .ok (.slice 3) W := by simp [underlying, Try.underlying34, go_sem]
  have hs : (sizeOf 3).run Try.prog W = .ok 1 W := by
    have e1 : (Try.prog.info? 3) = some i0 := hin
    have e2 : i0.size = 1 := hz1
    simp [sizeOf, typeInfo, e1, e2, go_sem]
  have hlt : ¬ ((j : Int) < 0 ∨ (n : Int) ≤ (j : Int)) := by omega
  unfold execOp
  simp only [ho, hx, hix, Instr.indexAt, asIntOf, Sem.run_bind, Sem.run_pure, Result.andThen_ok, hu]
  simp [hs, hj, addr_off, go_sem]
/-- An element is set. -/
theorem wpS_setI {x y : Operand} {b j : Nat} {z : Int} {l : List Int} {L2 : List At} (hi : ops[i]? = some o) (hw : Region.wanted o (yielded ops a.tmps) = true) (ho : o.op = .store 3 x y) (hx : a.eval x = .pointer (some ⟨b, j, none⟩)) (hy : a.eval y = .int .i64 z)
    (hm : Mem L H0 w W) (k : Nat) (hk : L[k]? = some (intsT b l)) (hL2 : L.eraseIdx k = L2) (hj : j < l.length) (hS : CovS L2 S) (hd : o.dst = none) (h : ∀ W', Mem (intsT b (l.set j z) :: L2) H0 w W' → GK S W W' → wpS Try.prog ops S Q rest a W') : wpS Try.prog ops S Q ((i, 3) :: rest) a W := by
  subst hL2
  refine wpS_store (v := .int .i64 z) (vs := [.int .i64 z]) (cs := l.map iV) (cs' := (l.set j z).map iV) hi hw ho hx hy rfl (by kernel_rfl) rfl hm k hk (by simp; omega) ?_ hS hd h
  rw [List.map_set]
  rfl
end
end Go.Proofs.Ytnahhbpaijfpbaa
