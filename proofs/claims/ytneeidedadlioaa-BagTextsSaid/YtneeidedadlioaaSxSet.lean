/- Sets of texts: a map from texts to nothing, made by the call itself: asked, stored into. -/
import Derived.Test.YtneeidedadlioaaSxIns
namespace Go.Proofs.Ytneeidedadlioaa
open Go Go.RowKit

/-- The entries of a set into which these texts were stored, each once. -/
def entS (l : List ByteArray) : List MapEntry := l.zipIdx.map fun x => { key := .string x.1, val := .agg #[], born := x.2 }
theorem entS_snoc (l : List ByteArray) (t : ByteArray) : entS (l ++ [t]) = entS l ++ [{ key := .string t, val := .agg #[], born := l.length }] := by
  unfold entS
  rw [List.zipIdx_append, List.map_append]
  simp
def hasS (l : List ByteArray) (t : ByteArray) : Bool := l.any fun s => decide (s = t)
def setT (b : Nat) (l : List ByteArray) : At := boxT b (.map (entS l).toArray l.length)
section
variable {P : Program} {W w : World}
theorem findNow_ents : ∀ (es : List MapEntry) (n : Nat) (t : ByteArray), (∀ e ∈ es, ∃ s, e.key = .string s ∧ e.val = .agg #[]) → ((∃ i, Instr.findNow .string (.string t) es n = some (some (i, .agg #[]))) ∧ (∃ e ∈ es, e.key = .string t)) ∨ (Instr.findNow .string (.string t) es n = some none ∧ ∀ e ∈ es, e.key ≠ .string t)
  | [], n, t, _ => .inr ⟨rfl, fun _ h => by cases h⟩
  | e :: es, n, t, h => by
    obtain ⟨s, hs, hv⟩ := h e List.mem_cons_self
    unfold Instr.findNow
    rw [hs]
    by_cases hst : t = s
    · have h1 : Instr.sameNow .string (.string t) (.string s) = some true := by
        subst hst
        show some (t == t) = _
        rw [beq_toListBytes]
        simp
      rw [h1]
      refine .inl ⟨⟨n, by rw [← hv]⟩, e, List.mem_cons_self, by rw [hs, hst]⟩
    · have h1 : Instr.sameNow .string (.string t) (.string s) = some false := by
        show some (t == s) = _
        rw [beq_toListBytes]
        congr 1
        rw [beq_eq_false_iff_ne]
        intro e
        rw [ByteArray.toList_eq, ByteArray.toList_eq] at e
        exact hst (ByteArray.ext (Array.toList_inj.1 e))
      rw [h1]
      dsimp only
      rcases findNow_ents es (n + 1) t fun e he => h e (List.mem_cons_of_mem _ he) with ⟨k1, e', k2, k3⟩ | ⟨k1, k2⟩
      · exact .inl ⟨k1, e', List.mem_cons_of_mem _ k2, k3⟩
      · refine .inr ⟨k1, fun e' he' => ?_⟩
        rcases List.mem_cons.1 he' with rfl | he'
        · rw [hs]
          intro e2
          exact hst (Value.string.inj e2).symm
        · exact k2 e' he'
theorem entS_keys (l : List ByteArray) : ∀ e ∈ entS l, ∃ s, e.key = .string s ∧ e.val = .agg #[] := fun e he => by
  unfold entS at he
  obtain ⟨x, _, rfl⟩ := List.mem_map.1 he
  exact ⟨x.1, rfl, rfl⟩
theorem entS_mem (l : List ByteArray) (t : ByteArray) : (∃ e ∈ entS l, e.key = .string t) ↔ hasS l t = true := by
  unfold entS hasS
  rw [List.any_eq_true]
  constructor
  · rintro ⟨e, he, hk⟩
    obtain ⟨x, hx, rfl⟩ := List.mem_map.1 he
    exact ⟨x.1, List.fst_mem_of_mem_zipIdx hx, decide_eq_true (Value.string.inj hk)⟩
  · rintro ⟨s, hs, hd⟩
    obtain ⟨i, hi⟩ := List.getElem?_of_mem hs
    refine ⟨{ key := .string s, val := .agg #[], born := i }, List.mem_map.2 ⟨(s, i), List.mk_mem_zipIdx_iff_getElem?.2 hi, rfl⟩, ?_⟩
    rw [of_decide_eq_true hd]
theorem findNow_set (l : List ByteArray) (t : ByteArray) : (hasS l t = true ∧ ∃ i, Instr.findNow .string (.string t) (entS l) 0 = some (some (i, .agg #[]))) ∨ (hasS l t = false ∧ Instr.findNow .string (.string t) (entS l) 0 = some none) := by
  rcases findNow_ents (entS l) 0 t (entS_keys l) with ⟨h1, h2⟩ | ⟨h1, h2⟩
  · exact .inl ⟨(entS_mem l t).1 h2, h1⟩
  · refine .inr ⟨?_, h1⟩
    rw [← Bool.not_eq_true, ← entS_mem]
    rintro ⟨e, he, hk⟩
    exact h2 e he hk
theorem run_key (b : Bool) {k : TypeId} (hk : P.underlying k = some .string) (t : ByteArray) (W : World) : (Instr.checkKey b 10000 k (.string t)).run P W = .ok () W := by
  unfold Instr.checkKey
  simp only [Sem.run_bind, run_underlying hk, Result.andThen_ok, Sem.run_pure]
theorem run_lookS {o : Oper} {a : Act} {x y : Operand} {b : Nat} {l : List ByteArray} {t : ByteArray} {mt k e : TypeId} (hmt : P.underlying mt = some (.map k e)) (hk : P.underlying k = some .string) (he : (P.info? e).map (·.zero) = some (some (.agg #[]))) (hb : W.heap[b]? = some (.map (entS l).toArray l.length))
    (ho : o.op = .lookup mt x y true) (hx : a.eval x = .map (some b)) (hy : a.eval y = .string t) : (execOp a.eval o).run P W = .ok (.value (.tuple #[.agg #[], .bool (hasS l t)])) W := by
  obtain ⟨i0, h1, h2⟩ := Option.map_eq_some_iff.1 he
  have hz : (zeroValue e).run P W = .ok (.agg #[]) W := by simp [zeroValue, typeInfo, h1, h2, go_sem]
  have hg : (getObj b).run P W = .ok (.map (entS l).toArray l.length) W := by simp [getObj, Sem.run, hb]
  unfold execOp
  simp only [ho, hx, hy, Sem.run_bind]
  unfold Instr.lookup
  simp only [Sem.run_bind, run_underlying hmt, Result.andThen_ok, hg, Sem.run_pure, run_key _ hk]
  unfold Instr.findKey
  simp only [Sem.run_bind, run_underlying hk, Result.andThen_ok]
  rcases findNow_set l t with ⟨h3, i, h4⟩ | ⟨h3, h4⟩
  · rw [h4, h3]
    simp only [Sem.run_pure, Result.andThen_ok]
    rfl
  · rw [h4, h3]
    simp only [Sem.run_bind, Sem.run_pure, Result.andThen_ok, hz]
    rfl
end
section
variable {P : Program} {ops : Array Oper} {S : Nat → Prop} {Q : Act → World → Prop} {a : Act} {W w : World} {H0 : Nat → Prop} {rest : List (Nat × Nat)} {i : Nat} {o : Oper} {L : List At} {d : Option Tmp}
theorem wpS_mkSet {mt : TypeId} {dd : Tmp} (hi : ops[i]? = some o) (hw : Region.wanted o (yielded ops a.tmps) = true) (ho : o.op = .makeMap mt none) (hm : Mem L H0 w W) (hS : CovS L S) (hd : o.dst = some dd)
    (h : ∀ b W', Mem (setT b [] :: L) H0 w W' → GK S W W' → wpS P ops S Q rest (a.put (some dd) (.map (some b))) W') : wpS P ops S Q ((i, 3) :: rest) a W := by
  refine wpS_eff hi hw (R := fun u W' => u = .map (some W.heap.size) ∧ W' = W.alloc (.map #[] 0)) ⟨_, _, ?_, rfl, rfl⟩ (fun v W' ⟨_, e⟩ => by subst e; exact GK.of_below (ext_alloc (ext_refl W) _) (hS.lt hm)) hd fun u W' ⟨hu, hW⟩ => ?_
  · unfold execOp
    simp only [ho, Option.map_none]
    simp [Instr.makeMap, newObj, Sem.run, go_sem]
    try rfl
  · subst hu hW
    exact h _ _ (SEnd.box (stars_owns L) hm _) (GK.of_below (ext_alloc (ext_refl W) _) (hS.lt hm))
theorem wpS_putSet {mt k e : TypeId} {x y z : Operand} {b : Nat} {l : List ByteArray} {t : ByteArray} {L2 : List At} (hmt : P.underlying mt = some (.map k e)) (hk : P.underlying k = some .string) (hi : ops[i]? = some o) (hw : Region.wanted o (yielded ops a.tmps) = true) (ho : o.op = .mapUpdate mt x y z) (hx : a.eval x = .map (some b)) (hy : a.eval y = .string t) (hz : a.eval z = .agg #[]) (hn : hasS l t = false)
    (hm : Mem L H0 w W) (q : Nat) (hq : L[q]? = some (setT b l)) (hL2 : L.eraseIdx q = L2) (hS : CovS L2 S) (hd : o.dst = none) (h : ∀ W', Mem (setT b (l ++ [t]) :: L2) H0 w W' → GK S W W' → wpS P ops S Q rest a W') : wpS P ops S Q ((i, 3) :: rest) a W := by
  subst hL2
  have hb := hm.box q hq
  obtain ⟨h1, h2⟩ := hm.setBox q hq (.map (entS (l ++ [t])).toArray (l ++ [t]).length) hS
  refine wpS_unit hi hw ?_ h2 hd (h _ h1 h2)
  have hg : (getObj b).run P W = .ok (.map (entS l).toArray l.length) W := by simp [getObj, Sem.run, hb]
  have hf : Instr.findNow .string (.string t) (entS l) 0 = some none := by
    rcases findNow_set l t with ⟨h3, _⟩ | ⟨_, h4⟩
    · rw [hn] at h3; cases h3
    · exact h4
  unfold execOp
  simp only [ho, hx, hy, hz, Sem.run_bind]
  unfold Instr.mapUpdate
  simp only [Sem.run_bind, run_underlying hmt, Result.andThen_ok, hg, run_key _ hk]
  unfold Instr.findKey
  simp only [Sem.run_bind, run_underlying hk, Result.andThen_ok, hf, Sem.run_pure]
  have e1 : (entS l).toArray.push { key := .string t, val := .agg #[], born := l.length } = (entS (l ++ [t])).toArray := by rw [entS_snoc]; simp
  rw [e1, show l.length + 1 = (l ++ [t]).length by simp]
  have hs : ∀ o' : Obj, (setObj b o').run P W = .ok () { W with heap := W.heap.setIfInBounds b o' } := fun o' => by simp [setObj, Sem.run, hb]
  rw [hs]
  rfl
end
end Go.Proofs.Ytneeidedadlioaa
