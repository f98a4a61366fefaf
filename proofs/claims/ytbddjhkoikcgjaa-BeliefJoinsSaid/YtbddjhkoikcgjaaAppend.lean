/- A list of claims appended to one of the call's own, as a step of a walk and as a step of a region that draws its order; pieces of a list; a call as such a step. -/
import Derived.Test.YtbddjhkoikcgjaaLists
import Derived.Test.YtbddjhkoikcgjaaCopied
import Derived.Laws.OwnMore
import Derived.Laws.AppendOwnNone
import Derived.Deep.RegionLaw
namespace Go.Proofs.Ytbddjhkoikcgjaa
open Go Go.RowKit

def SliceOk (v : Value) (l : List Cl) : Prop := ∃ p cap, v = .slice p l.length cap ∧ l.length ≤ cap ∧ (p = none → cap = 0)
def SrcAt (W : World) (v : Value) (l : List Cl) : Prop := ListAt W v l ∧ SliceOk v l
theorem SrcAt.below {W W' : World} {v : Value} {l : List Cl} (h : SrcAt W v l) (hb : Below W.heap.size W W') : SrcAt W' v l := ⟨h.1.below hb, h.2⟩

theorem cells3_len (c : Cl) : (cells3 c).length = 3 := rfl
theorem cellsOf_len (l : List Cl) : (cellsOf l).length = l.length * 3 := by
  induction l with
  | nil => rfl
  | cons c l ih => rw [show cellsOf (c :: l) = cells3 c ++ cellsOf l from rfl, List.length_append, ih, cells3_len, List.length_cons]; omega
theorem cellsOf_append (l m : List Cl) : cellsOf (l ++ m) = cellsOf l ++ cellsOf m := by simp [cellsOf]
theorem cellsOf_one (l : List Cl) : ∀ u ∈ cellsOf l, u.oneCell' = true := by
  intro u hu
  simp only [cellsOf, List.mem_flatMap, cells3, List.mem_cons, List.not_mem_nil, or_false] at hu
  obtain ⟨c, _, rfl | rfl | rfl⟩ := hu <;> rfl
theorem cellsOf_inv (l : List Cl) (j : Nat) (u : Value) (h : (cellsOf l)[j]? = some u) : ∃ k c, l[k]? = some c ∧ ((j = k * 3 ∧ u = .int .i64 c.n) ∨ (j = k * 3 + 1 ∧ u = .int .i64 c.i) ∨ (j = k * 3 + 2 ∧ u = .int .i64 c.h)) := by
  have hj : j < l.length * 3 := by
    have := (List.getElem?_eq_some_iff.1 h).1
    rwa [cellsOf_len] at this
  have hk : j / 3 < l.length := by omega
  refine ⟨j / 3, l[j / 3], List.getElem?_eq_getElem hk, ?_⟩
  obtain ⟨h0, h1, h2⟩ := cellsOf_at l (j / 3) _ (List.getElem?_eq_getElem hk)
  rcases (by omega : j = j / 3 * 3 ∨ j = j / 3 * 3 + 1 ∨ j = j / 3 * 3 + 2) with e | e | e
  · rw [← e, h] at h0; exact .inl ⟨e, Option.some.inj h0⟩
  · rw [← e, h] at h1; exact .inr (.inl ⟨e, Option.some.inj h1⟩)
  · rw [← e, h] at h2; exact .inr (.inr ⟨e, Option.some.inj h2⟩)

/-- What a call has collected since the world w0. -/
def Made (w0 W : World) (v : Value) (xs : List Cl) : Prop := W.ownsRow w0.heap.size 23 3 v xs.length (cellsOf xs) ∧ Below w0.heap.size w0 W
theorem Made.list {w0 W : World} {v : Value} {xs : List Cl} (h : Made w0 W v xs) : ListAt W v xs := listAt_of_own h.1
theorem made_empty {w0 W : World} (hb : Below w0.heap.size w0 W) : Made w0 (W.alloc (.cells #[] 23)) (.slice (some ⟨W.heap.size, 0, none⟩) 0 0) [] :=
  ⟨World.ownsRow_made W #[] 0 hb.size (Nat.zero_le _) rfl, hb.alloc hb.size _⟩

theorem run_append_list {w0 W : World} {v v2 : Value} {xs l : List Cl} (ty : TypeId) (hm : Made w0 W v xs) (hs : SrcAt W v2 l) (hb : (xs.length + l.length) * 24 ≤ 140737488355328) :
    ∃ v' w', (Builtin.append_ #[28, 28] ty #[v, v2]).run Try.prog W = .ok v' w' ∧ Made w0 w' v' (xs ++ l) := by
  obtain ⟨i0, hi, hz0, hz1, hz2⟩ := info_parts infoClaim
  obtain ⟨hl, p, cap, rfl, hlc, hpc⟩ := hs
  cases p with
  | none =>
    obtain rfl := hpc rfl
    obtain rfl : l = [] := List.eq_nil_of_length_eq_zero (by omega)
    refine ⟨v, W, run_append_owned_none (P := Try.prog) (w := W) w0.heap.size 28 ty 23 i0 3 Try.underlying28 hi v xs.length (cellsOf xs) hm.1, ?_⟩
    rw [List.append_nil]
    exact hm
  | some a =>
    have hnews : ∀ j u, (cellsOf l)[j]? = some u → W.cell? (a.add j) = some u := by
      intro j u hu
      rcases hl with ⟨rfl, _⟩ | ⟨b, o, cap', he, hlt, hc⟩
      · simp [cellsOf] at hu
      · simp only [Value.slice.injEq, Option.some.injEq] at he
        obtain ⟨rfl, _, _⟩ := he
        rw [addr_plus']
        obtain ⟨k, c, hk, hh⟩ := cellsOf_inv l j u hu
        obtain ⟨h0, h1, h2⟩ := hc k c hk
        rcases hh with ⟨rfl, rfl⟩ | ⟨rfl, rfl⟩ | ⟨rfl, rfl⟩
        · exact h0
        · rw [← Nat.add_assoc]; exact h1
        · rw [← Nat.add_assoc]; exact h2
    obtain ⟨v', w', hr, h2, h3, _⟩ := run_append_own (P := Try.prog) W w0.heap.size 28 ty 23 i0 (.agg #[.int .i64 0, .int .i64 0, .int .i64 0]) 3 24 Try.underlying28 hi hz0 hz1 hz2 rfl (by decide) v xs.length (cellsOf xs) hm.1 a l.length cap (cellsOf l) (cellsOf_len l) hnews (cellsOf_one l) (by unfold maxLen; omega) hb hm.2.size
    refine ⟨v', w', hr, ?_, own_below hm.1 hm.2 h3 hm.2.size (Nat.le_refl _)⟩
    rw [List.length_append, cellsOf_append]
    exact h2

theorem wp_append_list {w0 W : World} {o : Oper} {a : Act} {K : Act → World → Prop} {Q : Exit → Act → World → Prop} (s x : Operand)
    (ho : o.op = .call { callee := .builtin .append, args := #[s, x], argTypes := #[28, 28] }) {v v2 : Value} {xs l : List Cl} (hsv : a.eval s = v) (hxv : a.eval x = v2)
    (hm : Made w0 W v xs) (hs : SrcAt W v2 l) (hb : (xs.length + l.length) * 24 ≤ 140737488355328) (h : ∀ v' w', Made w0 w' v' (xs ++ l) → K (a.put o.dst v') w') : o.wp Try.prog a W K Q := by
  obtain ⟨v', w', hr, h2⟩ := run_append_list o.type hm hs hb
  unfold Oper.wp execOp
  simp only [ho, resolve, invoke, builtin, Sem.run_bind, Sem.run_pure, Result.andThen_ok, List.map_toArray, List.map_cons, List.map_nil, hsv, hxv, hr]
  exact h v' w' h2
theorem wpList_append_list {w0 W : World} {ops : Array Oper} {rest : List Oper} {o : Oper} {a : Act} {Q : Exit → Act → World → Prop} (hgd : o.guard = none) (s x : Operand)
    (ho : o.op = .call { callee := .builtin .append, args := #[s, x], argTypes := #[28, 28] }) {v v2 : Value} {xs l : List Cl} (hsv : a.eval s = v) (hxv : a.eval x = v2)
    (hm : Made w0 W v xs) (hs : SrcAt W v2 l) (hb : (xs.length + l.length) * 24 ≤ 140737488355328) (h : ∀ v' w', Made w0 w' v' (xs ++ l) → wpList Try.prog ops Q rest (a.put o.dst v') w') : wpList Try.prog ops Q (o :: rest) a W :=
  wpList_plain hgd fun _ hK => wp_append_list s x ho hsv hxv hm hs hb fun v' w' h2 => hK _ _ (h v' w' h2)
theorem step_append_list {w0 W : World} {ops : Array Oper} {o : Oper} {a : Act} {K : Act → World → Prop} {Q : Exit → Act → World → Prop} {E : Prop} (hgd : o.guard = none) (s x : Operand)
    (ho : o.op = .call { callee := .builtin .append, args := #[s, x], argTypes := #[28, 28] }) {v v2 : Value} {xs l : List Cl} (hsv : a.eval s = v) (hxv : a.eval x = v2)
    (hm : Made w0 W v xs) (hs : SrcAt W v2 l) (hb : (xs.length + l.length) * 24 ≤ 140737488355328) (h : ∀ v' w', Made w0 w' v' (xs ++ l) → K (a.put o.dst v') w') : if Region.wanted o (yielded ops a.tmps) = true then Oper.wp Try.prog o a W K Q else E := by
  have hw : Region.wanted o (yielded ops a.tmps) = true := by simp [Region.wanted, hgd]
  rw [if_pos hw]
  exact wp_append_list s x ho hsv hxv hm hs hb h

/-- A call of a function by its name, as a step of a region that draws. -/
theorem step_call {P : Program} {W : World} {ops : Array Oper} {o : Oper} {a : Act} {K : Act → World → Prop} {Q : Exit → Act → World → Prop} {E : Prop} (hgd : o.guard = none) (f : Nat) (xs : Array Operand) (ts : Array TypeId)
    (ho : o.op = .call { callee := .value (.func f), args := xs, argTypes := ts }) (eg : ∀ args w, (callFunc f args).run P w = .ok (.enter f args) w) {args : Array Value} (hargs : xs.map a.eval = args)
    {R : Value → World → Prop} (hc : Calls P f args W fun e w' => ∃ v, e = .returned v ∧ R v w') (h : ∀ v w', R v w' → K (a.put o.dst v) w') : if Region.wanted o (yielded ops a.tmps) = true then Oper.wp P o a W K Q else E := by
  have hw : Region.wanted o (yielded ops a.tmps) = true := by simp [Region.wanted, hgd]
  rw [if_pos hw]
  unfold Oper.wp
  simp [execOp, ho, resolve, invoke, Act.eval, Deferred.ofValue, eg, Result.andThen, hargs, go_sem]
  exact hc.mono fun e w' ⟨v, he, hr⟩ => by subst he; exact h v w' hr

theorem step_call1 {P : Program} {W : World} {ops : Array Oper} {o : Oper} {a : Act} {K : Act → World → Prop} {Q : Exit → Act → World → Prop} {E : Prop} (hgd : o.guard = none) (f : Nat) (x : Operand) (ts : Array TypeId)
    (ho : o.op = .call { callee := .value (.func f), args := #[x], argTypes := ts }) (eg : ∀ args w, (callFunc f args).run P w = .ok (.enter f args) w) {v0 : Value} (hx : a.eval x = v0)
    {R : Value → World → Prop} (hc : Calls P f #[v0] W fun e w' => ∃ v, e = .returned v ∧ R v w') (h : ∀ v w', R v w' → K (a.put o.dst v) w') : if Region.wanted o (yielded ops a.tmps) = true then Oper.wp P o a W K Q else E :=
  step_call hgd f #[x] ts ho eg (by simp [hx]) hc h

/-- Pieces of a list. -/
theorem srcAt_drop {W : World} {p : Option Addr} {l : List Cl} {cap k : Nat} (h : SrcAt W (.slice p l.length cap) l) (hk : k ≤ l.length) :
    SrcAt W (.slice (if cap = k then p else p.map fun a => a.add (k * 3)) (l.length - k) (cap - k)) (l.drop k) := by
  obtain ⟨hl, p', cap', he, hlc, hpc⟩ := h
  simp only [Value.slice.injEq] at he
  obtain ⟨rfl, _, rfl⟩ := he
  refine ⟨?_, _, _, by rw [List.length_drop], by rw [List.length_drop]; omega, ?_⟩
  · rcases hl with ⟨rfl, _⟩ | ⟨b, o, cap', he, hlt, hc⟩
    · exact .inl ⟨by simp, _, _, by rw [show ([] : List Cl).length - k = 0 by simp]⟩
    · simp only [Value.slice.injEq] at he
      obtain ⟨rfl, _, rfl⟩ := he
      by_cases h0 : cap = k
      · rw [if_pos h0]
        have : l.drop k = [] := List.drop_eq_nil_of_le (by omega)
        exact .inl ⟨this, _, _, by rw [show l.length - k = 0 by omega]⟩
      · rw [if_neg h0]
        refine .inr ⟨b, o + k * 3, cap - k, by simp [addr_plus'], hlt, fun j c hj => ?_⟩
        rw [List.getElem?_drop] at hj
        obtain ⟨h0, h1, h2⟩ := hc _ c hj
        rw [Nat.add_mul] at h0 h1 h2
        simp only [← Nat.add_assoc] at h0 h1 h2
        exact ⟨h0, h1, h2⟩
  · intro hn
    split at hn
    · have := hpc hn; omega
    · cases p with
      | none => have := hpc rfl; omega
      | some a => simp at hn
theorem srcAt_take {W : World} {p : Option Addr} {l : List Cl} {cap k : Nat} (h : SrcAt W (.slice p l.length cap) l) (hk : k ≤ l.length) : SrcAt W (.slice p k cap) (l.take k) := by
  obtain ⟨hl, p', cap', he, hlc, hpc⟩ := h
  simp only [Value.slice.injEq] at he
  obtain ⟨rfl, _, rfl⟩ := he
  have e : (l.take k).length = k := by simp; omega
  refine ⟨?_, _, _, by rw [e], by omega, hpc⟩
  rcases hl with ⟨rfl, _⟩ | ⟨b, o, cap', he, hlt, hc⟩
  · obtain rfl : k = 0 := by simpa using hk
    exact .inl ⟨by simp, _, _, rfl⟩
  · simp only [Value.slice.injEq] at he
    obtain ⟨rfl, _, rfl⟩ := he
    refine .inr ⟨b, o, cap, by rw [e], hlt, fun j c hj => ?_⟩
    rw [List.getElem?_take] at hj
    split at hj
    · exact hc _ c hj
    · cases hj
end Go.Proofs.Ytbddjhkoikcgjaa
