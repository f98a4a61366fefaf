/- Slices of ints: read, made by the call itself, appended to, exchanged. -/
import Derived.Test.YtnkchmafofpimaaProg
import Derived.Test.YtnkchmafofpimaaAppendAt
import Derived.Laws.AppendOwn
import Derived.Laws.AppendOwnNone
import Derived.Laws.OwnMore
import Derived.OwnWalk
import Derived.OneCell
import Derived.LoopTactic
import Derived.BigQuiet
import Derived.BigRegion
import Derived.RegionTactic
import Derived.Deep.Cut
import Derived.Deep.RegionLaw
import Derived.Outline
import Derived.RangeFuncBox
namespace Go.Proofs.Ytnkchmafofpimaa
open Go Go.RowKit

theorem addr_at (g i : Nat) : (⟨g, 0, none⟩ : Addr).add i = ⟨g, i, none⟩ := by unfold Addr.add; split <;> simp_all
theorem addr_plus' (b o i : Nat) : (⟨b, o, none⟩ : Addr).add i = ⟨b, o + i, none⟩ := by unfold Addr.add; split <;> simp_all
def lenOf : Value → Nat
  | .slice _ n _ => n
  | _ => 0
theorem ownsRow_form {W : World} {base : Nat} {e : TypeId} {size : Nat} {v : Value} {k : Nat} {xs : List Value} (h : W.ownsRow base e size v k xs) : ∃ p cap, v = .slice p k cap := by
  rcases h.2 with ⟨rfl, rfl⟩ | ⟨g, cap, _, rfl, _⟩
  · exact ⟨_, _, rfl⟩
  · exact ⟨_, _, rfl⟩
theorem own_below {W W' w : World} {base : Nat} {e : TypeId} {size : Nat} {v : Value} {k : Nat} {xs : List Value} {B : Nat} (hr : W.ownsRow base e size v k xs) (hB : Below B w W) (hg : W.grownBy W' v.ownBlock) (h1 : B ≤ W.heap.size) (h2 : B ≤ base) : Below B w W' :=
  hB.grown hg h1 (fun j e => Nat.le_trans h2 (hr.lt j e).1)
theorem row_keeps {W W' : World} {b : Nat} {e : TypeId} {size : Nat} {v : Value} {k : Nat} {xs : List Value} (h : W.ownsRow b e size v k xs) (hk : ∀ g, v.ownBlock = some g → W'.heap[g]? = W.heap[g]?) : W'.ownsRow b e size v k xs := by
  refine ⟨h.1, ?_⟩
  rcases h.2 with h1 | ⟨g, cap, cur, rfl, hb, hg, rest⟩
  · exact .inl h1
  · exact .inr ⟨g, cap, cur, rfl, hb, (hk g rfl).trans hg, rest⟩
theorem row_lt {W : World} {b : Nat} {e : TypeId} {size : Nat} {v : Value} {k : Nat} {xs : List Value} (h : W.ownsRow b e size v k xs) : ∀ g, v.ownBlock = some g → g < W.heap.size := fun g hg => (h.lt g hg).2
theorem ownsRow_weaken {W : World} {b b' : Nat} {e : TypeId} {size : Nat} {v : Value} {k : Nat} {xs : List Value} (h : W.ownsRow b e size v k xs) (hb : b' ≤ b) : W.ownsRow b' e size v k xs := by
  refine ⟨h.1, ?_⟩
  rcases h.2 with h2 | ⟨g, cap, cur, hv, hg, rest⟩
  · exact .inl h2
  · exact .inr ⟨g, cap, cur, hv, Nat.le_trans hb hg, rest⟩

theorem infoInt : (Try.prog.info? 3).map (fun i => (i.zero, i.size, i.bytes)) = some (some (.int .i64 0), 1, 8) := by kernel_rfl
def cellsI (l : List Int) : List Value := l.map (Value.int .i64)
theorem cellsI_len (l : List Int) : (cellsI l).length = l.length := by simp [cellsI]
theorem cellsI_len1 (l : List Int) : (cellsI l).length = l.length * 1 := by simp [cellsI]
theorem cellsI_append (l m : List Int) : cellsI (l ++ m) = cellsI l ++ cellsI m := by simp [cellsI]
theorem cellsI_snoc (l : List Int) (x : Int) : cellsI (l ++ [x]) = cellsI l ++ [.int .i64 x] := by simp [cellsI]
theorem cellsI_at (l : List Int) (k : Nat) (x : Int) (h : l[k]? = some x) : (cellsI l)[k]? = some (.int .i64 x) := by simp [cellsI, h]
theorem cellsI_inv (l : List Int) (k : Nat) (u : Value) (h : (cellsI l)[k]? = some u) : ∃ x, l[k]? = some x ∧ u = .int .i64 x := by
  simp only [cellsI, List.getElem?_map, Option.map_eq_some_iff] at h
  obtain ⟨x, hx, rfl⟩ := h
  exact ⟨x, hx, rfl⟩
theorem cellsI_one (l : List Int) : ∀ u ∈ cellsI l, u.oneCell' = true := by
  intro u hu
  simp only [cellsI, List.mem_map] at hu
  obtain ⟨c, _, rfl⟩ := hu
  rfl

/-- A slice of ints: its list. -/
def IntsAt (W : World) (v : Value) (l : List Int) : Prop :=
  (l = [] ∧ ∃ p cap, v = .slice p 0 cap) ∨ ∃ b o cap, v = .slice (some ⟨b, o, none⟩) l.length cap ∧ b < W.heap.size ∧ ∀ k x, l[k]? = some x → W.cell? ⟨b, o + k, none⟩ = some (.int .i64 x)
theorem IntsAt.below {W W' : World} {v : Value} {l : List Int} (h : IntsAt W v l) (hb : Below W.heap.size W W') : IntsAt W' v l := by
  rcases h with h | ⟨b, o, cap, hv, hlt, hc⟩
  · exact .inl h
  · exact .inr ⟨b, o, cap, hv, Nat.lt_of_lt_of_le hlt hb.size, fun k c hk => (hb.cell (p := ⟨b, _, none⟩) hlt).trans (hc k c hk)⟩
theorem IntsAt.form {W : World} {v : Value} {l : List Int} (h : IntsAt W v l) : ∃ p cap, v = .slice p l.length cap ∧ (l = [] ∨ ∃ b o, p = some ⟨b, o, none⟩ ∧ b < W.heap.size ∧ ∀ k x, l[k]? = some x → W.cell? ⟨b, o + k, none⟩ = some (.int .i64 x)) := by
  rcases h with ⟨rfl, p, cap, rfl⟩ | ⟨b, o, cap, rfl, hlt, hc⟩
  · exact ⟨_, _, rfl, .inl rfl⟩
  · exact ⟨_, _, rfl, .inr ⟨b, o, rfl, hlt, hc⟩⟩
theorem intsAt_of_own {W : World} {base : Nat} {v : Value} {l : List Int} (h : W.ownsRow base 3 1 v l.length (cellsI l)) : IntsAt W v l := by
  have hc := fun g (hg : v.ownBlock = some g) => h.cells hg
  have hlt := h.lt
  rcases h.2 with ⟨rfl, hn⟩ | ⟨g, cap, cur, rfl, hb, hg, _⟩
  · exact .inl ⟨List.eq_nil_of_length_eq_zero (by omega), none, 0, rfl⟩
  · refine .inr ⟨g, 0, cap, rfl, (hlt g rfl).2, fun k x hk => ?_⟩
    have := hc g rfl
    simp only [addr_at] at this
    rw [Nat.zero_add]
    exact this _ _ (cellsI_at l k x hk)

/-- With its capacity. -/
def SliceOkI (v : Value) (l : List Int) : Prop := ∃ p cap, v = .slice p l.length cap ∧ l.length ≤ cap ∧ (p = none → cap = 0)
def SrcI (W : World) (v : Value) (l : List Int) : Prop := IntsAt W v l ∧ SliceOkI v l
theorem SrcI.below {W W' : World} {v : Value} {l : List Int} (h : SrcI W v l) (hb : Below W.heap.size W W') : SrcI W' v l := ⟨h.1.below hb, h.2⟩
theorem srcI_take {W : World} {p : Option Addr} {l : List Int} {cap k : Nat} (h : SrcI W (.slice p l.length cap) l) (hk : k ≤ l.length) : SrcI W (.slice p k cap) (l.take k) := by
  obtain ⟨hl, p', cap', he, hlc, hpc⟩ := h
  simp only [Value.slice.injEq] at he
  obtain ⟨rfl, _, rfl⟩ := he
  have e : (l.take k).length = k := by simp; omega
  refine ⟨?_, _, _, by rw [e], by omega, hpc⟩
  rcases hl with ⟨rfl, _⟩ | ⟨b, o, cap, he, hlt, hc⟩
  · obtain rfl : k = 0 := by simpa using hk
    exact .inl ⟨by simp, _, _, rfl⟩
  · simp only [Value.slice.injEq] at he
    obtain ⟨rfl, _, rfl⟩ := he
    refine .inr ⟨b, o, cap, by rw [e], hlt, fun j c hj => ?_⟩
    rw [List.getElem?_take] at hj
    split at hj
    · exact hc _ c hj
    · cases hj

/-- What a call has collected since the world w0. -/
def MadeI (w0 W : World) (v : Value) (xs : List Int) : Prop := W.ownsRow w0.heap.size 3 1 v xs.length (cellsI xs) ∧ Below w0.heap.size w0 W
theorem MadeI.list {w0 W : World} {v : Value} {xs : List Int} (h : MadeI w0 W v xs) : IntsAt W v xs := intsAt_of_own h.1
theorem madeI_nil {w0 W : World} (hb : Below w0.heap.size w0 W) : MadeI w0 W (.slice none 0 0) [] := ⟨World.ownsRow_nil _ _ _ _, hb⟩
theorem MadeI.later {w0 W : World} {v : Value} {xs : List Int} (h : MadeI w0 W v xs) (x : Later W) : MadeI w0 x.w v xs := ⟨row_keeps h.1 fun g hg => x.below.block g (row_lt h.1 g hg), below_later h.2 h.2.size x⟩

theorem runI_append {w0 W : World} {v v2 : Value} {xs l : List Int} (ty : TypeId) (hm : MadeI w0 W v xs) (hs : SrcI W v2 l) (hb : (xs.length + l.length) * 8 ≤ 140737488355328) :
    ∃ v' w', (Builtin.append_ #[30, 30] ty #[v, v2]).run Try.prog W = .ok v' w' ∧ MadeI w0 w' v' (xs ++ l) := by
  obtain ⟨i0, hi, hz0, hz1, hz2⟩ := info_parts infoInt
  obtain ⟨hl, p, cap, rfl, hlc, hpc⟩ := hs
  cases p with
  | none =>
    obtain rfl := hpc rfl
    obtain rfl : l = [] := List.eq_nil_of_length_eq_zero (by omega)
    refine ⟨v, W, run_append_owned_none (P := Try.prog) (w := W) w0.heap.size 30 ty 3 i0 1 Try.underlying30 hi v xs.length (cellsI xs) hm.1, ?_⟩
    rw [List.append_nil]
    exact hm
  | some a =>
    have hnews : ∀ j u, (cellsI l)[j]? = some u → W.cell? (a.add j) = some u := by
      intro j u hu
      rcases hl with ⟨rfl, _⟩ | ⟨b, o, cap', he, hlt, hc⟩
      · simp [cellsI] at hu
      · simp only [Value.slice.injEq, Option.some.injEq] at he
        obtain ⟨rfl, _, _⟩ := he
        rw [addr_plus']
        obtain ⟨x, hx, rfl⟩ := cellsI_inv l j u hu
        exact hc j x hx
    obtain ⟨v', w', hr, h2, h3, _⟩ := run_append_own (P := Try.prog) W w0.heap.size 30 ty 3 i0 (.int .i64 0) 1 8 Try.underlying30 hi hz0 hz1 hz2 rfl (by decide) v xs.length (cellsI xs) hm.1 a l.length cap (cellsI l) (cellsI_len1 l) hnews (cellsI_one l) (by unfold maxLen; omega) hb hm.2.size
    refine ⟨v', w', hr, ?_, own_below hm.1 hm.2 h3 hm.2.size (Nat.le_refl _)⟩
    rw [List.length_append, cellsI_append]
    exact h2
theorem wpI_append {w0 W : World} {o : Oper} {a : Act} {K : Act → World → Prop} {Q : Exit → Act → World → Prop} (s x : Operand)
    (ho : o.op = .call { callee := .builtin .append, args := #[s, x], argTypes := #[30, 30] }) {v v2 : Value} {xs l : List Int} (hsv : a.eval s = v) (hxv : a.eval x = v2)
    (hm : MadeI w0 W v xs) (hs : SrcI W v2 l) (hb : (xs.length + l.length) * 8 ≤ 140737488355328) (h : ∀ v' w', MadeI w0 w' v' (xs ++ l) → K (a.put o.dst v') w') : o.wp Try.prog a W K Q := by
  obtain ⟨v', w', hr, h2⟩ := runI_append o.type hm hs hb
  unfold Oper.wp execOp
  simp only [ho, resolve, invoke, builtin, Sem.run_bind, Sem.run_pure, Result.andThen_ok, List.map_toArray, List.map_cons, List.map_nil, hsv, hxv, hr]
  exact h v' w' h2
theorem wpListI_append {w0 W : World} {ops : Array Oper} {rest : List Oper} {o : Oper} {a : Act} {Q : Exit → Act → World → Prop} (hgd : o.guard = none) (s x : Operand)
    (ho : o.op = .call { callee := .builtin .append, args := #[s, x], argTypes := #[30, 30] }) {v v2 : Value} {xs l : List Int} (hsv : a.eval s = v) (hxv : a.eval x = v2)
    (hm : MadeI w0 W v xs) (hs : SrcI W v2 l) (hb : (xs.length + l.length) * 8 ≤ 140737488355328) (h : ∀ v' w', MadeI w0 w' v' (xs ++ l) → wpList Try.prog ops Q rest (a.put o.dst v') w') : wpList Try.prog ops Q (o :: rest) a W :=
  wpList_plain hgd fun _ hK => wpI_append s x ho hsv hxv hm hs hb fun v' w' h2 => hK _ _ (h v' w' h2)
theorem stepI_append {w0 W : World} {ops : Array Oper} {o : Oper} {a : Act} {K : Act → World → Prop} {Q : Exit → Act → World → Prop} {E : Prop} (hgd : o.guard = none) (s x : Operand)
    (ho : o.op = .call { callee := .builtin .append, args := #[s, x], argTypes := #[30, 30] }) {v v2 : Value} {xs l : List Int} (hsv : a.eval s = v) (hxv : a.eval x = v2)
    (hm : MadeI w0 W v xs) (hs : SrcI W v2 l) (hb : (xs.length + l.length) * 8 ≤ 140737488355328) (h : ∀ v' w', MadeI w0 w' v' (xs ++ l) → K (a.put o.dst v') w') : if Region.wanted o (yielded ops a.tmps) = true then Oper.wp Try.prog o a W K Q else E := by
  have hw : Region.wanted o (yielded ops a.tmps) = true := by simp [Region.wanted, hgd]
  rw [if_pos hw]
  exact wpI_append s x ho hsv hxv hm hs hb h
/-- One new element, boxed by the walk at block b. -/
theorem srcI_one {W : World} {b : Nat} {x : Int} {t : TypeId} (h : W.heap[b]? = some (.cells #[.int .i64 x] t (0, 0))) : SrcI W (.slice (some ⟨b, 0, none⟩) 1 1) [x] := by
  refine ⟨.inr ⟨b, 0, 1, rfl, (Array.getElem?_eq_some_iff.1 h).1, fun k y hk => ?_⟩, _, _, rfl, by simp, fun h => by cases h⟩
  cases k with
  | zero =>
    obtain rfl : x = y := by simpa using hk
    simp [World.cell?, h]
  | succ k => simp at hk

/-- A list without an element's exchange: the row behind two stores. -/
theorem row_setI {W : World} {base : Nat} {g cap : Nat} {l : List Int} {k : Nat} (x : Int) (hr : W.ownsRow base 3 1 (.slice (some ⟨g, 0, none⟩) l.length cap) l.length (cellsI l)) (_hk : k < l.length) :
    (W.setCell ⟨g, k, none⟩ (.int .i64 x)).ownsRow base 3 1 (.slice (some ⟨g, 0, none⟩) l.length cap) l.length (cellsI (l.set k x)) := by
  refine ⟨by rw [cellsI_len, List.length_set]; omega, ?_⟩
  rcases hr.2 with ⟨h1, _⟩ | ⟨g', cap', cur, hv, hb, hg, hnc, hcm, hcs, htk⟩
  · simp at h1
  simp only [Value.slice.injEq, Option.some.injEq, Addr.mk.injEq, and_true, true_and] at hv
  obtain ⟨rfl, rfl⟩ := hv
  refine .inr ⟨g, cap, cur.setIfInBounds k (.int .i64 x), rfl, hb, heap_setCell_same W g k _ _ _ hg, hnc, hcm, by simpa using hcs, ?_⟩
  have e : (cur.setIfInBounds k (.int .i64 x)).toList = cur.toList.set k (.int .i64 x) := by simp
  rw [e, List.take_set, htk]
  simp [cellsI, List.map_set]
theorem MadeI.set {w0 W : World} {g cap : Nat} {l : List Int} (h : MadeI w0 W (.slice (some ⟨g, 0, none⟩) l.length cap) l) {k : Nat} (hk : k < l.length) (x : Int) : MadeI w0 (W.setCell ⟨g, k, none⟩ (.int .i64 x)) (.slice (some ⟨g, 0, none⟩) (l.set k x).length cap) (l.set k x) := by
  have hg := (h.1.lt g rfl).1
  refine ⟨?_, ext_setCell h.2 _ _ hg⟩
  rw [List.length_set]
  exact row_setI x h.1 hk
/-- What a walk reads and writes of a row that is not empty. -/
theorem MadeI.open {w0 W : World} {v : Value} {l : List Int} (h : MadeI w0 W v l) (hne : 0 < l.length) : ∃ g cap, v = .slice (some ⟨g, 0, none⟩) l.length cap ∧ w0.heap.size ≤ g ∧ g < W.heap.size ∧ (∀ j, W.frozen? ⟨g, j, none⟩ = false) ∧ ∀ k x, l[k]? = some x → W.cell? ⟨g, k, none⟩ = some (.int .i64 x) := by
  have hl := h.1.lt
  have hc := fun g (hg : v.ownBlock = some g) => h.1.cells hg
  rcases h.1.2 with ⟨rfl, h0⟩ | ⟨g, cap, cur, rfl, hb, hg, _⟩
  · omega
  · refine ⟨g, cap, rfl, hb, (hl g rfl).2, fun j => by simp [World.frozen?, hg], fun k x hk => ?_⟩
    have := hc g rfl
    simp only [addr_at] at this
    exact this _ _ (cellsI_at l k x hk)
end Go.Proofs.Ytnkchmafofpimaa
