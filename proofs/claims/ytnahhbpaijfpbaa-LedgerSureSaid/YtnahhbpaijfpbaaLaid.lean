/- Slices of whatever elements, laid in k cells each: read, made by the call itself, appended to. -/
import Derived.Test.YtnahhbpaijfpbaaAppendAt
import Derived.Laws.AppendOwn
import Derived.Laws.AppendOwnNone
import Derived.Laws.OwnMore
import Derived.OwnWalk
import Derived.OneCell
import Derived.Deep.RegionLaw
namespace Go.Proofs.Ytnahhbpaijfpbaa
open Go Go.RowKit

/-- How an element of a slice lies in memory. -/
structure Elem (P : Program) (α : Type) where
  enc : α → List Value
  k : Nat
  pos : 0 < k
  len : ∀ x, (enc x).length = k
  one : ∀ x, ∀ u ∈ enc x, u.oneCell' = true
  t : TypeId
  sl : TypeId
  under : P.underlying sl = some (.slice t)
  z : Value
  bytes : Nat
  bpos : 0 < bytes
  info : (P.info? t).map (fun i => (i.zero, i.size, i.bytes)) = some (some z, k, bytes)
  zs : z.cells.size = k

section
variable {P : Program} {α : Type} (E : Elem P α)
def Elem.cells (l : List α) : List Value := l.flatMap E.enc
theorem Elem.cells_cons (x : α) (l : List α) : E.cells (x :: l) = E.enc x ++ E.cells l := rfl
theorem Elem.cells_len : ∀ l : List α, (E.cells l).length = l.length * E.k
  | [] => by simp [Elem.cells]
  | x :: l => by rw [Elem.cells_cons, List.length_append, E.len, Elem.cells_len l, List.length_cons, Nat.add_mul]; omega
theorem Elem.cells_append (l m : List α) : E.cells (l ++ m) = E.cells l ++ E.cells m := by simp [Elem.cells]
theorem Elem.cells_at : ∀ (l : List α) (i : Nat) (x : α) (j : Nat) (u : Value), l[i]? = some x → (E.enc x)[j]? = some u → (E.cells l)[i * E.k + j]? = some u
  | [], _, _, _, _, h, _ => by simp at h
  | y :: l, 0, x, j, u, h, hu => by
    obtain rfl : y = x := by simpa using h
    have hj := (List.getElem?_eq_some_iff.1 hu).1
    rw [Elem.cells_cons, Nat.zero_mul, Nat.zero_add, List.getElem?_append_left hj]
    exact hu
  | y :: l, i + 1, x, j, u, h, hu => by
    rw [Elem.cells_cons, List.getElem?_append_right (by rw [E.len, Nat.add_mul]; omega), E.len, show (i + 1) * E.k + j - E.k = i * E.k + j from by rw [Nat.add_mul]; omega]
    exact Elem.cells_at l i x j u (by simpa using h) hu
theorem Elem.cells_inv (l : List α) (p : Nat) (u : Value) (h : (E.cells l)[p]? = some u) : ∃ i j x, p = i * E.k + j ∧ l[i]? = some x ∧ (E.enc x)[j]? = some u := by
  have hp := (List.getElem?_eq_some_iff.1 h).1
  rw [Elem.cells_len] at hp
  have hi : p / E.k < l.length := Nat.div_lt_of_lt_mul (by rw [Nat.mul_comm]; exact hp)
  have hj := Nat.mod_lt p E.pos
  obtain ⟨x, hx⟩ : ∃ x, l[p / E.k]? = some x := ⟨_, List.getElem?_eq_getElem hi⟩
  obtain ⟨v, hv⟩ : ∃ v, (E.enc x)[p % E.k]? = some v := ⟨_, List.getElem?_eq_getElem (by rw [E.len]; exact hj)⟩
  have he : p = p / E.k * E.k + p % E.k := by rw [Nat.mul_comm]; exact (Nat.div_add_mod p E.k).symm
  have h2 := E.cells_at l (p / E.k) x (p % E.k) v hx hv
  rw [← he, h] at h2
  obtain rfl := Option.some.inj h2
  exact ⟨_, _, x, he, hx, hv⟩
theorem Elem.cells_one (l : List α) : ∀ u ∈ E.cells l, u.oneCell' = true := by
  intro u hu
  unfold Elem.cells at hu
  rw [List.mem_flatMap] at hu
  obtain ⟨x, _, hx⟩ := hu
  exact E.one x u hx

theorem addr_off (b o i : Nat) : (⟨b, o, none⟩ : Addr).add i = ⟨b, o + i, none⟩ := by unfold Addr.add; split <;> simp_all
/-- A slice: its list. -/
def RowAt (W : World) (v : Value) (l : List α) : Prop :=
  (l = [] ∧ ∃ p cap, v = .slice p 0 cap) ∨ ∃ b o cap, v = .slice (some ⟨b, o, none⟩) l.length cap ∧ b < W.heap.size ∧ ∀ i x, l[i]? = some x → ∀ j u, (E.enc x)[j]? = some u → W.cell? ⟨b, o + i * E.k + j, none⟩ = some u
/-- With its capacity. -/
def SrcE (W : World) (v : Value) (l : List α) : Prop := RowAt E W v l ∧ ∃ p cap, v = .slice p l.length cap ∧ l.length ≤ cap ∧ (p = none → cap = 0)
/-- What a call has collected since the world w0. -/
def MadeE (w0 W : World) (v : Value) (xs : List α) : Prop := W.ownsRow w0.heap.size E.t E.k v xs.length (E.cells xs) ∧ Below w0.heap.size w0 W
variable {E} {W W' w0 : World} {v : Value} {l xs : List α}
theorem RowAt.below (h : RowAt E W v l) (hb : Below W.heap.size W W') : RowAt E W' v l := by
  rcases h with h | ⟨b, o, cap, hv, hlt, hc⟩
  · exact .inl h
  · exact .inr ⟨b, o, cap, hv, Nat.lt_of_lt_of_le hlt hb.size, fun i x hx j u hu => (hb.cell (p := ⟨b, _, none⟩) hlt).trans (hc i x hx j u hu)⟩
theorem SrcE.below (h : SrcE E W v l) (hb : Below W.heap.size W W') : SrcE E W' v l := ⟨h.1.below hb, h.2⟩
theorem RowAt.form (h : RowAt E W v l) : ∃ p cap, v = .slice p l.length cap ∧ (l = [] ∨ ∃ b o, p = some ⟨b, o, none⟩ ∧ b < W.heap.size ∧ ∀ i x, l[i]? = some x → ∀ j u, (E.enc x)[j]? = some u → W.cell? ⟨b, o + i * E.k + j, none⟩ = some u) := by
  rcases h with ⟨rfl, p, cap, rfl⟩ | ⟨b, o, cap, rfl, hlt, hc⟩
  · exact ⟨_, _, rfl, .inl rfl⟩
  · exact ⟨_, _, rfl, .inr ⟨b, o, rfl, hlt, hc⟩⟩
/-- It reads as it did where its block has not turned. -/
theorem RowAt.kept (h : RowAt E W v l) (hs : W.heap.size ≤ W'.heap.size) (hk : ∀ b o n c, l ≠ [] → v = .slice (some ⟨b, o, none⟩) n c → W'.heap[b]? = W.heap[b]?) : RowAt E W' v l := by
  by_cases hl : l = []
  · subst hl
    obtain ⟨p, cap, rfl, _⟩ := h.form
    exact .inl ⟨rfl, _, _, rfl⟩
  · rcases h with ⟨h0, _⟩ | ⟨b, o, cap, rfl, hlt, hc⟩
    · exact absurd h0 hl
    · have hb := hk b o _ _ hl rfl
      exact .inr ⟨b, o, cap, rfl, Nat.lt_of_lt_of_le hlt hs, fun i x hx j u hu => by
        have := hc i x hx j u hu
        simp only [World.cell?, hb] at this ⊢
        exact this⟩
theorem RowAt.lt (h : RowAt E W v l) {b o n c : Nat} (hl : l ≠ []) (hv : v = .slice (some ⟨b, o, none⟩) n c) : b < W.heap.size := by
  rcases h with ⟨h0, _⟩ | ⟨b', o', cap, he, hlt, _⟩
  · exact absurd h0 hl
  · rw [hv] at he
    obtain ⟨e1, _⟩ := Value.slice.inj he
    simp only [Option.some.injEq, Addr.mk.injEq] at e1
    rw [e1.1]
    exact hlt

theorem SrcE.take {p : Option Addr} {n cap m : Nat} (h : SrcE E W (.slice p n cap) l) (hm : m ≤ l.length) : SrcE E W (.slice p m cap) (l.take m) := by
  obtain ⟨hl, p', cap', he, hlc, hpc⟩ := h
  simp only [Value.slice.injEq] at he
  obtain ⟨rfl, rfl, rfl⟩ := he
  have e : (l.take m).length = m := by rw [List.length_take]; omega
  refine ⟨?_, _, _, by rw [e], by omega, hpc⟩
  rcases hl with ⟨rfl, _⟩ | ⟨b, o, cap, he, hlt, hc⟩
  · obtain rfl : m = 0 := by simpa using hm
    exact .inl ⟨by simp, _, _, rfl⟩
  · simp only [Value.slice.injEq] at he
    obtain ⟨rfl, _, rfl⟩ := he
    refine .inr ⟨b, o, cap, by rw [e], hlt, fun i x hx j u hu => ?_⟩
    rw [List.getElem?_take] at hx
    split at hx
    · exact hc i x hx j u hu
    · cases hx
/-- From m on, as a slice expression spells it. -/
theorem SrcE.drop {p : Option Addr} {n cap m : Nat} (h : SrcE E W (.slice p n cap) l) (hm : m ≤ l.length) : SrcE E W (.slice (if cap = m then p else p.map fun a => a.add (m * E.k)) (n - m) (cap - m)) (l.drop m) := by
  obtain ⟨hl, p', cap', he, hlc, hpc⟩ := h
  simp only [Value.slice.injEq] at he
  obtain ⟨rfl, rfl, rfl⟩ := he
  have e : (l.drop m).length = l.length - m := List.length_drop
  refine ⟨?_, _, _, by rw [e], by omega, ?_⟩
  · by_cases hml : l.length = m
    · refine .inl ⟨List.drop_eq_nil_of_le (by omega), _, _, by rw [show l.length - m = 0 from by omega]⟩
    · rw [if_neg (by omega)]
      rcases hl with ⟨rfl, _⟩ | ⟨b, o, cap', he, hlt, hc⟩
      · simp at hm hml; omega
      · simp only [Value.slice.injEq] at he
        obtain ⟨rfl, _, rfl⟩ := he
        refine .inr ⟨b, o + m * E.k, cap - m, by rw [e, Option.map_some, addr_off], hlt, fun i x hx j u hu => ?_⟩
        rw [List.getElem?_drop] at hx
        have := hc (m + i) x hx j u hu
        rw [show o + m * E.k + i * E.k + j = o + (m + i) * E.k + j from by rw [Nat.add_mul]; omega]
        exact this
  · intro hp
    by_cases hc : cap = m
    · omega
    · rw [if_neg hc] at hp
      cases p with
      | none => have := hpc rfl; omega
      | some a => simp at hp

theorem row_keepsE {b : Nat} {e : TypeId} {size : Nat} {k : Nat} {cs : List Value} (h : W.ownsRow b e size v k cs) (hk : ∀ g, v.ownBlock = some g → W'.heap[g]? = W.heap[g]?) : W'.ownsRow b e size v k cs := by
  refine ⟨h.1, ?_⟩
  rcases h.2 with h1 | ⟨g, cap, cur, rfl, hb, hg, rest⟩
  · exact .inl h1
  · exact .inr ⟨g, cap, cur, rfl, hb, (hk g rfl).trans hg, rest⟩
theorem ownsRow_formE {base : Nat} {e : TypeId} {size : Nat} {k : Nat} {cs : List Value} (h : W.ownsRow base e size v k cs) : ∃ p cap, v = .slice p k cap ∧ k ≤ cap ∧ (p = none → cap = 0) := by
  rcases h.2 with ⟨rfl, rfl⟩ | ⟨g, cap, cur, rfl, _, _, hnc, _⟩
  · exact ⟨none, 0, rfl, Nat.le_refl _, fun _ => rfl⟩
  · exact ⟨_, cap, rfl, hnc, fun h => by cases h⟩
theorem rowAt_own {base : Nat} (h : W.ownsRow base E.t E.k v xs.length (E.cells xs)) : RowAt E W v xs := by
  have hc := fun g (hg : v.ownBlock = some g) => h.cells hg
  have hlt := h.lt
  rcases h.2 with ⟨rfl, hn⟩ | ⟨g, cap, cur, rfl, hb, hg, _⟩
  · exact .inl ⟨List.eq_nil_of_length_eq_zero (by omega), none, 0, rfl⟩
  · refine .inr ⟨g, 0, cap, rfl, (hlt g rfl).2, fun i x hx j u hu => ?_⟩
    have := hc g rfl (i * E.k + j) u (E.cells_at xs i x j u hx hu)
    rw [addr_off] at this
    rw [Nat.add_assoc]
    exact this
theorem MadeE.list (h : MadeE E w0 W v xs) : RowAt E W v xs := rowAt_own h.1
theorem MadeE.src (h : MadeE E w0 W v xs) : SrcE E W v xs := ⟨h.list, ownsRow_formE h.1⟩
theorem madeE_nil (hb : Below w0.heap.size w0 W) : MadeE E w0 W (.slice none 0 0) [] := ⟨World.ownsRow_nil _ _ _ _, hb⟩
theorem MadeE.later (h : MadeE E w0 W v xs) (x : Later W) : MadeE E w0 x.w v xs := ⟨row_keepsE h.1 fun g hg => x.below.block g (h.1.lt g hg).2, below_later h.2 h.2.size x⟩
theorem MadeE.base {w1 : World} (h : MadeE E w1 W v xs) (hb : Below w0.heap.size w0 w1) : MadeE E w0 W v xs := by
  refine ⟨⟨h.1.1, ?_⟩, hb.trans (h.2.mono hb.size)⟩
  rcases h.1.2 with h2 | ⟨g, cap, cur, hv, hg, rest⟩
  · exact .inl h2
  · exact .inr ⟨g, cap, cur, hv, Nat.le_trans hb.size hg, rest⟩
/-- What was made stays where only older blocks have turned. -/
theorem MadeE.kept {F : Nat → Prop} (h : MadeE E w0 W v xs) (hf : Fr F W W') (hF : ∀ k, F k → k < w0.heap.size) : SrcE E W' v xs := by
  have hr : W'.ownsRow w0.heap.size E.t E.k v xs.length (E.cells xs) := row_keepsE h.1 fun g hg => hf.block g (h.1.lt g hg).2 fun e => by
    have := hF g e
    have := (h.1.lt g hg).1
    omega
  exact ⟨rowAt_own hr, ownsRow_formE hr⟩

theorem runE_append {v2 : Value} {l2 : List α} (ty : TypeId) (hm : MadeE E w0 W v xs) (hs : SrcE E W v2 l2) (hb : (xs.length + l2.length) * E.bytes ≤ 140737488355328) :
    ∃ v' w', (Builtin.append_ #[E.sl, E.sl] ty #[v, v2]).run P W = .ok v' w' ∧ MadeE E w0 w' v' (xs ++ l2) ∧ W.heap.size ≤ w'.heap.size := by
  obtain ⟨i0, hi, hz0, hz1, hz2⟩ := info_parts E.info
  obtain ⟨hl, p, cap, rfl, hlc, hpc⟩ := hs
  cases p with
  | none =>
    obtain rfl := hpc rfl
    obtain rfl : l2 = [] := List.eq_nil_of_length_eq_zero (by omega)
    refine ⟨v, W, run_append_owned_none (P := P) (w := W) w0.heap.size E.sl ty E.t i0 E.k E.under hi v xs.length (E.cells xs) hm.1, ?_⟩
    rw [List.append_nil]
    exact ⟨hm, Nat.le_refl _⟩
  | some a =>
    have hnews : ∀ j u, (E.cells l2)[j]? = some u → W.cell? (a.add j) = some u := by
      intro j u hu
      rcases hl with ⟨rfl, _⟩ | ⟨b, o, cap', he, hlt, hc⟩
      · simp [Elem.cells] at hu
      · simp only [Value.slice.injEq, Option.some.injEq] at he
        obtain ⟨rfl, _, _⟩ := he
        rw [addr_off]
        obtain ⟨i, j', x, rfl, hx, hu'⟩ := E.cells_inv l2 j u hu
        rw [← Nat.add_assoc]
        exact hc i x hx j' u hu'
    have hbp := E.bpos
    have hle : xs.length + l2.length ≤ 140737488355328 := Nat.le_trans (Nat.le_mul_of_pos_right _ hbp) hb
    obtain ⟨v', w', hr, h2, h3, _⟩ := run_append_own (P := P) W w0.heap.size E.sl ty E.t i0 E.z E.k E.bytes E.under hi hz0 hz1 hz2 E.zs E.pos v xs.length (E.cells xs) hm.1 a l2.length cap (E.cells l2) (E.cells_len l2) hnews (E.cells_one l2) (by unfold maxLen; omega) hb hm.2.size
    refine ⟨v', w', hr, ⟨?_, hm.2.grown h3 hm.2.size (fun j e => (hm.1.lt j e).1)⟩, h3.size⟩
    rw [List.length_append, E.cells_append]
    exact h2
/-- The same to a row of the call's own in a world where older blocks may have turned. -/
theorem runO_append {base : Nat} {v2 : Value} {l2 : List α} (ty : TypeId) (hm : W.ownsRow base E.t E.k v xs.length (E.cells xs)) (hbase : base ≤ W.heap.size) (hs : SrcE E W v2 l2) (hb : (xs.length + l2.length) * E.bytes ≤ 140737488355328) :
    ∃ v' w', (Builtin.append_ #[E.sl, E.sl] ty #[v, v2]).run P W = .ok v' w' ∧ w'.ownsRow base E.t E.k v' (xs ++ l2).length (E.cells (xs ++ l2)) ∧ W.grownBy w' v.ownBlock := by
  obtain ⟨i0, hi, hz0, hz1, hz2⟩ := info_parts E.info
  obtain ⟨hl, p, cap, rfl, hlc, hpc⟩ := hs
  cases p with
  | none =>
    obtain rfl := hpc rfl
    obtain rfl : l2 = [] := List.eq_nil_of_length_eq_zero (by omega)
    refine ⟨v, W, run_append_owned_none (P := P) (w := W) base E.sl ty E.t i0 E.k E.under hi v xs.length (E.cells xs) hm, ?_, ⟨rfl, rfl, rfl, Nat.le_refl _, fun _ _ _ => rfl⟩⟩
    rw [List.append_nil]
    exact hm
  | some a =>
    have hnews : ∀ j u, (E.cells l2)[j]? = some u → W.cell? (a.add j) = some u := by
      intro j u hu
      rcases hl with ⟨rfl, _⟩ | ⟨b, o, cap', he, hlt, hc⟩
      · simp [Elem.cells] at hu
      · simp only [Value.slice.injEq, Option.some.injEq] at he
        obtain ⟨rfl, _, _⟩ := he
        rw [addr_off]
        obtain ⟨i, j', x, rfl, hx, hu'⟩ := E.cells_inv l2 j u hu
        rw [← Nat.add_assoc]
        exact hc i x hx j' u hu'
    have hbp := E.bpos
    have hle : xs.length + l2.length ≤ 140737488355328 := Nat.le_trans (Nat.le_mul_of_pos_right _ hbp) hb
    obtain ⟨v', w', hr, h2, h3, _⟩ := run_append_own (P := P) W base E.sl ty E.t i0 E.z E.k E.bytes E.under hi hz0 hz1 hz2 E.zs E.pos v xs.length (E.cells xs) hm a l2.length cap (E.cells l2) (E.cells_len l2) hnews (E.cells_one l2) (by unfold maxLen; omega) hb hbase
    refine ⟨v', w', hr, ?_, h3⟩
    rw [List.length_append, E.cells_append]
    exact h2
theorem wpListO_append {base : Nat} {ops : Array Oper} {rest : List Oper} {o : Oper} {a : Act} {Q : Exit → Act → World → Prop} (hgd : o.guard = none) (s x : Operand) {v2 : Value} {l2 : List α}
    (ho : o.op = .call { callee := .builtin .append, args := #[s, x], argTypes := #[E.sl, E.sl] }) (hsv : a.eval s = v) (hxv : a.eval x = v2)
    (hm : W.ownsRow base E.t E.k v xs.length (E.cells xs)) (hbase : base ≤ W.heap.size) (hs : SrcE E W v2 l2) (hb : (xs.length + l2.length) * E.bytes ≤ 140737488355328) (h : ∀ v' w', w'.ownsRow base E.t E.k v' (xs ++ l2).length (E.cells (xs ++ l2)) → W.grownBy w' v.ownBlock → wpList P ops Q rest (a.put o.dst v') w') : wpList P ops Q (o :: rest) a W :=
  wpList_plain hgd fun _ hK => by
    obtain ⟨v', w', hr, h2, h3⟩ := runO_append o.type hm hbase hs hb
    unfold Oper.wp execOp
    simp only [ho, resolve, invoke, builtin, Sem.run_bind, Sem.run_pure, Result.andThen_ok, List.map_toArray, List.map_cons, List.map_nil, hsv, hxv, hr]
    exact hK _ _ (h v' w' h2 h3)
theorem execE_append {o : Oper} {a : Act} {s x : Operand} {v2 : Value} {l2 : List α} (ho : o.op = .call { callee := .builtin .append, args := #[s, x], argTypes := #[E.sl, E.sl] }) (hsv : a.eval s = v) (hxv : a.eval x = v2)
    (hm : MadeE E w0 W v xs) (hs : SrcE E W v2 l2) (hb : (xs.length + l2.length) * E.bytes ≤ 140737488355328) : ∃ v' w', (execOp a.eval o).run P W = .ok (.value v') w' ∧ MadeE E w0 w' v' (xs ++ l2) ∧ W.heap.size ≤ w'.heap.size := by
  obtain ⟨v', w', hr, h2, h3⟩ := runE_append o.type hm hs hb
  refine ⟨v', w', ?_, h2, h3⟩
  unfold execOp
  simp only [ho, resolve, invoke, builtin, Sem.run_bind, Sem.run_pure, Result.andThen_ok, List.map_toArray, List.map_cons, List.map_nil, hsv, hxv, hr]
theorem wpE_append {o : Oper} {a : Act} {K : Act → World → Prop} {Q : Exit → Act → World → Prop} (s x : Operand) {v2 : Value} {l2 : List α}
    (ho : o.op = .call { callee := .builtin .append, args := #[s, x], argTypes := #[E.sl, E.sl] }) (hsv : a.eval s = v) (hxv : a.eval x = v2)
    (hm : MadeE E w0 W v xs) (hs : SrcE E W v2 l2) (hb : (xs.length + l2.length) * E.bytes ≤ 140737488355328) (h : ∀ v' w', MadeE E w0 w' v' (xs ++ l2) → K (a.put o.dst v') w') : o.wp P a W K Q := by
  obtain ⟨v', w', hr, h2, _⟩ := runE_append o.type hm hs hb
  unfold Oper.wp execOp
  simp only [ho, resolve, invoke, builtin, Sem.run_bind, Sem.run_pure, Result.andThen_ok, List.map_toArray, List.map_cons, List.map_nil, hsv, hxv, hr]
  exact h v' w' h2
theorem wpListE_append {ops : Array Oper} {rest : List Oper} {o : Oper} {a : Act} {Q : Exit → Act → World → Prop} (hgd : o.guard = none) (s x : Operand) {v2 : Value} {l2 : List α}
    (ho : o.op = .call { callee := .builtin .append, args := #[s, x], argTypes := #[E.sl, E.sl] }) (hsv : a.eval s = v) (hxv : a.eval x = v2)
    (hm : MadeE E w0 W v xs) (hs : SrcE E W v2 l2) (hb : (xs.length + l2.length) * E.bytes ≤ 140737488355328) (h : ∀ v' w', MadeE E w0 w' v' (xs ++ l2) → wpList P ops Q rest (a.put o.dst v') w') : wpList P ops Q (o :: rest) a W :=
  wpList_plain hgd fun _ hK => wpE_append s x ho hsv hxv hm hs hb fun v' w' h2 => hK _ _ (h v' w' h2)
theorem stepE_append {ops : Array Oper} {o : Oper} {a : Act} {K : Act → World → Prop} {Q : Exit → Act → World → Prop} {F : Prop} (hgd : o.guard = none) (s x : Operand) {v2 : Value} {l2 : List α}
    (ho : o.op = .call { callee := .builtin .append, args := #[s, x], argTypes := #[E.sl, E.sl] }) (hsv : a.eval s = v) (hxv : a.eval x = v2)
    (hm : MadeE E w0 W v xs) (hs : SrcE E W v2 l2) (hb : (xs.length + l2.length) * E.bytes ≤ 140737488355328) (h : ∀ v' w', MadeE E w0 w' v' (xs ++ l2) → K (a.put o.dst v') w') : if Region.wanted o (yielded ops a.tmps) = true then Oper.wp P o a W K Q else F := by
  have hw : Region.wanted o (yielded ops a.tmps) = true := by simp [Region.wanted, hgd]
  rw [if_pos hw]
  exact wpE_append s x ho hsv hxv hm hs hb h
/-- One new element, laid by the walk at block b. -/
theorem srcE_one {b : Nat} {x : α} {cs : Array Value} {t : TypeId} (h : W.heap[b]? = some (.cells cs t (0, 0))) (hc : cs.toList = E.enc x) : SrcE E W (.slice (some ⟨b, 0, none⟩) 1 1) [x] := by
  refine ⟨.inr ⟨b, 0, 1, rfl, (Array.getElem?_eq_some_iff.1 h).1, fun i y hy j u hu => ?_⟩, _, _, rfl, Nat.le_refl _, fun h => by cases h⟩
  cases i with
  | zero =>
    obtain rfl : x = y := by simpa using hy
    rw [← hc] at hu
    simp only [World.cell?, h, Nat.zero_mul, Nat.zero_add]
    simpa using hu
  | succ i => simp at hy
end
end Go.Proofs.Ytnahhbpaijfpbaa
