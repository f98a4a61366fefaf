/- Worlds that come later than a given one, and regions that draw their order among calls that only make new memory: one walk in the order of the text serves every order. -/
import Derived.WalkKit
import Derived.Handy
import Derived.BigQuiet
import Derived.Lib.Hide
import Derived.Sort.Grow
import Derived.Lib.ItoaMem
import Derived.Lib.SmallJoins
import Derived.RangeFuncNested
import Derived.Laws.OwnMore
import Derived.Laws.AppendOwn
import Derived.Laws.AppendOwnNone
import Derived.OwnWalk
import Derived.OneCell
import Derived.Deep.RegionLaw
namespace Go.Proofs.YtjbihgfdgaiecaaGreat
open Go Go.RowKit
structure Later (W : World) where
 w : World
 below : Below W.heap.size W w
instance {W : World} : Nonempty (Later W) := ⟨⟨W, Below.refl _ _⟩⟩
theorem Later.ex {W w' : World} (h : Below W.heap.size W w') : ∃ x : Later W, w' = x.w := ⟨⟨w', h⟩, rfl⟩
@[simp, go_sem] theorem Later.cell {W : World} (x : Later W) (a : Addr) (h : a.block < W.heap.size) : x.w.cell? a = W.cell? a := x.below.cell h
@[simp, go_sem] theorem Later.frozen {W : World} (x : Later W) (a : Addr) (h : a.block < W.heap.size) : x.w.frozen? a = W.frozen? a := x.below.frozen h
@[simp, go_sem] theorem Later.lt {W : World} (x : Later W) (b : Nat) (h : b < W.heap.size) : (b < x.w.heap.size) = True := eq_true (Nat.lt_of_lt_of_le h x.below.size)
theorem below_drewN {B : Nat} {a w : World} (h : Below B a w) (n : Nat) : Below B a (w.drewN n) := ⟨h.os, h.tape, h.output, h.size, h.block⟩
theorem below_later {B : Nat} {a w : World} (h : Below B a w) (hB : B ≤ w.heap.size) (x : Later w) : Below B a x.w := h.trans (x.below.mono hB)
theorem ext_refl (a : World) : Below a.heap.size a a := Below.refl _ _
theorem ext_alloc {a w : World} (h : Below a.heap.size a w) (o : Obj) : Below a.heap.size a (w.alloc o) := h.alloc h.size o
theorem ext_drew {a w : World} (h : Below a.heap.size a w) : Below a.heap.size a w.drew := h.drew
theorem ext_drewN {a w : World} (h : Below a.heap.size a w) (n : Nat) : Below a.heap.size a (w.drewN n) := below_drewN h n
theorem ext_later {a w : World} (h : Below a.heap.size a w) (x : Later w) : Below a.heap.size a x.w := below_later h h.size x
theorem ext_setCell {a w : World} (h : Below a.heap.size a w) (p : Addr) (u : Value) (hp : a.heap.size ≤ p.block) : Below a.heap.size a (w.setCell p u) := h.setCell hp u
def Gives (P : Program) (f : FuncId) (args : Array Value) (w : World) (v : Value) : Prop := Calls P f args w fun e w' => e = .returned v ∧ ∃ x : Later w, w' = x.w
theorem Gives.mono' {P : Program} {f : FuncId} {args : Array Value} {w : World} {v : Value} (h : Gives P f args w v) {Q : Ending → World → Prop} (hQ : ∀ x : Later w, Q (.returned v) x.w) : Calls P f args w Q :=
 Calls.mono h fun _ _ ⟨he, x, hx⟩ => by rw [he, hx]; exact hQ x
theorem Gives.on {P : Program} {f : FuncId} {args : Array Value} {W : World} {y : Later W} {v : Value} (h : Gives P f args y.w v) {Q : Ending → World → Prop} (hQ : ∀ x : Later W, Q (.returned v) x.w) : Calls P f args y.w Q :=
 Calls.mono h fun _ _ ⟨he, x, hx⟩ => by rw [he, hx]; exact hQ ⟨x.w, y.below.trans (x.below.mono y.below.size)⟩
theorem Gives.cast {P : Program} {f : FuncId} {args : Array Value} {w : World} {v v' : Value} (h : Gives P f args w v) (e : v = v') : Gives P f args w v' := e ▸ h
theorem later_of {P : Program} {f : FuncId} {args : Array Value} {W : World} {x : Later W} {v : Value} (h : Gives P f args x.w v) : Calls P f args x.w fun e w'' => e = .returned v ∧ ∃ y : Later W, w'' = y.w :=
 Calls.mono h fun _ _ ⟨he, y, hy⟩ => ⟨he, Later.ex (by rw [hy]; exact x.below.trans (y.below.mono x.below.size))⟩
theorem wp_region_later {P : Program} {id : Nat} {Q : Exit → Act → World → Prop} {a : Act} {w : World} {l : List Oper} (hm : P.follows .mixedOrders = true) (hB : Region.lexB .any l.toArray = true)
  (h : wpQuiet P l.toArray (fun w' => ∃ x : Later w, w' = x.w) (fun a' => ∀ w', (∃ x : Later w, w' = x.w) → Q .normal a' w') l a) : (Code.region id l.toArray true).wp P Q a w :=
 wp_region_quiet (C := fun w' => ∃ x : Later w, w' = x.w) hm hB (Later.ex (Below.drew (Below.refl _ w))) (by simpa using h)
theorem wp_region_later_on {P : Program} {id : Nat} {Q : Exit → Act → World → Prop} {a : Act} {W : World} {x : Later W} {l : List Oper} (hm : P.follows .mixedOrders = true) (hB : Region.lexB .any l.toArray = true)
  (h : wpQuiet P l.toArray (fun w' => ∃ x : Later W, w' = x.w) (fun a' => ∀ w', (∃ x : Later W, w' = x.w) → Q .normal a' w') l a) : (Code.region id l.toArray true).wp P Q a x.w :=
 wp_region_quiet (C := fun w' => ∃ x : Later W, w' = x.w) hm hB (Later.ex x.below.drew) (by simpa using h)
end Go.Proofs.YtjbihgfdgaiecaaGreat

/- Objects and the blocks that they own: what a step on one of them keeps of the others. -/
namespace Go.Proofs.YtjbihgfdgaiecaaGreat
open Go Go.RowKit
theorem grownBy_of_below' {W W' : World} (hb : Below W.heap.size W W') (row : Option Nat) : W.grownBy W' row := ⟨hb.os, hb.tape, hb.output, hb.size, fun k hk _ => hb.block k hk⟩
structure Fr (F : Nat → Prop) (W W' : World) : Prop where
 os : W'.os = W.os
 tape : W'.tape = W.tape
 output : W'.output = W.output
 size : W.heap.size ≤ W'.heap.size
 block : ∀ k, k < W.heap.size → ¬ F k → W'.heap[k]? = W.heap[k]?
theorem Fr.refl (F : Nat → Prop) (W : World) : Fr F W W := ⟨rfl, rfl, rfl, Nat.le_refl _, fun _ _ _ => rfl⟩
theorem Fr.trans {F G : Nat → Prop} {A B C : World} (h : Fr F A B) (k : Fr G B C) (hg : ∀ j, G j → F j ∨ A.heap.size ≤ j) : Fr F A C :=
 ⟨k.os.trans h.os, k.tape.trans h.tape, k.output.trans h.output, Nat.le_trans h.size k.size, fun j hj hn => (k.block j (Nat.lt_of_lt_of_le hj h.size) (fun e => by rcases hg j e with h1 | h1 <;> first | exact hn h1 | omega)).trans (h.block j hj hn)⟩
theorem Fr.of_below {F : Nat → Prop} {W W' : World} (h : Below W.heap.size W W') : Fr F W W' := ⟨h.os, h.tape, h.output, h.size, fun k hk _ => h.block k hk⟩
theorem Fr.of_grownBy {F : Nat → Prop} {W W' : World} {row : Option Nat} (h : W.grownBy W' row) (hr : ∀ j, row = some j → F j ∨ W.heap.size ≤ j) : Fr F W W' :=
 ⟨h.os, h.tape, h.output, h.size, fun k hk hn => h.block k hk (fun e => by rcases hr k e.symm with h1 | h1 <;> first | exact hn h1 | omega)⟩
theorem Fr.alloc {F : Nat → Prop} {W W' : World} (h : Fr F W W') (o : Obj) : Fr F W (W'.alloc o) := h.trans (G := F) (Fr.of_below ((Below.refl _ _).alloc (Nat.le_refl _) _)) fun _ hj => .inl hj
theorem Fr.drew {F : Nat → Prop} {W W' : World} (h : Fr F W W') : Fr F W W'.drew := ⟨h.os, h.tape, h.output, h.size, h.block⟩
theorem Fr.later {F : Nat → Prop} {W W' : World} (h : Fr F W W') (x : Later W') : Fr F W x.w := h.trans (G := F) (Fr.of_below x.below) fun _ hj => .inl hj
theorem Fr.set {F : Nat → Prop} {W W' : World} (h : Fr F W W') (b o : Nat) (v : Value) (hb : F b ∨ W.heap.size ≤ b) : Fr F W (W'.setCell ⟨b, o, none⟩ v) :=
 ⟨h.os, h.tape, h.output, Nat.le_trans h.size (by simp [World.setCell]), fun k hk hn => (Below.heap_setCell _ _ _ k (fun e => by subst e; rcases hb with h1 | h1 <;> first | exact hn h1 | omega)).trans (h.block k hk hn)⟩
structure Owns (P : World → (Nat → Prop) → Prop) : Prop where
 lt : ∀ W F, P W F → ∀ k, F k → k < W.heap.size
 kept : ∀ W W' F, P W F → W.heap.size ≤ W'.heap.size → (∀ k, F k → W'.heap[k]? = W.heap[k]?) → P W' F
def Apart (F G : Nat → Prop) : Prop := ∀ k, F k → ¬ G k
theorem Owns.stays {P : World → (Nat → Prop) → Prop} (hP : Owns P) {W W' : World} {F G : Nat → Prop} (h : P W F) (hf : Fr G W W') (ha : Apart F G) : P W' F :=
 hP.kept W W' F h hf.size fun k hk => hf.block k (hP.lt W F h k hk) (ha k hk)
end Go.Proofs.YtjbihgfdgaiecaaGreat

/- append to a row of the call's own: where the new row lies: in the old block, or in a new one. -/
namespace Go.Proofs.YtjbihgfdgaiecaaGreat
open Go Go.RowKit
theorem run_append_where {P : Program} (w : World) (t ty e : TypeId) (i : TypeInfo) (z : Value) (size bytes : Nat) (ht : P.underlying t = some (.slice e)) (hi : P.info? e = some i) (hz : i.zero = some z)
  (hsize : i.size = size) (hby : i.bytes = bytes) (hzs : z.cells.size = size) (hsz : 0 < size)
  (v : Value) (n : Nat) (xs : List Value) (hown : w.ownsRow 0 e size v n xs)
  (a : Addr) (m c : Nat) (news : List Value) (hl : news.length = m * size) (hnews : ∀ j u, news[j]? = some u → w.cell? (a.add j) = some u) (h1 : ∀ u ∈ news, u.oneCell' = true)
  (h63 : n + m ≤ maxLen) (hbytes : (n + m) * bytes ≤ 140737488355328) :
  ∃ v' w', (Builtin.append_ #[t, t] ty #[v, .slice (some a) m c]).run P w = .ok v' w' ∧ w'.ownsRow 0 e size v' (n + m) (xs ++ news) ∧ w.grownBy w' v.ownBlock ∧ ∀ g, v'.ownBlock = some g → v.ownBlock = some g ∨ w.heap.size ≤ g := by
 have weaken : ∀ {W : World} {b : Nat} {u : Value} {k : Nat} {ys : List Value}, W.ownsRow b e size u k ys → W.ownsRow 0 e size u k ys := fun h => by
  refine ⟨h.1, ?_⟩
  rcases h.2 with h2 | ⟨g, cap, cur, hv, _, rest⟩
  ·exact .inl h2
  ·exact .inr ⟨g, cap, cur, hv, Nat.zero_le _, rest⟩
 rcases hown.2 with ⟨rfl, rfl⟩ | ⟨g, cap, cur, rfl, hbg, hg, hnc, hcm, hcs, htake⟩
 ·have hx : xs = [] := List.eq_nil_of_length_eq_zero (by simpa using hown.1)
  subst hx
  obtain ⟨v', w', hr, ho, hgr, _⟩ := run_append_own (P := P) w w.heap.size t ty e i z size bytes ht hi hz hsize hby hzs hsz (.slice none 0 0) 0 [] (World.ownsRow_nil _ _ _ _) a m c news hl hnews h1 h63 hbytes (Nat.le_refl _)
  exact ⟨v', w', hr, weaken ho, hgr, fun g hg => .inr (ho.lt g hg).1⟩
 ·by_cases hroom : n + m ≤ cap
  ·obtain ⟨w', hr, ho, hgr⟩ := run_append_fits (P := P) (w := w) 0 t ty e i size ht hi hsize g n cap xs hown a m c news hl hnews h1 hroom
   exact ⟨_, w', hr, ho, hgr, fun g' hg' => .inl (by simpa [Value.ownBlock] using hg')⟩
  ·subst hsize
   subst hby
   have holds : ∀ j u, xs[j]? = some u → w.cell? ((⟨g, 0, none⟩ : Addr).add j) = some u := hown.cells (g := g) rfl
   have hsmall : n + m ≤ 9223372036854775807 := by simp only [maxLen] at h63; omega
   have hr := run_append_grow (P := P) w t ty e i z ht hi hz ⟨g, 0, none⟩ n cap xs hown.1 holds a m c news hl hnews (by omega) (by omega) (growslice_fits (by omega) hbytes)
   have hge := grownCap_ge w (n + m) cap e
   have hcm' := grownCap_le_maxLen w (n + m) cap e h63
   have hlen : (xs ++ news).length = (n + m) * i.size := by rw [List.length_append, hown.1, hl, Nat.add_mul]
   refine ⟨_, _, hr, ⟨hlen, .inr ⟨w.heap.size, _, _, rfl, Nat.zero_le _, heap_alloc_new w.drew _, hge, hcm', ?_, ?_⟩⟩, ⟨rfl, rfl, rfl, by simp, fun k hk _ => Below.heap_alloc _ _ _ hk⟩, fun g' hg' => .inr (by simp [Value.ownBlock] at hg'; omega)⟩
   ·simp only [Array.size_append, List.size_toArray, size_zeroCells, hzs, hown.1, hl, ← Nat.add_mul]
    congr 1
    omega
   ·simp only [Array.toList_append, List.append_assoc]
    rw [← List.append_assoc, ← hlen]
    exact List.take_left
theorem wp_append_where {P : Program} {w : World} {o : Oper} {a : Act} {K : Act → World → Prop} {Q : Exit → Act → World → Prop} (s x : Operand) (t : TypeId)
  (ho : o.op = .call { callee := .builtin .append, args := #[s, x], argTypes := #[t, t] })
  (e : TypeId) (i : TypeInfo) (z : Value) (size bytes : Nat) (ht : P.underlying t = some (.slice e)) (hi : P.info? e = some i) (hz : i.zero = some z)
  (hsize : i.size = size) (hby : i.bytes = bytes) (hzs : z.cells.size = size) (hsz : 0 < size)
  (v : Value) (n : Nat) (xs : List Value) (hs : a.eval s = v) (hown : w.ownsRow 0 e size v n xs)
  (ad : Addr) (m c : Nat) (news : List Value) (hx : a.eval x = .slice (some ad) m c) (hl : news.length = m * size) (hnews : ∀ j u, news[j]? = some u → w.cell? (ad.add j) = some u) (h1 : ∀ u ∈ news, u.oneCell' = true)
  (h63 : n + m ≤ maxLen) (hbytes : (n + m) * bytes ≤ 140737488355328)
  (h : ∀ v' w', w'.ownsRow 0 e size v' (n + m) (xs ++ news) → w.grownBy w' v.ownBlock → (∀ g, v'.ownBlock = some g → v.ownBlock = some g ∨ w.heap.size ≤ g) → K (a.put o.dst v') w') : o.wp P a w K Q := by
 obtain ⟨v', w', hr, h2, h3, h4⟩ := run_append_where (P := P) w t o.type e i z size bytes ht hi hz hsize hby hzs hsz v n xs hown ad m c news hl hnews h1 h63 hbytes
 unfold Oper.wp execOp
 simp only [ho, resolve, invoke, builtin, Sem.run_bind, Sem.run_pure, Result.andThen_ok, List.map_toArray, List.map_cons, List.map_nil, hs, hx, hr]
 exact h v' w' h2 h3 h4
theorem wpList_append_where {P : Program} {w : World} {ops : Array Oper} {rest : List Oper} {o : Oper} {a : Act} {Q : Exit → Act → World → Prop} (hgd : o.guard = none) (s x : Operand) (t : TypeId)
  (ho : o.op = .call { callee := .builtin .append, args := #[s, x], argTypes := #[t, t] })
  (e : TypeId) (i : TypeInfo) (z : Value) (size bytes : Nat) (ht : P.underlying t = some (.slice e)) (hi : P.info? e = some i) (hz : i.zero = some z)
  (hsize : i.size = size) (hby : i.bytes = bytes) (hzs : z.cells.size = size) (hsz : 0 < size)
  (v : Value) (n : Nat) (xs : List Value) (hs : a.eval s = v) (hown : w.ownsRow 0 e size v n xs)
  (ad : Addr) (m c : Nat) (news : List Value) (hx : a.eval x = .slice (some ad) m c) (hl : news.length = m * size) (hnews : ∀ j u, news[j]? = some u → w.cell? (ad.add j) = some u) (h1 : ∀ u ∈ news, u.oneCell' = true)
  (h63 : n + m ≤ maxLen) (hbytes : (n + m) * bytes ≤ 140737488355328)
  (h : ∀ v' w', w'.ownsRow 0 e size v' (n + m) (xs ++ news) → w.grownBy w' v.ownBlock → (∀ g, v'.ownBlock = some g → v.ownBlock = some g ∨ w.heap.size ≤ g) → wpList P ops Q rest (a.put o.dst v') w') : wpList P ops Q (o :: rest) a w :=
 wpList_plain hgd fun _ hK => wp_append_where s x t ho e i z size bytes ht hi hz hsize hby hzs hsz v n xs hs hown ad m c news hx hl hnews h1 h63 hbytes fun v' w' h2 h3 h4 => hK _ _ (h v' w' h2 h3 h4)
theorem step_append_where {P : Program} {w : World} {ops : Array Oper} {o : Oper} {a : Act} {K : Act → World → Prop} {Q : Exit → Act → World → Prop} {E : Prop} (hgd : o.guard = none) (s x : Operand) (t : TypeId)
  (ho : o.op = .call { callee := .builtin .append, args := #[s, x], argTypes := #[t, t] })
  (e : TypeId) (i : TypeInfo) (z : Value) (size bytes : Nat) (ht : P.underlying t = some (.slice e)) (hi : P.info? e = some i) (hz : i.zero = some z)
  (hsize : i.size = size) (hby : i.bytes = bytes) (hzs : z.cells.size = size) (hsz : 0 < size)
  (v : Value) (n : Nat) (xs : List Value) (hs : a.eval s = v) (hown : w.ownsRow 0 e size v n xs)
  (ad : Addr) (m c : Nat) (news : List Value) (hx : a.eval x = .slice (some ad) m c) (hl : news.length = m * size) (hnews : ∀ j u, news[j]? = some u → w.cell? (ad.add j) = some u) (h1 : ∀ u ∈ news, u.oneCell' = true)
  (h63 : n + m ≤ maxLen) (hbytes : (n + m) * bytes ≤ 140737488355328)
  (h : ∀ v' w', w'.ownsRow 0 e size v' (n + m) (xs ++ news) → w.grownBy w' v.ownBlock → (∀ g, v'.ownBlock = some g → v.ownBlock = some g ∨ w.heap.size ≤ g) → K (a.put o.dst v') w') : if Region.wanted o (yielded ops a.tmps) = true then Oper.wp P o a w K Q else E := by
 have hw : Region.wanted o (yielded ops a.tmps) = true := by simp [Region.wanted, hgd]
 rw [if_pos hw]
 exact wp_append_where s x t ho e i z size bytes ht hi hz hsize hby hzs hsz v n xs hs hown ad m c news hx hl hnews h1 h63 hbytes h
end Go.Proofs.YtjbihgfdgaiecaaGreat

/- Slices of whatever elements, laid in k cells each: read, made by the call itself, appended to. -/
namespace Go.Proofs.YtjbihgfdgaiecaaGreat
open Go Go.RowKit
structure Elem (P : Program) (α : Type) where
 enc : α → List Value
 k : Nat
 pos : 0 < k
 len : ∀ x, (enc x).length = k
 one : ∀ x, ∀ u ∈ enc x, u.oneCell' = true
 t : TypeId
 sl : TypeId
 under : P.underlying sl = some (.slice t)
 z : Value
 bytes : Nat
 bpos : 0 < bytes
 info : (P.info? t).map (fun i => (i.zero, i.size, i.bytes)) = some (some z, k, bytes)
 zs : z.cells.size = k
section
variable {P : Program} {α : Type} (E : Elem P α)
def Elem.cells (l : List α) : List Value := l.flatMap E.enc
theorem Elem.cells_cons (x : α) (l : List α) : E.cells (x :: l) = E.enc x ++ E.cells l := rfl
theorem Elem.cells_len : ∀ l : List α, (E.cells l).length = l.length * E.k
 | [] => by simp [Elem.cells]
 | x :: l => by rw [Elem.cells_cons, List.length_append, E.len, Elem.cells_len l, List.length_cons, Nat.add_mul]; omega
theorem Elem.cells_append (l m : List α) : E.cells (l ++ m) = E.cells l ++ E.cells m := by simp [Elem.cells]
theorem Elem.cells_at : ∀ (l : List α) (i : Nat) (x : α) (j : Nat) (u : Value), l[i]? = some x → (E.enc x)[j]? = some u → (E.cells l)[i * E.k + j]? = some u
 | [], _, _, _, _, h, _ => by simp at h
 | y :: l, 0, x, j, u, h, hu => by
  obtain rfl : y = x := by simpa using h
  have hj := (List.getElem?_eq_some_iff.1 hu).1
  rw [Elem.cells_cons, Nat.zero_mul, Nat.zero_add, List.getElem?_append_left hj]
  exact hu
 | y :: l, i + 1, x, j, u, h, hu => by
  rw [Elem.cells_cons, List.getElem?_append_right (by rw [E.len, Nat.add_mul]; omega), E.len, show (i + 1) * E.k + j - E.k = i * E.k + j from by rw [Nat.add_mul]; omega]
  exact Elem.cells_at l i x j u (by simpa using h) hu
theorem Elem.cells_inv (l : List α) (p : Nat) (u : Value) (h : (E.cells l)[p]? = some u) : ∃ i j x, p = i * E.k + j ∧ l[i]? = some x ∧ (E.enc x)[j]? = some u := by
 have hp := (List.getElem?_eq_some_iff.1 h).1
 rw [Elem.cells_len] at hp
 have hi : p / E.k < l.length := Nat.div_lt_of_lt_mul (by rw [Nat.mul_comm]; exact hp)
 have hj := Nat.mod_lt p E.pos
 obtain ⟨x, hx⟩ : ∃ x, l[p / E.k]? = some x := ⟨_, List.getElem?_eq_getElem hi⟩
 obtain ⟨v, hv⟩ : ∃ v, (E.enc x)[p % E.k]? = some v := ⟨_, List.getElem?_eq_getElem (by rw [E.len]; exact hj)⟩
 have he : p = p / E.k * E.k + p % E.k := by rw [Nat.mul_comm]; exact (Nat.div_add_mod p E.k).symm
 have h2 := E.cells_at l (p / E.k) x (p % E.k) v hx hv
 rw [← he, h] at h2
 obtain rfl := Option.some.inj h2
 exact ⟨_, _, x, he, hx, hv⟩
theorem Elem.cells_one (l : List α) : ∀ u ∈ E.cells l, u.oneCell' = true := by
 intro u hu
 unfold Elem.cells at hu
 rw [List.mem_flatMap] at hu
 obtain ⟨x, _, hx⟩ := hu
 exact E.one x u hx
theorem addr_off (b o i : Nat) : (⟨b, o, none⟩ : Addr).add i = ⟨b, o + i, none⟩ := by unfold Addr.add; split <;> simp_all
def RowAt (W : World) (v : Value) (l : List α) : Prop :=
 (l = [] ∧ ∃ p cap, v = .slice p 0 cap) ∨ ∃ b o cap, v = .slice (some ⟨b, o, none⟩) l.length cap ∧ b < W.heap.size ∧ ∀ i x, l[i]? = some x → ∀ j u, (E.enc x)[j]? = some u → W.cell? ⟨b, o + i * E.k + j, none⟩ = some u
def SrcE (W : World) (v : Value) (l : List α) : Prop := RowAt E W v l ∧ ∃ p cap, v = .slice p l.length cap ∧ l.length ≤ cap ∧ (p = none → cap = 0)
def MadeE (w0 W : World) (v : Value) (xs : List α) : Prop := W.ownsRow w0.heap.size E.t E.k v xs.length (E.cells xs) ∧ Below w0.heap.size w0 W
variable {E} {W W' w0 : World} {v : Value} {l xs : List α}
theorem RowAt.below (h : RowAt E W v l) (hb : Below W.heap.size W W') : RowAt E W' v l := by
 rcases h with h | ⟨b, o, cap, hv, hlt, hc⟩
 ·exact .inl h
 ·exact .inr ⟨b, o, cap, hv, Nat.lt_of_lt_of_le hlt hb.size, fun i x hx j u hu => (hb.cell (p := ⟨b, _, none⟩) hlt).trans (hc i x hx j u hu)⟩
theorem SrcE.below (h : SrcE E W v l) (hb : Below W.heap.size W W') : SrcE E W' v l := ⟨h.1.below hb, h.2⟩
theorem RowAt.form (h : RowAt E W v l) : ∃ p cap, v = .slice p l.length cap ∧ (l = [] ∨ ∃ b o, p = some ⟨b, o, none⟩ ∧ b < W.heap.size ∧ ∀ i x, l[i]? = some x → ∀ j u, (E.enc x)[j]? = some u → W.cell? ⟨b, o + i * E.k + j, none⟩ = some u) := by
 rcases h with ⟨rfl, p, cap, rfl⟩ | ⟨b, o, cap, rfl, hlt, hc⟩
 ·exact ⟨_, _, rfl, .inl rfl⟩
 ·exact ⟨_, _, rfl, .inr ⟨b, o, rfl, hlt, hc⟩⟩
theorem RowAt.kept (h : RowAt E W v l) (hs : W.heap.size ≤ W'.heap.size) (hk : ∀ b o n c, l ≠ [] → v = .slice (some ⟨b, o, none⟩) n c → W'.heap[b]? = W.heap[b]?) : RowAt E W' v l := by
 by_cases hl : l = []
 ·subst hl
  obtain ⟨p, cap, rfl, _⟩ := h.form
  exact .inl ⟨rfl, _, _, rfl⟩
 ·rcases h with ⟨h0, _⟩ | ⟨b, o, cap, rfl, hlt, hc⟩
  ·exact absurd h0 hl
  ·have hb := hk b o _ _ hl rfl
   exact .inr ⟨b, o, cap, rfl, Nat.lt_of_lt_of_le hlt hs, fun i x hx j u hu => by
    have := hc i x hx j u hu
    simp only [World.cell?, hb] at this ⊢
    exact this⟩
theorem RowAt.lt (h : RowAt E W v l) {b o n c : Nat} (hl : l ≠ []) (hv : v = .slice (some ⟨b, o, none⟩) n c) : b < W.heap.size := by
 rcases h with ⟨h0, _⟩ | ⟨b', o', cap, he, hlt, _⟩
 ·exact absurd h0 hl
 ·rw [hv] at he
  obtain ⟨e1, _⟩ := Value.slice.inj he
  simp only [Option.some.injEq, Addr.mk.injEq] at e1
  rw [e1.1]
  exact hlt
theorem SrcE.take {p : Option Addr} {n cap m : Nat} (h : SrcE E W (.slice p n cap) l) (hm : m ≤ l.length) : SrcE E W (.slice p m cap) (l.take m) := by
 obtain ⟨hl, p', cap', he, hlc, hpc⟩ := h
 simp only [Value.slice.injEq] at he
 obtain ⟨rfl, rfl, rfl⟩ := he
 have e : (l.take m).length = m := by rw [List.length_take]; omega
 refine ⟨?_, _, _, by rw [e], by omega, hpc⟩
 rcases hl with ⟨rfl, _⟩ | ⟨b, o, cap, he, hlt, hc⟩
 ·obtain rfl : m = 0 := by simpa using hm
  exact .inl ⟨by simp, _, _, rfl⟩
 ·simp only [Value.slice.injEq] at he
  obtain ⟨rfl, _, rfl⟩ := he
  refine .inr ⟨b, o, cap, by rw [e], hlt, fun i x hx j u hu => ?_⟩
  rw [List.getElem?_take] at hx
  split at hx
  ·exact hc i x hx j u hu
  ·cases hx
theorem SrcE.drop {p : Option Addr} {n cap m : Nat} (h : SrcE E W (.slice p n cap) l) (hm : m ≤ l.length) : SrcE E W (.slice (if cap = m then p else p.map fun a => a.add (m * E.k)) (n - m) (cap - m)) (l.drop m) := by
 obtain ⟨hl, p', cap', he, hlc, hpc⟩ := h
 simp only [Value.slice.injEq] at he
 obtain ⟨rfl, rfl, rfl⟩ := he
 have e : (l.drop m).length = l.length - m := List.length_drop
 refine ⟨?_, _, _, by rw [e], by omega, ?_⟩
 ·by_cases hml : l.length = m
  ·refine .inl ⟨List.drop_eq_nil_of_le (by omega), _, _, by rw [show l.length - m = 0 from by omega]⟩
  ·rw [if_neg (by omega)]
   rcases hl with ⟨rfl, _⟩ | ⟨b, o, cap', he, hlt, hc⟩
   ·simp at hm hml; omega
   ·simp only [Value.slice.injEq] at he
    obtain ⟨rfl, _, rfl⟩ := he
    refine .inr ⟨b, o + m * E.k, cap - m, by rw [e, Option.map_some, addr_off], hlt, fun i x hx j u hu => ?_⟩
    rw [List.getElem?_drop] at hx
    have := hc (m + i) x hx j u hu
    rw [show o + m * E.k + i * E.k + j = o + (m + i) * E.k + j from by rw [Nat.add_mul]; omega]
    exact this
 ·intro hp
  by_cases hc : cap = m
  ·omega
  ·rw [if_neg hc] at hp
   cases p with
   | none => have := hpc rfl; omega
   | some a => simp at hp
theorem row_keepsE {b : Nat} {e : TypeId} {size : Nat} {k : Nat} {cs : List Value} (h : W.ownsRow b e size v k cs) (hk : ∀ g, v.ownBlock = some g → W'.heap[g]? = W.heap[g]?) : W'.ownsRow b e size v k cs := by
 refine ⟨h.1, ?_⟩
 rcases h.2 with h1 | ⟨g, cap, cur, rfl, hb, hg, rest⟩
 ·exact .inl h1
 ·exact .inr ⟨g, cap, cur, rfl, hb, (hk g rfl).trans hg, rest⟩
theorem ownsRow_formE {base : Nat} {e : TypeId} {size : Nat} {k : Nat} {cs : List Value} (h : W.ownsRow base e size v k cs) : ∃ p cap, v = .slice p k cap ∧ k ≤ cap ∧ (p = none → cap = 0) := by
 rcases h.2 with ⟨rfl, rfl⟩ | ⟨g, cap, cur, rfl, _, _, hnc, _⟩
 ·exact ⟨none, 0, rfl, Nat.le_refl _, fun _ => rfl⟩
 ·exact ⟨_, cap, rfl, hnc, fun h => by cases h⟩
theorem rowAt_own {base : Nat} (h : W.ownsRow base E.t E.k v xs.length (E.cells xs)) : RowAt E W v xs := by
 have hc := fun g (hg : v.ownBlock = some g) => h.cells hg
 have hlt := h.lt
 rcases h.2 with ⟨rfl, hn⟩ | ⟨g, cap, cur, rfl, hb, hg, _⟩
 ·exact .inl ⟨List.eq_nil_of_length_eq_zero (by omega), none, 0, rfl⟩
 ·refine .inr ⟨g, 0, cap, rfl, (hlt g rfl).2, fun i x hx j u hu => ?_⟩
  have := hc g rfl (i * E.k + j) u (E.cells_at xs i x j u hx hu)
  rw [addr_off] at this
  rw [Nat.add_assoc]
  exact this
theorem MadeE.list (h : MadeE E w0 W v xs) : RowAt E W v xs := rowAt_own h.1
theorem MadeE.src (h : MadeE E w0 W v xs) : SrcE E W v xs := ⟨h.list, ownsRow_formE h.1⟩
theorem madeE_nil (hb : Below w0.heap.size w0 W) : MadeE E w0 W (.slice none 0 0) [] := ⟨World.ownsRow_nil _ _ _ _, hb⟩
theorem MadeE.later (h : MadeE E w0 W v xs) (x : Later W) : MadeE E w0 x.w v xs := ⟨row_keepsE h.1 fun g hg => x.below.block g (h.1.lt g hg).2, below_later h.2 h.2.size x⟩
theorem MadeE.base {w1 : World} (h : MadeE E w1 W v xs) (hb : Below w0.heap.size w0 w1) : MadeE E w0 W v xs := by
 refine ⟨⟨h.1.1, ?_⟩, hb.trans (h.2.mono hb.size)⟩
 rcases h.1.2 with h2 | ⟨g, cap, cur, hv, hg, rest⟩
 ·exact .inl h2
 ·exact .inr ⟨g, cap, cur, hv, Nat.le_trans hb.size hg, rest⟩
theorem runE_append {v2 : Value} {l2 : List α} (ty : TypeId) (hm : MadeE E w0 W v xs) (hs : SrcE E W v2 l2) (hb : (xs.length + l2.length) * E.bytes ≤ 140737488355328) :
  ∃ v' w', (Builtin.append_ #[E.sl, E.sl] ty #[v, v2]).run P W = .ok v' w' ∧ MadeE E w0 w' v' (xs ++ l2) ∧ W.heap.size ≤ w'.heap.size := by
 obtain ⟨i0, hi, hz0, hz1, hz2⟩ := info_parts E.info
 obtain ⟨hl, p, cap, rfl, hlc, hpc⟩ := hs
 cases p with
 | none =>
  obtain rfl := hpc rfl
  obtain rfl : l2 = [] := List.eq_nil_of_length_eq_zero (by omega)
  refine ⟨v, W, run_append_owned_none (P := P) (w := W) w0.heap.size E.sl ty E.t i0 E.k E.under hi v xs.length (E.cells xs) hm.1, ?_⟩
  rw [List.append_nil]
  exact ⟨hm, Nat.le_refl _⟩
 | some a =>
  have hnews : ∀ j u, (E.cells l2)[j]? = some u → W.cell? (a.add j) = some u := by
   intro j u hu
   rcases hl with ⟨rfl, _⟩ | ⟨b, o, cap', he, hlt, hc⟩
   ·simp [Elem.cells] at hu
   ·simp only [Value.slice.injEq, Option.some.injEq] at he
    obtain ⟨rfl, _, _⟩ := he
    rw [addr_off]
    obtain ⟨i, j', x, rfl, hx, hu'⟩ := E.cells_inv l2 j u hu
    rw [← Nat.add_assoc]
    exact hc i x hx j' u hu'
  have hbp := E.bpos
  have hle : xs.length + l2.length ≤ 140737488355328 := Nat.le_trans (Nat.le_mul_of_pos_right _ hbp) hb
  obtain ⟨v', w', hr, h2, h3, _⟩ := run_append_own (P := P) W w0.heap.size E.sl ty E.t i0 E.z E.k E.bytes E.under hi hz0 hz1 hz2 E.zs E.pos v xs.length (E.cells xs) hm.1 a l2.length cap (E.cells l2) (E.cells_len l2) hnews (E.cells_one l2) (by unfold maxLen; omega) hb hm.2.size
  refine ⟨v', w', hr, ⟨?_, hm.2.grown h3 hm.2.size (fun j e => (hm.1.lt j e).1)⟩, h3.size⟩
  rw [List.length_append, E.cells_append]
  exact h2
theorem runO_append {base : Nat} {v2 : Value} {l2 : List α} (ty : TypeId) (hm : W.ownsRow base E.t E.k v xs.length (E.cells xs)) (hbase : base ≤ W.heap.size) (hs : SrcE E W v2 l2) (hb : (xs.length + l2.length) * E.bytes ≤ 140737488355328) :
  ∃ v' w', (Builtin.append_ #[E.sl, E.sl] ty #[v, v2]).run P W = .ok v' w' ∧ w'.ownsRow base E.t E.k v' (xs ++ l2).length (E.cells (xs ++ l2)) ∧ W.grownBy w' v.ownBlock := by
 obtain ⟨i0, hi, hz0, hz1, hz2⟩ := info_parts E.info
 obtain ⟨hl, p, cap, rfl, hlc, hpc⟩ := hs
 cases p with
 | none =>
  obtain rfl := hpc rfl
  obtain rfl : l2 = [] := List.eq_nil_of_length_eq_zero (by omega)
  refine ⟨v, W, run_append_owned_none (P := P) (w := W) base E.sl ty E.t i0 E.k E.under hi v xs.length (E.cells xs) hm, ?_, ⟨rfl, rfl, rfl, Nat.le_refl _, fun _ _ _ => rfl⟩⟩
  rw [List.append_nil]
  exact hm
 | some a =>
  have hnews : ∀ j u, (E.cells l2)[j]? = some u → W.cell? (a.add j) = some u := by
   intro j u hu
   rcases hl with ⟨rfl, _⟩ | ⟨b, o, cap', he, hlt, hc⟩
   ·simp [Elem.cells] at hu
   ·simp only [Value.slice.injEq, Option.some.injEq] at he
    obtain ⟨rfl, _, _⟩ := he
    rw [addr_off]
    obtain ⟨i, j', x, rfl, hx, hu'⟩ := E.cells_inv l2 j u hu
    rw [← Nat.add_assoc]
    exact hc i x hx j' u hu'
  have hbp := E.bpos
  have hle : xs.length + l2.length ≤ 140737488355328 := Nat.le_trans (Nat.le_mul_of_pos_right _ hbp) hb
  obtain ⟨v', w', hr, h2, h3, _⟩ := run_append_own (P := P) W base E.sl ty E.t i0 E.z E.k E.bytes E.under hi hz0 hz1 hz2 E.zs E.pos v xs.length (E.cells xs) hm a l2.length cap (E.cells l2) (E.cells_len l2) hnews (E.cells_one l2) (by unfold maxLen; omega) hb hbase
  refine ⟨v', w', hr, ?_, h3⟩
  rw [List.length_append, E.cells_append]
  exact h2
theorem wpListO_append {base : Nat} {ops : Array Oper} {rest : List Oper} {o : Oper} {a : Act} {Q : Exit → Act → World → Prop} (hgd : o.guard = none) (s x : Operand) {v2 : Value} {l2 : List α}
  (ho : o.op = .call { callee := .builtin .append, args := #[s, x], argTypes := #[E.sl, E.sl] }) (hsv : a.eval s = v) (hxv : a.eval x = v2)
  (hm : W.ownsRow base E.t E.k v xs.length (E.cells xs)) (hbase : base ≤ W.heap.size) (hs : SrcE E W v2 l2) (hb : (xs.length + l2.length) * E.bytes ≤ 140737488355328) (h : ∀ v' w', w'.ownsRow base E.t E.k v' (xs ++ l2).length (E.cells (xs ++ l2)) → W.grownBy w' v.ownBlock → wpList P ops Q rest (a.put o.dst v') w') : wpList P ops Q (o :: rest) a W :=
 wpList_plain hgd fun _ hK => by
  obtain ⟨v', w', hr, h2, h3⟩ := runO_append o.type hm hbase hs hb
  unfold Oper.wp execOp
  simp only [ho, resolve, invoke, builtin, Sem.run_bind, Sem.run_pure, Result.andThen_ok, List.map_toArray, List.map_cons, List.map_nil, hsv, hxv, hr]
  exact hK _ _ (h v' w' h2 h3)
theorem execE_append {o : Oper} {a : Act} {s x : Operand} {v2 : Value} {l2 : List α} (ho : o.op = .call { callee := .builtin .append, args := #[s, x], argTypes := #[E.sl, E.sl] }) (hsv : a.eval s = v) (hxv : a.eval x = v2)
  (hm : MadeE E w0 W v xs) (hs : SrcE E W v2 l2) (hb : (xs.length + l2.length) * E.bytes ≤ 140737488355328) : ∃ v' w', (execOp a.eval o).run P W = .ok (.value v') w' ∧ MadeE E w0 w' v' (xs ++ l2) ∧ W.heap.size ≤ w'.heap.size := by
 obtain ⟨v', w', hr, h2, h3⟩ := runE_append o.type hm hs hb
 refine ⟨v', w', ?_, h2, h3⟩
 unfold execOp
 simp only [ho, resolve, invoke, builtin, Sem.run_bind, Sem.run_pure, Result.andThen_ok, List.map_toArray, List.map_cons, List.map_nil, hsv, hxv, hr]
theorem wpE_append {o : Oper} {a : Act} {K : Act → World → Prop} {Q : Exit → Act → World → Prop} (s x : Operand) {v2 : Value} {l2 : List α}
  (ho : o.op = .call { callee := .builtin .append, args := #[s, x], argTypes := #[E.sl, E.sl] }) (hsv : a.eval s = v) (hxv : a.eval x = v2)
  (hm : MadeE E w0 W v xs) (hs : SrcE E W v2 l2) (hb : (xs.length + l2.length) * E.bytes ≤ 140737488355328) (h : ∀ v' w', MadeE E w0 w' v' (xs ++ l2) → K (a.put o.dst v') w') : o.wp P a W K Q := by
 obtain ⟨v', w', hr, h2, _⟩ := runE_append o.type hm hs hb
 unfold Oper.wp execOp
 simp only [ho, resolve, invoke, builtin, Sem.run_bind, Sem.run_pure, Result.andThen_ok, List.map_toArray, List.map_cons, List.map_nil, hsv, hxv, hr]
 exact h v' w' h2
theorem wpListE_append {ops : Array Oper} {rest : List Oper} {o : Oper} {a : Act} {Q : Exit → Act → World → Prop} (hgd : o.guard = none) (s x : Operand) {v2 : Value} {l2 : List α}
  (ho : o.op = .call { callee := .builtin .append, args := #[s, x], argTypes := #[E.sl, E.sl] }) (hsv : a.eval s = v) (hxv : a.eval x = v2)
  (hm : MadeE E w0 W v xs) (hs : SrcE E W v2 l2) (hb : (xs.length + l2.length) * E.bytes ≤ 140737488355328) (h : ∀ v' w', MadeE E w0 w' v' (xs ++ l2) → wpList P ops Q rest (a.put o.dst v') w') : wpList P ops Q (o :: rest) a W :=
 wpList_plain hgd fun _ hK => wpE_append s x ho hsv hxv hm hs hb fun v' w' h2 => hK _ _ (h v' w' h2)
theorem srcE_one {b : Nat} {x : α} {cs : Array Value} {t : TypeId} (h : W.heap[b]? = some (.cells cs t (0, 0))) (hc : cs.toList = E.enc x) : SrcE E W (.slice (some ⟨b, 0, none⟩) 1 1) [x] := by
 refine ⟨.inr ⟨b, 0, 1, rfl, (Array.getElem?_eq_some_iff.1 h).1, fun i y hy j u hu => ?_⟩, _, _, rfl, Nat.le_refl _, fun h => by cases h⟩
 cases i with
 | zero =>
  obtain rfl : x = y := by simpa using hy
  rw [← hc] at hu
  simp only [World.cell?, h, Nat.zero_mul, Nat.zero_add]
  simpa using hu
 | succ i => simp at hy
end
end Go.Proofs.YtjbihgfdgaiecaaGreat

/- A region that draws its order among calls: whatever only reads is taken as soon as it may come up, then the one call that may; so one walk serves every order, though a call hands back what it likes and makes memory. -/
namespace Go.Proofs.YtjbihgfdgaiecaaGreat
open Go Go.RowKit
section
variable {P : Program} {ops : Array Oper} {md : Region.Mode} {G : World → World → Prop}
def uponG (P : Program) (G : World → World → Prop) (o : Oper) (a : Act) (w0 : World) (K : Act → World → Prop) : Result Next → Prop
 | .ok (.value u) w' => G w0 w' ∧ K (a.put o.dst u) w'
 | .ok .skip w' => G w0 w' ∧ K (a.put o.dst undef) w'
 | .ok (.enter f args) w' => Calls P f args w' fun e w'' => ∃ v, e = .returned v ∧ G w0 w'' ∧ K (a.put o.dst v) w''
 | _ => False
def opG (P : Program) (ops : Array Oper) (G : World → World → Prop) (i : Nat) (K : Act → World → Prop) (a : Act) (w : World) : Prop :=
 match ops[i]? with
 | none => K a w
 | some o => if Region.wanted o (yielded ops a.tmps) then uponG P G o a w K ((execOp a.eval o).run P w) else K (a.put o.dst undef) w
def wpAnyG (P : Program) (md : Region.Mode) (ops : Array Oper) (G : World → World → Prop) (Q : Act → World → Prop) : Nat → Array Bool → Act → World → Prop
 | 0, listed, a, w => Region.ready md ops listed = [] ∧ Q a w
 | fuel + 1, listed, a, w =>
  (Region.ready md ops listed = [] → Q a w) ∧
  ∀ i ∈ Region.ready md ops listed, opG P ops G i (wpAnyG P md ops G Q fuel (listed.setIfInBounds i true)) a w
theorem wp_of_uponG {o : Oper} {a : Act} {w : World} {K : Act → World → Prop} {K' : Act → World → Prop} {Q' : Exit → Act → World → Prop} (h : ∀ a w, K a w → K' a w) (hh : uponG P G o a w K ((execOp a.eval o).run P w)) : o.wp P a w K' Q' := by
 unfold Oper.wp
 generalize (execOp a.eval o).run P w = r at *
 cases r with
 | ok n w' =>
  cases n <;> simp only [uponG] at hh <;> simp only [Oper.upon]
  case value u => exact h _ _ hh.2
  case skip => exact h _ _ hh.2
  case enter f args => exact Calls.mono hh fun e w'' ⟨v, he, _, hk⟩ => by subst he; exact h _ _ hk
 | halt x w' => simp only [uponG] at hh
theorem wpOp_of_opG {i : Nat} {a : Act} {w : World} {K K' : Act → World → Prop} {Q' : Exit → Act → World → Prop} (h : ∀ a w, K a w → K' a w) (hh : opG P ops G i K a w) : wpOp P ops Q' i K' a w := by
 unfold opG at hh
 unfold wpOp
 split
 ·rename_i ho; simp only [ho] at hh; exact h _ _ hh
 ·rename_i o ho
  simp only [ho] at hh
  split
  ·rename_i hw; simp only [hw, if_true] at hh; exact .inl (wp_of_uponG h hh)
  ·rename_i hw; simp only [hw] at hh; exact h _ _ hh
theorem wpAny_of_G {Q : Act → World → Prop} {Q' : Exit → Act → World → Prop} (hQ : ∀ a w, Q a w → Q' .normal a w) : ∀ (fuel : Nat) (listed : Array Bool) (a : Act) (w : World), wpAnyG P md ops G Q fuel listed a w → wpAny P md ops Q' fuel listed a w
 | 0, _, _, _, h => ⟨h.1, hQ _ _ h.2⟩
 | fuel + 1, _, _, _, h => ⟨fun h0 => hQ _ _ (h.1 h0), fun i hi => wpOp_of_opG (fun a' w' => wpAny_of_G hQ fuel _ a' w') (h.2 i hi)⟩
theorem uponG_mono {G' : World → World → Prop} {o : Oper} {a : Act} {w : World} {K K' : Act → World → Prop} {r : Result Next} (hG : ∀ x, G w x → G' w x) (h : ∀ a w, K a w → K' a w) (hh : uponG P G o a w K r) : uponG P G' o a w K' r := by
 cases r with
 | ok n w' =>
  cases n <;> simp only [uponG] at hh ⊢
  case value u => exact ⟨hG _ hh.1, h _ _ hh.2⟩
  case skip => exact ⟨hG _ hh.1, h _ _ hh.2⟩
  case enter f args => exact Calls.mono hh fun e w'' ⟨v, he, hg, hk⟩ => ⟨v, he, hG _ hg, h _ _ hk⟩
 | halt x w' => simp only [uponG] at hh
theorem opG_mono {G' : World → World → Prop} {i : Nat} {a : Act} {w : World} {K K' : Act → World → Prop} (hG : ∀ x, G w x → G' w x) (h : ∀ a w, K a w → K' a w) (hh : opG P ops G i K a w) : opG P ops G' i K' a w := by
 unfold opG at *
 split
 ·exact h _ _ (by simpa [*] using hh)
 ·rename_i o ho
  simp only [ho] at hh
  split
  ·rename_i hw; simp only [hw, if_true] at hh; exact uponG_mono hG h hh
  ·rename_i hw; simp only [hw] at hh; exact h _ _ hh
def FixIn (P : Program) (ops : Array Oper) (C : World → Prop) (o : Oper) (v : Value) (a : Act) : Prop :=
 (Region.wanted o (yielded ops a.tmps) = true ∧ ∀ w, C w → ((execOp a.eval o).run P w = .ok (.value v) w ∨ ((execOp a.eval o).run P w = .ok .skip w ∧ v = undef))) ∨
 (Region.wanted o (yielded ops a.tmps) = false ∧ v = undef)
theorem FixIn.of_same {C : World → Prop} {o : Oper} {v : Value} {a a' : Act} (hy : FixIn P ops C o v a) (he : execOp a'.eval o = execOp a.eval o)
  (hw : Region.wanted o (yielded ops a'.tmps) = Region.wanted o (yielded ops a.tmps)) : FixIn P ops C o v a' := by
 unfold FixIn at *
 rw [he, hw]
 exact hy
theorem FixIn.less {C C' : World → Prop} {o : Oper} {v : Value} {a : Act} (h : FixIn P ops C o v a) (hC : ∀ x, C' x → C x) : FixIn P ops C' o v a :=
 h.imp (fun ⟨h1, h2⟩ => ⟨h1, fun x hx => h2 x (hC x hx)⟩) id
theorem FixIn.opG {C : World → Prop} {i : Nat} {o : Oper} {v : Value} {a : Act} {w : World} (hi : ops[i]? = some o) (hy : FixIn P ops C o v a) (hw : C w) (hr : G w w) {K : Act → World → Prop} (h : K (a.put o.dst v) w) : opG P ops G i K a w := by
 unfold YtjbihgfdgaiecaaGreat.opG
 simp only [hi]
 rcases hy with ⟨hw1, hv⟩ | ⟨hw1, rfl⟩
 ·simp only [hw1, if_true]
  rcases hv w hw with h1 | ⟨h1, rfl⟩
  ·rw [h1]; exact ⟨hr, h⟩
  ·rw [h1]; exact ⟨hr, h⟩
 ·simp only [hw1, Bool.false_eq_true, if_false]; exact h
theorem opG_put {C : World → Prop} {j : Nat} {oi oj : Oper} {v : Value} {w : World} (hrefl : G w w) (hj : ops[j]? = some oj) (hap : oi.apart ops oj = true)
  (hsi : ∀ cs b, oi.op ≠ .select cs b) (hsj : ∀ cs b, oj.op ≠ .select cs b) {K : Act → World → Prop} {a : Act}
  (hy : FixIn P ops C oi v a) (h : opG P ops G j K (a.put oi.dst v) w) :
  opG P ops G j (fun a' w' => FixIn P ops C oi v a' ∧ G w w' ∧ K (a'.put oi.dst v) w') a w := by
 obtain ⟨h1, h2, h3⟩ := Oper.apart_spec hap
 have keep : ∀ (a : Act), FixIn P ops C oi v a → ∀ u, FixIn P ops C oi v (a.put oj.dst u) := fun a hy u =>
  hy.of_same (execOp_put oi hsi a oj.dst u h3) (wanted_put oi a oj.dst u h3)
 unfold opG at *
 simp only [hj] at *
 rw [wanted_put oj a oi.dst v h1] at h
 split
 ·rename_i hw
  simp only [hw, if_true] at h
  rw [execOp_put oj hsj a oi.dst v h1] at h
  generalize (execOp a.eval oj).run P w = r at *
  cases r with
  | ok n w' =>
   cases n <;> simp only [uponG] at h ⊢
   case value u => exact ⟨h.1, keep a hy u, h.1, by rw [← Act.put_comm a v u h2]; exact h.2⟩
   case skip => exact ⟨h.1, keep a hy _, h.1, by rw [← Act.put_comm a v undef h2]; exact h.2⟩
   case enter f args => exact Calls.mono h fun e w'' ⟨u, he, hg, hk⟩ => ⟨u, he, hg, keep a hy u, hg, by rw [← Act.put_comm a v u h2]; exact hk⟩
  | halt x w' => simp only [uponG] at h
 ·rename_i hw
  simp only [hw] at h
  exact ⟨keep a hy _, hrefl, by rw [← Act.put_comm a v undef h2]; exact h⟩
theorem wpAnyG_first {Q : Act → World → Prop} {i : Nat} {oi : Oper} {v : Value} (hrefl : ∀ w, G w w) (htrans : ∀ a b c, G a b → G b c → G a c) (hi : ops[i]? = some oi) (hsel : ∀ (j : Nat) (o : Oper) cs b, ops[j]? = some o → o.op ≠ .select cs b) :
  ∀ (fuel : Nat) (listed : Array Bool) (a : Act) (w : World),
   (∀ j oj, ops[j]? = some oj → j ≠ i → listed.getD j true = false → (∀ e ∈ oj.after, Region.binds md e = true → e.on ≠ i) → oi.apart ops oj = true) →
   i ∈ Region.ready md ops listed → FixIn P ops (G w) oi v a →
   wpAnyG P md ops G Q fuel (listed.setIfInBounds i true) (a.put oi.dst v) w → wpAnyG P md ops G Q (fuel + 1) listed a w := by
 intro fuel
 induction fuel with
 | zero =>
  intro listed a w _ hr hy H
  refine ⟨fun h => (by rw [h] at hr; cases hr), fun j hj => ?_⟩
  by_cases hji : j = i
  ·subst hji; exact hy.opG hi (hrefl w) (hrefl w) H
  ·have := ready_mono hj hji
   rw [H.1] at this
   cases this
 | succ fuel ih =>
  intro listed a w hfree hr hy H
  refine ⟨fun h => (by rw [h] at hr; cases hr), fun j hj => ?_⟩
  by_cases hji : j = i
  ·subst hji; exact hy.opG hi (hrefl w) (hrefl w) H
  ·have h1 := H.2 j (ready_mono hj hji)
   obtain ⟨hjun, oj, hoj, hall⟩ := mem_ready.1 hj
   have hnot : ∀ e ∈ oj.after, Region.binds md e = true → e.on ≠ i := fun e he hb heq => by
    have h1 := hall e he hb
    have h0 := (mem_ready.1 hr).1
    rw [heq] at h1
    rcases Nat.lt_or_ge i listed.size with h' | h'
    ·simp [h'] at h0 h1; rw [h0] at h1; cases h1
    ·simp [Array.getElem?_eq_none h'] at h1
   have h2 := opG_put (hrefl w) hoj (hfree j oj hoj hji hjun hnot) (fun cs b => hsel i oi cs b hi) (fun cs b => hsel j oj cs b hoj) hy h1
   have hfree' : ∀ k ok, ops[k]? = some ok → k ≠ i → (listed.setIfInBounds j true).getD k true = false →
     (∀ e ∈ ok.after, Region.binds md e = true → e.on ≠ i) → oi.apart ops ok = true := fun k ok hk hki hun hno => by
    refine hfree k ok hk hki ?_ hno
    by_cases hjk : j = k
    ·subst hjk; exact hjun
    ·rw [getD_set_ne true hjk] at hun; exact hun
   refine opG_mono (fun _ h => h) (fun a' w' h3 => ih (listed.setIfInBounds j true) a' w' hfree' (ready_mono hr (Ne.symm hji)) (h3.1.less fun x hx => htrans _ _ _ h3.2.1 hx) ?_) h2
   rw [Array.setIfInBounds_comm _ _ hji]
   exact h3.2.2
def noEnter (o : Oper) : Bool :=
 match o.op with
 | .call { callee := .builtin .len, .. } | .call { callee := .builtin .cap, .. } | .call { callee := .builtin .min, .. } | .call { callee := .builtin .max, .. } => true
 | .move _ | .assign _ | .pick .. | .build .. | .load .. | .nilCheck _ | .binOp .. | .unOp .. | .convert .. | .slice .. | .fieldAddr .. | .field .. | .indexAddr .. | .index .. | .makeInterface .. | .extract .. => true
 | _ => false
theorem value_ne (s : Sem Value) (w : World) (f : FuncId) (args : Array Value) (w' : World) : ((do let x ← s; pure (Next.value x)) : Sem Next).run P w ≠ .ok (.enter f args) w' := by
 simp only [Sem.run_bind, Sem.run_pure]
 cases s.run P w with
 | ok v w1 => simp [Result.andThen]
 | halt x w1 => simp [Result.andThen]
theorem noEnter_spec {o : Oper} (h : noEnter o = true) (ρ : Operand → Value) (w : World) (f : FuncId) (args : Array Value) (w' : World) : (execOp ρ o).run P w ≠ .ok (.enter f args) w' := by
 obtain ⟨dst, op, type, pos, after, guard⟩ := o
 cases op
 case call c =>
  obtain ⟨callee, xs, ts⟩ := c
  cases callee with
  | builtin b =>
   cases b <;> first | (exfalso; simp [noEnter] at h; done) | (simp only [execOp, resolve, invoke, builtin, Sem.run_bind, Sem.run_pure, Result.andThen_ok]; generalize Sem.run P _ w = r; cases r <;> simp [Result.andThen]; done)
  | invoke _ _ => simp [noEnter] at h
  | value _ => simp [noEnter] at h
 case nilCheck x =>
  simp only [execOp]
  split
  all_goals first | (simp [runtimePanic]; done) | skip
  split
  ·simp [runtimePanic]
  ·simp only [Sem.run_bind]
   generalize Sem.run P program w = r0
   cases r0 with
   | halt x w1 => simp [Result.andThen]
   | ok v w1 =>
    simp only [Result.andThen]
    generalize Sem.run P (nilAhead _ _ _ _) w1 = r1
    cases r1 with
    | halt x w1 => simp
    | ok v w1 =>
     dsimp only
     split
     ·simp [unsupported, Result.andThen]
     ·simp
  ·simp
 case pick c a b =>
  simp only [execOp, Sem.run_bind, Sem.run_pure]
  cases (asBool (ρ c)).run P w with
  | ok v w1 => simp [Result.andThen]
  | halt x w1 => simp [Result.andThen]
 all_goals first | (exfalso; simp [noEnter] at h; done) | (simp only [execOp]; exact value_ne _ _ _ _ _) | (simp [execOp]; done)
def batchB (md : Region.Mode) (ops : Array Oper) : List Nat → Array Bool → Bool
 | [], _ => true
 | i :: r, listed => (Region.ready md ops listed).contains i && Region.free md ops listed i && ((ops[i]?).map noEnter).getD false && batchB md ops r (listed.setIfInBounds i true)
def markAll : List Nat → Array Bool → Array Bool
 | [], listed => listed
 | i :: r, listed => markAll r (listed.setIfInBounds i true)
def nthL : List Oper → Nat → List Oper
 | [], _ => []
 | o :: _, 0 => [o]
 | _ :: r, n + 1 => nthL r n
def pickL (l : List Oper) : List Nat → List Oper
 | [] => []
 | i :: r => nthL l i ++ pickL l r
theorem nthL_spec : ∀ (l : List Oper) (i : Nat) (o : Oper), l[i]? = some o → nthL l i = [o]
 | [], _, _, h => by simp at h
 | _ :: _, 0, _, h => by simp at h; simp [nthL, h]
 | _ :: r, n + 1, o, h => by rw [nthL]; exact nthL_spec r n o (by simpa using h)
theorem wpAnyG_batch {l : List Oper} {Q : Act → World → Prop} {w : World} (hrefl : ∀ w, G w w) (htrans : ∀ a b c, G a b → G b c → G a c) (hs : Region.noSelect l.toArray = true) : ∀ (idx : List Nat) (fuel : Nat) (listed : Array Bool) (a : Act),
  batchB md l.toArray idx listed = true → wpQuiet P l.toArray (G w) (fun a' => wpAnyG P md l.toArray G Q fuel (markAll idx listed) a' w) (pickL l idx) a → wpAnyG P md l.toArray G Q (fuel + idx.length) listed a w
 | [], _, _, _, _, h => h
 | i :: r, fuel, listed, a, hB, h => by
  simp only [batchB, Bool.and_eq_true] at hB
  obtain ⟨⟨⟨hr, hf⟩, hn⟩, hB'⟩ := hB
  obtain ⟨o, hi⟩ : ∃ o, l.toArray[i]? = some o := by
   cases ho : l.toArray[i]? with
   | none => rw [ho] at hn; simp at hn
   | some o => exact ⟨o, rfl⟩
  rw [hi] at hn
  have hn' : noEnter o = true := by simpa using hn
  rw [pickL, nthL_spec l i o (by simpa using hi), List.singleton_append] at h
  have hst : qOp P l.toArray (G w) i (wpQuiet P l.toArray (G w) (fun a' => wpAnyG P md l.toArray G Q fuel (markAll (i :: r) listed) a' w) (pickL l r)) a := by unfold qOp; simp only [hi]; exact h
  obtain ⟨v, hy, hK⟩ := yieldsIn_of_qOp hi hst
  have hfix : FixIn P l.toArray (G w) o v a := by
   rcases hy with ⟨hw, hq⟩ | ⟨hw, rfl⟩
   ·refine .inl ⟨hw, fun x hx => ?_⟩
    have h1 := hq x hx
    unfold Oper.quietAt at h1
    have hne := noEnter_spec (P := P) hn' a.eval x
    generalize (execOp a.eval o).run P x = res at *
    cases res with
    | ok n w' =>
     cases n <;> simp only [Oper.quietUpon] at h1
     case value u => obtain ⟨rfl, rfl⟩ := h1; exact .inl rfl
     case skip => obtain ⟨rfl, rfl⟩ := h1; exact .inr ⟨rfl, rfl⟩
     case enter f args => exact absurd rfl (hne f args w')
    | halt y w' => simp only [Oper.quietUpon] at h1
   ·exact .inr ⟨hw, rfl⟩
  exact wpAnyG_first hrefl htrans hi (Region.noSelect_spec hs) (fuel + r.length) listed a w (Region.free_spec hi hf) (by simpa using hr) hfix
   (wpAnyG_batch hrefl htrans hs r fuel _ _ hB' hK)
theorem wpAnyG_call {Q : Act → World → Prop} {w : World} {fuel i : Nat} {listed : Array Bool} {a : Act} (hr : Region.ready md ops listed = [i]) {o : Oper} (hi : ops[i]? = some o) (hw : Region.wanted o (yielded ops a.tmps) = true)
  {f : Nat} {xs : Array Operand} {ts : Array TypeId} (ho : o.op = .call { callee := .value (.func f), args := xs, argTypes := ts }) (eg : ∀ args w, (callFunc f args).run P w = .ok (.enter f args) w) {args : Array Value} (hargs : xs.map a.eval = args)
  {R : Value → World → Prop} (hc : Calls P f args w fun e w' => ∃ v, e = .returned v ∧ R v w') (hG : ∀ v w', R v w' → G w w') {d : Option Tmp} (hd : o.dst = d)
  (h : ∀ v w', R v w' → wpAnyG P md ops G Q fuel (listed.setIfInBounds i true) (a.put d v) w') : wpAnyG P md ops G Q (fuel + 1) listed a w := by
 refine ⟨fun h0 => by (rw [h0] at hr; cases hr), fun j hj => ?_⟩
 rw [hr] at hj
 obtain rfl : j = i := by simpa using hj
 unfold opG
 simp only [hi, hw, if_true]
 have : (execOp a.eval o).run P w = .ok (.enter f args) w := by
  simp [execOp, ho, resolve, invoke, Act.eval, Deferred.ofValue, eg, hargs, go_sem]
 rw [this]
 exact Calls.mono hc fun e w' ⟨v, he, hv⟩ => ⟨v, he, hG v w' hv, by rw [hd]; exact h v w' hv⟩
theorem wpAnyG_call2 {Q : Act → World → Prop} {w : World} {fuel i : Nat} {listed : Array Bool} {a : Act} (hr : Region.ready md ops listed = [i]) {o : Oper} (hi : ops[i]? = some o) (hw : Region.wanted o (yielded ops a.tmps) = true) {f : Nat} {x y : Operand} {ts : Array TypeId} (ho : o.op = .call { callee := .value (.func f), args := #[x, y], argTypes := ts }) (eg : ∀ args w, (callFunc f args).run P w = .ok (.enter f args) w) {v0 v1 : Value} (hx : a.eval x = v0) (hy : a.eval y = v1)
  {R : Value → World → Prop} (hc : Calls P f #[v0, v1] w fun e w' => ∃ v, e = .returned v ∧ R v w') (hG : ∀ v w', R v w' → G w w') {d : Option Tmp} (hd : o.dst = d)
  (h : ∀ v w', R v w' → wpAnyG P md ops G Q fuel (listed.setIfInBounds i true) (a.put d v) w') : wpAnyG P md ops G Q (fuel + 1) listed a w :=
 wpAnyG_call hr hi hw ho eg (by simp [hx, hy]) hc hG hd h
theorem wpAnyG_call3 {Q : Act → World → Prop} {w : World} {fuel i : Nat} {listed : Array Bool} {a : Act} (hr : Region.ready md ops listed = [i]) {o : Oper} (hi : ops[i]? = some o) (hw : Region.wanted o (yielded ops a.tmps) = true) {f : Nat} {x y z : Operand} {ts : Array TypeId} (ho : o.op = .call { callee := .value (.func f), args := #[x, y, z], argTypes := ts }) (eg : ∀ args w, (callFunc f args).run P w = .ok (.enter f args) w) {v0 v1 v2 : Value} (hx : a.eval x = v0) (hy : a.eval y = v1) (hz : a.eval z = v2)
  {R : Value → World → Prop} (hc : Calls P f #[v0, v1, v2] w fun e w' => ∃ v, e = .returned v ∧ R v w') (hG : ∀ v w', R v w' → G w w') {d : Option Tmp} (hd : o.dst = d)
  (h : ∀ v w', R v w' → wpAnyG P md ops G Q fuel (listed.setIfInBounds i true) (a.put d v) w') : wpAnyG P md ops G Q (fuel + 1) listed a w :=
 wpAnyG_call hr hi hw ho eg (by simp [hx, hy, hz]) hc hG hd h
theorem wpAnyG_end {Q : Act → World → Prop} {w : World} {listed : Array Bool} {a : Act} (hr : Region.ready md ops listed = []) (h : Q a w) : wpAnyG P md ops G Q 0 listed a w := ⟨hr, h⟩
theorem wp_region_greedy {id : Nat} {l : List Oper} {Q : Exit → Act → World → Prop} {a : Act} {w : World} (G : World → World → Prop) (hm : P.follows .mixedOrders = true) {n : Nat} (hn : l.toArray.size = n) {fresh : Array Bool} (hl : Array.replicate n false = fresh)
  (h : wpAnyG P .any l.toArray G (fun a' w' => Q .normal a' w') n fresh a w.drew) : (Code.region id l.toArray true).wp P Q a w := by
 subst hn hl
 exact wp_region_any hm (wpAny_of_G (fun _ _ h => h) _ _ _ _ h)
end
structure KeepS (S : Nat → Prop) (W : World) where
 w : World
 os : w.os = W.os
 tape : w.tape = W.tape
 output : w.output = W.output
 size : W.heap.size ≤ w.heap.size
 block : ∀ k, S k → w.heap[k]? = W.heap[k]?
def GK (S : Nat → Prop) (W : World) : World → Prop := fun w' => ∃ x : KeepS S W, w' = x.w
instance {S : Nat → Prop} {W : World} : Nonempty (KeepS S W) := ⟨⟨W, rfl, rfl, rfl, Nat.le_refl _, fun _ _ => rfl⟩⟩
theorem GK.refl (S : Nat → Prop) (W : World) : GK S W W := ⟨⟨W, rfl, rfl, rfl, Nat.le_refl _, fun _ _ => rfl⟩, rfl⟩
theorem GK.trans (S : Nat → Prop) (A B C : World) (h : GK S A B) (k : GK S B C) : GK S A C := by
 obtain ⟨x, rfl⟩ := h
 obtain ⟨y, rfl⟩ := k
 exact ⟨⟨y.w, y.os.trans x.os, y.tape.trans x.tape, y.output.trans x.output, Nat.le_trans x.size y.size, fun k hk => (y.block k hk).trans (x.block k hk)⟩, rfl⟩
theorem GK.of_fr {S F : Nat → Prop} {A B : World} (h : Fr F A B) (hS : ∀ k, S k → k < A.heap.size ∧ ¬ F k) : GK S A B := ⟨⟨B, h.os, h.tape, h.output, h.size, fun k hk => h.block k (hS k hk).1 (hS k hk).2⟩, rfl⟩
theorem GK.of_below {S : Nat → Prop} {A B : World} (h : Below A.heap.size A B) (hS : ∀ k, S k → k < A.heap.size) : GK S A B := ⟨⟨B, h.os, h.tape, h.output, h.size, fun k hk => h.block k (hS k hk)⟩, rfl⟩
theorem GK.of_later {S : Nat → Prop} {A : World} (x : Later A) (hS : ∀ k, S k → k < A.heap.size) : GK S A x.w := GK.of_below x.below hS
@[simp, go_sem] theorem KeepS.cell {S : Nat → Prop} {W : World} (x : KeepS S W) (a : Addr) (h : S a.block) : x.w.cell? a = W.cell? a := by
 have := x.block _ h
 simp only [World.cell?, this]
theorem wpAnyK_batch {P : Program} {md : Region.Mode} {l : List Oper} {S : Nat → Prop} {Q : Act → World → Prop} {w : World} (idx : List Nat) (fuel : Nat) {n : Nat} (hn : fuel + idx.length = n) {listed : Array Bool} {a : Act} (hs : Region.noSelect l.toArray = true) (hB : batchB md l.toArray idx listed = true) {listed' : Array Bool} (hl : markAll idx listed = listed') {lo : List Oper} (ho : pickL l idx = lo)
  (h : wpQuiet P l.toArray (fun w' => ∃ x : KeepS S w, w' = x.w) (fun a' => wpAnyG P md l.toArray (GK S) Q fuel listed' a' w) lo a) : wpAnyG P md l.toArray (GK S) Q n listed a w := by
 subst hn hl ho
 exact wpAnyG_batch (GK.refl S) (GK.trans S) hs idx fuel listed a hB h
end Go.Proofs.YtjbihgfdgaiecaaGreat

/- Objects side by side: what a call owes on one of them, what it leaves of the others. -/
namespace Go.Proofs.YtjbihgfdgaiecaaGreat
open Go Go.RowKit
abbrev Asn := World → (Nat → Prop) → Prop
def star (P Q : Asn) : Asn := fun W H => ∃ H1 H2, P W H1 ∧ Q W H2 ∧ Apart H1 H2 ∧ ∀ k, H k ↔ H1 k ∨ H2 k
def pureA (p : Prop) (P : Asn) : Asn := fun W H => p ∧ P W H
def exA {α : Type} (P : α → Asn) : Asn := fun W H => ∃ x, P x W H
def emp : Asn := fun _ H => ∀ k, ¬ H k
def BoxA (b : Nat) (o : Obj) : Asn := fun W H => W.heap[b]? = some o ∧ ∀ k, H k ↔ k = b
section
variable {P P' Q Q' R : Asn} {W W' w : World} {H H0 : Nat → Prop}
theorem Apart.symm {F G : Nat → Prop} (h : Apart F G) : Apart G F := fun k hg hf => h k hf hg
theorem star_owns (hP : Owns P) (hQ : Owns Q) : Owns (star P Q) where
 lt W F h k hk := by
  obtain ⟨H1, H2, h1, h2, _, he⟩ := h
  rcases (he k).1 hk with h | h
  ·exact hP.lt W H1 h1 k h
  ·exact hQ.lt W H2 h2 k h
 kept W W' F h hs hk := by
  obtain ⟨H1, H2, h1, h2, ha, he⟩ := h
  exact ⟨H1, H2, hP.kept W W' H1 h1 hs fun k h => hk k ((he k).2 (.inl h)), hQ.kept W W' H2 h2 hs fun k h => hk k ((he k).2 (.inr h)), ha, he⟩
theorem pureA_owns {p : Prop} (hP : Owns P) : Owns (pureA p P) := ⟨fun W F h => hP.lt W F h.2, fun W W' F h hs hk => ⟨h.1, hP.kept W W' F h.2 hs hk⟩⟩
theorem exA_owns {α : Type} {P : α → Asn} (hP : ∀ x, Owns (P x)) : Owns (exA P) := ⟨fun W F ⟨x, h⟩ => (hP x).lt W F h, fun W W' F ⟨x, h⟩ hs hk => ⟨x, (hP x).kept W W' F h hs hk⟩⟩
theorem emp_owns : Owns emp := ⟨fun _ _ h k hk => absurd hk (h k), fun _ _ _ h _ _ => h⟩
theorem box_owns (b : Nat) (o : Obj) : Owns (BoxA b o) where
 lt W F h k hk := by
  obtain ⟨h1, h2⟩ := h
  rw [(h2 k).1 hk]
  exact (Array.getElem?_eq_some_iff.1 h1).1
 kept W W' F h _ hk := ⟨(hk b ((h.2 b).2 rfl)).trans h.1, h.2⟩
theorem star_comm (h : star P Q W H) : star Q P W H := by
 obtain ⟨H1, H2, h1, h2, ha, he⟩ := h
 exact ⟨H2, H1, h2, h1, ha.symm, fun k => (he k).trans Or.comm⟩
theorem star_assoc (h : star (star P Q) R W H) : star P (star Q R) W H := by
 obtain ⟨H12, H3, ⟨H1, H2, h1, h2, ha, he⟩, h3, ha', he'⟩ := h
 refine ⟨H1, fun k => H2 k ∨ H3 k, h1, ⟨H2, H3, h2, h3, fun k hk => ha' k ((he k).2 (.inr hk)), fun k => Iff.rfl⟩, fun k hk h' => ?_, fun k => ?_⟩
 ·rcases h' with h' | h'
  ·exact ha k hk h'
  ·exact ha' k ((he k).2 (.inl hk)) h'
 ·rw [he' k, he k, or_assoc]
theorem star_assoc' (h : star P (star Q R) W H) : star (star P Q) R W H := star_comm (star_assoc (star_comm (star_assoc (star_comm h))))
theorem star_mono (hP : ∀ H, P W H → P' W H) (hQ : ∀ H, Q W H → Q' W H) (h : star P Q W H) : star P' Q' W H := by
 obtain ⟨H1, H2, h1, h2, ha, he⟩ := h
 exact ⟨H1, H2, hP H1 h1, hQ H2 h2, ha, he⟩
theorem star_swap (h : star P (star Q R) W H) : star Q (star P R) W H := star_assoc (star_mono (fun _ h => star_comm h) (fun _ h => h) (star_assoc' h))
def SEnd (P : Asn) (H : Nat → Prop) (W W' : World) : Prop := ∃ H', P W' H' ∧ Fr H W W' ∧ ∀ k, H' k → H k ∨ W.heap.size ≤ k
theorem sEnd_refl (h : P W H) : SEnd P H W W := ⟨H, h, Fr.refl _ _, fun _ hk => .inl hk⟩
theorem SEnd.mono (h : SEnd P H W W') (hP : ∀ H, P W' H → P' W' H) : SEnd P' H W W' := by
 obtain ⟨H', h1, h2, h3⟩ := h
 exact ⟨H', hP H' h1, h2, h3⟩
theorem SEnd.trans {W1 : World} (h : SEnd P H W W1) (hk : ∀ H1, P W1 H1 → SEnd Q H1 W1 W') : SEnd Q H W W' := by
 obtain ⟨H1, h1, h2, h3⟩ := h
 obtain ⟨H2, k1, k2, k3⟩ := hk H1 h1
 refine ⟨H2, k1, h2.trans k2 h3, fun k hh => ?_⟩
 rcases k3 k hh with h | h
 ·exact h3 k h
 ·exact .inr (Nat.le_trans h2.size h)
theorem SEnd.later (hP : Owns P) {W1 : World} (h : SEnd P H W W1) (x : Later W1) : SEnd P H W x.w :=
 h.trans fun H1 h1 => ⟨H1, hP.kept W1 x.w H1 h1 x.below.size fun k hk => x.below.block k (hP.lt W1 H1 h1 k hk), Fr.of_below x.below, fun _ h => .inl h⟩
theorem SEnd.below (hP : Owns P) {W1 : World} (h : SEnd P H W W1) {W2 : World} (hb : Below W1.heap.size W1 W2) : SEnd P H W W2 := h.later hP ⟨W2, hb⟩
theorem SEnd.swap (h : SEnd (star P (star Q R)) H W W') : SEnd (star Q (star P R)) H W W' := h.mono fun _ => star_swap
theorem SEnd.assoc (h : SEnd (star (star P Q) R) H W W') : SEnd (star P (star Q R)) H W W' := h.mono fun _ => star_assoc
theorem SEnd.assoc' (h : SEnd (star P (star Q R)) H W W') : SEnd (star (star P Q) R) H W W' := h.mono fun _ => star_assoc'
theorem star_frame (hQ : Owns Q) (h : star P Q W H) : ∃ H1, P W H1 ∧ (∀ k, H1 k → H k) ∧ ∀ P' W', SEnd P' H1 W W' → SEnd (star P' Q) H W W' ∧ ∀ S : Nat → Prop, (∀ H2, Q W H2 → ∀ k, S k → H2 k) → GK S W W' := by
 obtain ⟨H1, H2, h1, h2, ha, he⟩ := h
 refine ⟨H1, h1, fun k hk => (he k).2 (.inl hk), fun P' W' ⟨H3, k1, k2, k3⟩ => ⟨⟨fun k => H3 k ∨ H2 k, ⟨H3, H2, k1, hQ.stays h2 k2 ha.symm, fun k hk hk' => ?_, fun _ => Iff.rfl⟩, ?_, fun k hk => ?_⟩, fun S hS => GK.of_fr k2 fun k hk => ⟨hQ.lt W H2 h2 k (hS H2 h2 k hk), fun hk' => ha k hk' (hS H2 h2 k hk)⟩⟩⟩
 ·rcases k3 k hk with h | h
  ·exact ha k h hk'
  ·have := hQ.lt W H2 h2 k hk'; omega
 ·exact ⟨k2.os, k2.tape, k2.output, k2.size, fun k hk hn => k2.block k hk fun e => hn ((he k).2 (.inl e))⟩
 ·rcases hk with hk | hk
  ·rcases k3 k hk with h | h
   ·exact .inl ((he k).2 (.inl h))
   ·exact .inr h
  ·exact .inl ((he k).2 (.inr hk))
def Trip (pr : Program) (f : FuncId) (args : Array Value) (P : Asn) (R : Value → Asn) : Prop := ∀ W H, P W H → Calls pr f args W fun e W' => ∃ u, e = .returned u ∧ SEnd (R u) H W W'
theorem Trip.frame {pr : Program} {f : FuncId} {args : Array Value} {R : Value → Asn} (h : Trip pr f args P R) (hQ : Owns Q) : Trip pr f args (star P Q) fun u => star (R u) Q := fun W H hs => by
 obtain ⟨H1, h1, _, h3⟩ := star_frame hQ hs
 exact (h W H1 h1).mono fun e W' ⟨u, he, hr⟩ => ⟨u, he, (h3 _ _ hr).1⟩
theorem SEnd.call {pr : Program} {f : FuncId} {args : Array Value} {R : Value → Asn} (h : SEnd (star P Q) H0 w W) (hQ : Owns Q) (hc : Trip pr f args P R) (S : Nat → Prop) (hS : ∀ H2, Q W H2 → ∀ k, S k → H2 k) :
  Calls pr f args W fun e W' => ∃ u, e = .returned u ∧ (SEnd (star (R u) Q) H0 w W' ∧ GK S W W') := by
 obtain ⟨H, hs, hf, hg⟩ := h
 obtain ⟨H1, h1, h2, h3⟩ := star_frame hQ hs
 refine (hc W H1 h1).mono fun e W' ⟨u, he, hr⟩ => ⟨u, he, ?_, (h3 _ _ hr).2 S hS⟩
 exact SEnd.trans (P := fun W1 H' => W1 = W ∧ H' = H) ⟨H, ⟨rfl, rfl⟩, hf, hg⟩ fun H' ⟨_, e⟩ => by subst e; exact (h3 _ _ hr).1
theorem Trip.end_ {pr : Program} {f : FuncId} {args : Array Value} {R : Value → Asn} (h : SEnd P H0 w W) (hc : Trip pr f args P R) : Calls pr f args W fun e W' => ∃ u, e = .returned u ∧ SEnd (R u) H0 w W' := by
 obtain ⟨H, hs, hf, hg⟩ := h
 exact (hc W H hs).mono fun e W' ⟨u, he, hr⟩ => ⟨u, he, SEnd.trans (P := fun W1 H' => W1 = W ∧ H' = H) ⟨H, ⟨rfl, rfl⟩, hf, hg⟩ fun H' ⟨_, e⟩ => by subst e; exact hr⟩
theorem SEnd.box (hP : Owns P) (h : SEnd P H0 w W) (o : Obj) : SEnd (star (BoxA W.heap.size o) P) H0 w (W.alloc o) := by
 refine h.trans fun H hp => ⟨fun k => k = W.heap.size ∨ H k, ⟨fun k => k = W.heap.size, H, ⟨heap_alloc_new W o, fun _ => Iff.rfl⟩, hP.kept W _ H hp (by simp) fun k hk => Below.heap_alloc _ _ _ (hP.lt W H hp k hk), fun k hk hk' => ?_, fun _ => Iff.rfl⟩, Fr.of_below (ext_alloc (ext_refl W) o), fun k hk => ?_⟩
 ·have := hP.lt W H hp k hk'
  omega
 ·rcases hk with rfl | hk
  ·exact .inr (Nat.le_refl _)
  ·exact .inl hk
theorem SEnd.store {b off : Nat} {cs : Array Value} {t : TypeId} (hQ : Owns Q) (h : SEnd (star (BoxA b (.cells cs t (0, 0))) Q) H0 w W) (v : Value) : SEnd (star (BoxA b (.cells (cs.setIfInBounds off v) t (0, 0))) Q) H0 w (W.setCell ⟨b, off, none⟩ v) := by
 refine h.trans fun H hs => ?_
 obtain ⟨H1, ⟨h1, hH⟩, _, h3⟩ := star_frame hQ hs
 refine (h3 _ _ ⟨H1, ⟨heap_setCell_same W b off _ _ v h1, hH⟩, ?_, fun _ hk => .inl hk⟩).1
 exact (Fr.refl H1 W).set b off v (.inl ((hH b).2 rfl))
theorem SEnd.at {b : Nat} {o : Obj} (h : SEnd (star (BoxA b o) Q) H0 w W) : W.heap[b]? = some o := by
 obtain ⟨H, ⟨H1, H2, ⟨h1, _⟩, _⟩, _⟩ := h
 exact h1
theorem SEnd.drop (h : SEnd (star Q P) H0 w W) : SEnd P H0 w W := by
 obtain ⟨H, ⟨H1, H2, h1, h2, ha, he⟩, hf, hg⟩ := h
 exact ⟨H2, h2, hf, fun k hk => hg k ((he k).2 (.inr hk))⟩
theorem cov_box {b : Nat} {o : Obj} : ∀ H2, star (BoxA b o) Q W H2 → ∀ k, k = b → H2 k := fun H2 ⟨_, _, ⟨_, h⟩, _, _, he⟩ k hk => (he k).2 (.inl ((h k).2 hk))
theorem cov_next {S : Nat → Prop} (h : ∀ H2, Q W H2 → ∀ k, S k → H2 k) : ∀ H2, star P Q W H2 → ∀ k, S k → H2 k := fun H2 ⟨_, _, _, h2, _, he⟩ k hk => (he k).2 (.inr (h _ h2 k hk))
theorem cov_or {S S' : Nat → Prop} (h : ∀ H2, Q W H2 → ∀ k, S k → H2 k) (h' : ∀ H2, Q W H2 → ∀ k, S' k → H2 k) : ∀ H2, Q W H2 → ∀ k, (S k ∨ S' k) → H2 k := fun H2 hq k hk => hk.elim (h H2 hq k) (h' H2 hq k)
theorem SEnd.gives {pr : Program} {f : FuncId} {args : Array Value} {v : Value} (hP : Owns P) (h : SEnd P H0 w W) (hg : Gives pr f args W v) : Calls pr f args W fun e W' => ∃ u, e = .returned u ∧ (u = v ∧ SEnd P H0 w W' ∧ Below W.heap.size W W') :=
 hg.mono fun e W' ⟨he, x, hx⟩ => by subst hx; exact ⟨v, he, rfl, h.later hP x, x.below⟩
theorem SEnd.get (h : SEnd P H0 w W) : ∃ H, P W H := by obtain ⟨H, h, _⟩ := h; exact ⟨H, h⟩
theorem SEnd.pure {p : Prop} (h : SEnd (pureA p P) H W W') : p ∧ SEnd P H W W' := by
 obtain ⟨H', ⟨hp, h1⟩, h2⟩ := h
 exact ⟨hp, H', h1, h2⟩
theorem SEnd.callF {pr : Program} {f : FuncId} {args : Array Value} {A : Asn} {A' R : Value → Asn} (h : SEnd A H0 w W) (to' : ∀ W H, A W H → star P Q W H) (hQ : Owns Q) (hc : Trip pr f args P R) (S : Nat → Prop) (hS : ∀ W H2, Q W H2 → ∀ k, S k → H2 k) (back : ∀ u W H, star (R u) Q W H → A' u W H) :
  Calls pr f args W fun e W' => ∃ u, e = .returned u ∧ (SEnd (A' u) H0 w W' ∧ GK S W W') :=
 (SEnd.call (h.mono fun _ => to' _ _) hQ hc S (hS W)).mono fun _ _ ⟨u, he, h1, h2⟩ => ⟨u, he, h1.mono fun _ => back u _ _, h2⟩
theorem SEnd.callP {pr : Program} {f : FuncId} {args : Array Value} {A A' : Asn} {v : Value} (h : SEnd A H0 w W) (to' : ∀ W H, A W H → star P Q W H) (hQ : Owns Q) (hc : Trip pr f args P fun u => pureA (u = v) P') (S : Nat → Prop) (hS : ∀ W H2, Q W H2 → ∀ k, S k → H2 k) (back : ∀ W H, star P' Q W H → A' W H) :
  Calls pr f args W fun e W' => ∃ u, e = .returned u ∧ (u = v ∧ SEnd A' H0 w W' ∧ GK S W W') :=
 (SEnd.callF (A' := fun u => pureA (u = v) A') h to' hQ hc S hS fun u W H ⟨H1, H2, ⟨hp, h1⟩, h2⟩ => ⟨hp, back W H ⟨H1, H2, h1, h2⟩⟩).mono fun _ _ ⟨u, he, h1, h2⟩ => ⟨u, he, h1.pure.1, h1.pure.2, h2⟩
theorem SEnd.boxed (hP : Owns P) (h : SEnd P H0 w W) {b : Nat} {o : Obj} (hb : Below W.heap.size W W') (hn : W.heap.size ≤ b) (ho : W'.heap[b]? = some o) : SEnd (star (BoxA b o) P) H0 w W' := by
 refine h.trans fun H hp => ⟨fun k => k = b ∨ H k, ⟨fun k => k = b, H, ⟨ho, fun _ => Iff.rfl⟩, hP.kept W _ H hp hb.size fun k hk => hb.block k (hP.lt W H hp k hk), fun k hk hk' => ?_, fun _ => Iff.rfl⟩, Fr.of_below hb, fun k hk => ?_⟩
 ·have := hP.lt W H hp k hk'
  omega
 ·rcases hk with rfl | hk
  ·exact .inr hn
  ·exact .inl hk
theorem SEnd.fresh (hP : Owns P) (hQ : Owns Q) (h : SEnd P H0 w W) {HQ : Nat → Prop} (hb : Below W.heap.size W W') (hq : Q W' HQ) (hn : ∀ k, HQ k → W.heap.size ≤ k) : SEnd (star Q P) H0 w W' := by
 refine h.trans fun H hp => ⟨fun k => HQ k ∨ H k, ⟨HQ, H, hq, hP.kept W _ H hp hb.size fun k hk => hb.block k (hP.lt W H hp k hk), fun k hk hk' => ?_, fun _ => Iff.rfl⟩, Fr.of_below hb, fun k hk => ?_⟩
 ·have h1 := hP.lt W H hp k hk'
  have h2 := hn k hk
  omega
 ·rcases hk with hk | hk
  ·exact .inr (hn k hk)
  ·exact .inl hk
theorem emp_right (h : star P emp W H) : P W H := by
 obtain ⟨H1, H2, h1, h2, _, he⟩ := h
 have e : H = H1 := funext fun k => propext ((he k).trans ⟨fun h => h.elim id fun h => absurd h (h2 k), .inl⟩)
 rw [e]
 exact h1
theorem sEnd_emp (hb : Below w.heap.size w W) : SEnd emp (fun _ => False) w W := ⟨fun _ => False, fun _ h => h, Fr.of_below hb, fun _ h => h.elim⟩
theorem star_in2 {A B : Asn} (h : star A (star B P) W H) : star B (star A P) W H := star_swap h
theorem star_in3 {A B C : Asn} (h : star A (star B (star C P)) W H) : star C (star A (star B P)) W H := star_swap (star_mono (fun _ h => h) (fun _ h => star_swap h) h)
theorem star_in4 {A B C D : Asn} (h : star A (star B (star C (star D P))) W H) : star D (star A (star B (star C P))) W H := star_swap (star_mono (fun _ h => h) (fun _ h => star_in3 h) h)
theorem star_out3 {A B C : Asn} (h : star C (star A (star B P)) W H) : star A (star B (star C P)) W H := star_mono (fun _ h => h) (fun _ h => star_swap h) (star_swap h)
theorem star_out4 {A B C D : Asn} (h : star D (star A (star B (star C P))) W H) : star A (star B (star C (star D P))) W H := star_mono (fun _ h => h) (fun _ h => star_out3 h) (star_swap h)
theorem cov2 {A : Asn} {b : Nat} {o : Obj} {S : Nat → Prop} (h : ∀ W H2, A W H2 → ∀ k, S k → H2 k) : ∀ W H2, star (BoxA b o) A W H2 → ∀ k, (k = b ∨ S k) → H2 k := fun W H2 ⟨H3, H4, h1, h2, _, he⟩ k hk => (he k).2 (hk.elim (fun e => .inl ((h1.2 k).2 e)) fun e => .inr (h W H4 h2 k e))
theorem covl {A B : Asn} {S : Nat → Prop} (h : ∀ W H2, A W H2 → ∀ k, S k → H2 k) : ∀ W H2, star A B W H2 → ∀ k, S k → H2 k := fun W _ ⟨_, _, h1, _, _, he⟩ k hk => (he k).2 (.inl (h W _ h1 k hk))
theorem covr {A B : Asn} {S : Nat → Prop} (h : ∀ W H2, B W H2 → ∀ k, S k → H2 k) : ∀ W H2, star A B W H2 → ∀ k, S k → H2 k := fun W _ ⟨_, _, _, h2, _, he⟩ k hk => (he k).2 (.inr (h W _ h2 k hk))
theorem covb {b : Nat} {o : Obj} : ∀ W H2, BoxA b o W H2 → ∀ k, k = b → H2 k := fun _ _ h k hk => (h.2 k).2 hk
theorem cov1 {A : Asn} {b : Nat} {o : Obj} : ∀ W H2, star (BoxA b o) A W H2 → ∀ k, k = b → H2 k := fun W H2 ⟨H3, H4, h1, h2, _, he⟩ k hk => (he k).2 (.inl ((h1.2 k).2 hk))
end
end Go.Proofs.YtjbihgfdgaiecaaGreat

/- A region that draws its order, taken greedily (XGreedy), with operations that may turn anything (s): what only reads is taken ahead of them where they wait for it. -/
namespace Go.Proofs.YtjbihgfdgaiecaaGreat
open Go Go.RowKit
section
variable {P : Program} {ops : Array Oper} {md : Region.Mode} {G : Nat → World → World → Prop}
def opT (P : Program) (ops : Array Oper) (G : Nat → World → World → Prop) (i : Nat) (K : Act → World → Prop) (a : Act) (w : World) : Prop := opG P ops (G i) i K a w
def wpT (P : Program) (md : Region.Mode) (ops : Array Oper) (G : Nat → World → World → Prop) (Q : Act → World → Prop) : Nat → Array Bool → Act → World → Prop
 | 0, listed, a, w => Region.ready md ops listed = [] ∧ Q a w
 | fuel + 1, listed, a, w =>
  (Region.ready md ops listed = [] → Q a w) ∧
  ∀ i ∈ Region.ready md ops listed, opT P ops G i (wpT P md ops G Q fuel (listed.setIfInBounds i true)) a w
theorem wpAny_of_T {Q : Act → World → Prop} {Q' : Exit → Act → World → Prop} (hQ : ∀ a w, Q a w → Q' .normal a w) : ∀ (fuel : Nat) (listed : Array Bool) (a : Act) (w : World), wpT P md ops G Q fuel listed a w → wpAny P md ops Q' fuel listed a w
 | 0, _, _, _, h => ⟨h.1, hQ _ _ h.2⟩
 | fuel + 1, _, _, _, h => ⟨fun h0 => hQ _ _ (h.1 h0), fun i hi => wpOp_of_opG (fun a' w' => wpAny_of_T hQ fuel _ a' w') (h.2 i hi)⟩
theorem wpT_first {Q : Act → World → Prop} {i : Nat} {oi : Oper} {v : Value} {C : World → Prop} (D Done : List Nat)
  (hD : ∀ k ∈ D, ∃ o, ops[k]? = some o ∧ ∃ e ∈ o.after, Region.binds md e = true ∧ (e.on = i ∨ e.on ∈ D))
  (hC : ∀ j, j ∉ D → j ∉ Done → ∀ w w', C w → G j w w' → C w') (hrefl : ∀ j w, G j w w)
  (hi : ops[i]? = some oi) (hsel : ∀ (j : Nat) (o : Oper) cs b, ops[j]? = some o → o.op ≠ .select cs b) :
  ∀ (fuel : Nat) (listed : Array Bool) (a : Act) (w : World),
   (∀ j oj, ops[j]? = some oj → j ≠ i → listed.getD j true = false → (∀ e ∈ oj.after, Region.binds md e = true → e.on ≠ i) → oi.apart ops oj = true) →
   (∀ k ∈ D, listed.getD k false = false) → (∀ k ∈ Done, listed.getD k true = true) →
   i ∈ Region.ready md ops listed → C w → FixIn P ops C oi v a →
   wpT P md ops G Q fuel (listed.setIfInBounds i true) (a.put oi.dst v) w → wpT P md ops G Q (fuel + 1) listed a w := by
 intro fuel
 induction fuel with
 | zero =>
  intro listed a w _ _ _ hr hw hy H
  refine ⟨fun h => (by rw [h] at hr; cases hr), fun j hj => ?_⟩
  by_cases hji : j = i
  ·subst hji; exact hy.opG hi hw (hrefl j w) H
  ·have := ready_mono hj hji
   rw [H.1] at this
   cases this
 | succ fuel ih =>
  intro listed a w hfree hDu hDn hr hw hy H
  refine ⟨fun h => (by rw [h] at hr; cases hr), fun j hj => ?_⟩
  by_cases hji : j = i
  ·subst hji; exact hy.opG hi hw (hrefl j w) H
  ·have h1 := H.2 j (ready_mono hj hji)
   obtain ⟨hjun, oj, hoj, hall⟩ := mem_ready.1 hj
   have hiun : listed.getD i false = false := by
    have h0 := (mem_ready.1 hr).1
    rcases Nat.lt_or_ge i listed.size with h' | h'
    ·simp [h'] at h0 ⊢; exact h0
    ·simp [Array.getElem?_eq_none h']
   have hnot : ∀ e ∈ oj.after, Region.binds md e = true → e.on ≠ i := fun e he hb heq => by
    have h1 := hall e he hb
    rw [heq, hiun] at h1
    cases h1
   have hjD : j ∉ D := fun hjd => by
    obtain ⟨o, ho, e, he, hb, h2⟩ := hD j hjd
    rw [hoj] at ho
    obtain rfl := Option.some.inj ho
    rcases h2 with h2 | h2
    ·exact hnot e he hb h2
    ·have h3 := hall e he hb
     rw [hDu _ h2] at h3
     cases h3
   have hjn : j ∉ Done := fun h => by
    rw [hDn j h] at hjun
    cases hjun
   have h2 := opG_put (G := G j) (hrefl j w) hoj (hfree j oj hoj hji hjun hnot) (fun cs b => hsel i oi cs b hi) (fun cs b => hsel j oj cs b hoj) hy h1
   have hfree' : ∀ k ok, ops[k]? = some ok → k ≠ i → (listed.setIfInBounds j true).getD k true = false →
     (∀ e ∈ ok.after, Region.binds md e = true → e.on ≠ i) → oi.apart ops ok = true := fun k ok hk hki hun hno => by
    refine hfree k ok hk hki ?_ hno
    by_cases hjk : j = k
    ·subst hjk; exact hjun
    ·rw [getD_set_ne true hjk] at hun; exact hun
   have hDu' : ∀ k ∈ D, (listed.setIfInBounds j true).getD k false = false := fun k hk => by
    rw [getD_set_ne false (fun e => hjD (by rw [e]; exact hk))]
    exact hDu k hk
   have hDn' : ∀ k ∈ Done, (listed.setIfInBounds j true).getD k true = true := fun k hk => by
    rw [getD_set_ne true (fun e => hjn (by rw [e]; exact hk))]
    exact hDn k hk
   refine opG_mono (fun _ h => h) (fun a' w' h3 => ih (listed.setIfInBounds j true) a' w' hfree' hDu' hDn' (ready_mono hr (Ne.symm hji)) (hC j hjD hjn w w' hw h3.2.1) h3.1 ?_) h2
   rw [Array.setIfInBounds_comm _ _ hji]
   exact h3.2.2
def depsOf (md : Region.Mode) (ops : Array Oper) (i : Nat) : List Nat :=
 (List.range ops.size).foldl (fun acc k => match ops[k]? with | some o => if o.after.any (fun e => Region.binds md e && (e.on == i || acc.contains e.on)) then k :: acc else acc | none => acc) []
def depsB (md : Region.Mode) (ops : Array Oper) (i : Nat) (D : List Nat) : Bool :=
 D.all fun k => match ops[k]? with | some o => o.after.any (fun e => Region.binds md e && (e.on == i || D.contains e.on)) | none => false
theorem depsB_spec {i : Nat} {D : List Nat} (h : depsB md ops i D = true) : ∀ k ∈ D, ∃ o, ops[k]? = some o ∧ ∃ e ∈ o.after, Region.binds md e = true ∧ (e.on = i ∨ e.on ∈ D) := by
 intro k hk
 have h1 := List.all_eq_true.1 h k hk
 cases ho : ops[k]? with
 | none => rw [ho] at h1; simp at h1
 | some o =>
  rw [ho] at h1
  simp only [Array.any_eq_true', Bool.and_eq_true, Bool.or_eq_true, beq_iff_eq, List.contains_eq_mem, decide_eq_true_eq] at h1
  obtain ⟨e, he, hb, h2⟩ := h1
  exact ⟨o, rfl, e, he, hb, h2⟩
def takeB (md : Region.Mode) (ops : Array Oper) (s : List Nat) (i : Nat) (listed : Array Bool) : Bool :=
 (Region.ready md ops listed).contains i && Region.free md ops listed i && depsB md ops i (depsOf md ops i) && (depsOf md ops i).all (fun k => !listed.getD k false) && s.all (fun j => listed.getD j false || (depsOf md ops i).contains j)
def batchT (md : Region.Mode) (ops : Array Oper) (s : List Nat) : List Nat → Array Bool → Bool
 | [], _ => true
 | i :: r, listed => takeB md ops s i listed && ((ops[i]?).map noEnter).getD false && batchT md ops s r (listed.setIfInBounds i true)
def GS (s : List Nat) (S : Nat → Prop) (j : Nat) (W W' : World) : Prop := s.contains j = true ∨ GK S W W'
theorem take_first {s : List Nat} {S : Nat → Prop} {Q : Act → World → Prop} {i : Nat} {oi : Oper} {v : Value} {w0 : World} (hs : Region.noSelect ops = true) (hi : ops[i]? = some oi) {fuel : Nat} {listed : Array Bool} {a : Act} {w : World}
  (hB : takeB md ops s i listed = true) (hw : GK S w0 w) (hy : FixIn P ops (GK S w0) oi v a) (h : wpT P md ops (GS s S) Q fuel (listed.setIfInBounds i true) (a.put oi.dst v) w) : wpT P md ops (GS s S) Q (fuel + 1) listed a w := by
 simp only [takeB, Bool.and_eq_true] at hB
 obtain ⟨⟨⟨⟨hr, hf⟩, hd⟩, hu⟩, hss⟩ := hB
 refine wpT_first (C := GK S w0) (depsOf md ops i) (s.filter fun j => listed.getD j false) (depsB_spec hd) (fun j hj hn x y hx hxy => ?_) (fun j x => .inr (GK.refl S x)) hi (Region.noSelect_spec hs) fuel listed a w (Region.free_spec hi hf) (fun k hk => ?_) (fun k hk => ?_) (by simpa using hr) hw hy h
 ·rcases hxy with h1 | h1
  ·exfalso
   have hjs : j ∈ s := by simpa using h1
   have h2 := List.all_eq_true.1 hss j hjs
   rw [Bool.or_eq_true] at h2
   rcases h2 with h2 | h2
   ·exact hn (List.mem_filter.2 ⟨hjs, h2⟩)
   ·exact hj (by simpa using h2)
  ·exact GK.trans S _ _ _ hx h1
 ·have := List.all_eq_true.1 hu k hk
  simpa using this
 ·have h2 := (List.mem_filter.1 hk).2
  rcases Nat.lt_or_ge k listed.size with h' | h'
  ·simp [h'] at h2 ⊢; exact h2
  ·simp [Array.getElem?_eq_none h']
theorem wpT_batch {l : List Oper} {s : List Nat} {S : Nat → Prop} {Q : Act → World → Prop} {w : World} (hs : Region.noSelect l.toArray = true) : ∀ (idx : List Nat) (fuel : Nat) (listed : Array Bool) (a : Act),
  batchT md l.toArray s idx listed = true → wpQuiet P l.toArray (GK S w) (fun a' => wpT P md l.toArray (GS s S) Q fuel (markAll idx listed) a' w) (pickL l idx) a → wpT P md l.toArray (GS s S) Q (fuel + idx.length) listed a w
 | [], _, _, _, _, h => h
 | i :: r, fuel, listed, a, hB, h => by
  simp only [batchT, Bool.and_eq_true] at hB
  obtain ⟨⟨ht, hn⟩, hB'⟩ := hB
  obtain ⟨o, hi⟩ : ∃ o, l.toArray[i]? = some o := by
   cases ho : l.toArray[i]? with
   | none => rw [ho] at hn; simp at hn
   | some o => exact ⟨o, rfl⟩
  rw [hi] at hn
  have hn' : noEnter o = true := by simpa using hn
  rw [pickL, nthL_spec l i o (by simpa using hi), List.singleton_append] at h
  have hst : qOp P l.toArray (GK S w) i (wpQuiet P l.toArray (GK S w) (fun a' => wpT P md l.toArray (GS s S) Q fuel (markAll (i :: r) listed) a' w) (pickL l r)) a := by unfold qOp; simp only [hi]; exact h
  obtain ⟨v, hy, hK⟩ := yieldsIn_of_qOp hi hst
  have hfix : FixIn P l.toArray (GK S w) o v a := by
   rcases hy with ⟨hw, hq⟩ | ⟨hw, rfl⟩
   ·refine .inl ⟨hw, fun x hx => ?_⟩
    have h1 := hq x hx
    unfold Oper.quietAt at h1
    have hne := noEnter_spec (P := P) hn' a.eval x
    generalize (execOp a.eval o).run P x = res at *
    cases res with
    | ok n w' =>
     cases n <;> simp only [Oper.quietUpon] at h1
     case value u => obtain ⟨rfl, rfl⟩ := h1; exact .inl rfl
     case skip => obtain ⟨rfl, rfl⟩ := h1; exact .inr ⟨rfl, rfl⟩
     case enter f args => exact absurd rfl (hne f args w')
    | halt y w' => simp only [Oper.quietUpon] at h1
   ·exact .inr ⟨hw, rfl⟩
  exact take_first hs hi ht (GK.refl S w) hfix (wpT_batch hs r fuel _ _ hB' hK)
theorem wpT_one {Q : Act → World → Prop} {w : World} {fuel i : Nat} {listed : Array Bool} {a : Act} (hr : Region.ready md ops listed = [i]) {o : Oper} (hi : ops[i]? = some o) (hw : Region.wanted o (yielded ops a.tmps) = true)
  (h : uponG P (G i) o a w (wpT P md ops G Q fuel (listed.setIfInBounds i true)) ((execOp a.eval o).run P w)) : wpT P md ops G Q (fuel + 1) listed a w := by
 refine ⟨fun h0 => by (rw [h0] at hr; cases hr), fun j hj => ?_⟩
 rw [hr] at hj
 obtain rfl : j = i := by simpa using hj
 unfold opT opG
 simp only [hi, hw, if_true]
 exact h
theorem wpT_call {Q : Act → World → Prop} {w : World} {fuel i : Nat} {listed : Array Bool} {a : Act} (hr : Region.ready md ops listed = [i]) {o : Oper} (hi : ops[i]? = some o) (hw : Region.wanted o (yielded ops a.tmps) = true)
  {f : Nat} {xs : Array Operand} {ts : Array TypeId} (ho : o.op = .call { callee := .value (.func f), args := xs, argTypes := ts }) (eg : ∀ args w, (callFunc f args).run P w = .ok (.enter f args) w) {args : Array Value} (hargs : xs.map a.eval = args)
  {R : Value → World → Prop} (hc : Calls P f args w fun e w' => ∃ v, e = .returned v ∧ R v w') (hG : ∀ v w', R v w' → G i w w') {d : Option Tmp} (hd : o.dst = d)
  (h : ∀ v w', R v w' → wpT P md ops G Q fuel (listed.setIfInBounds i true) (a.put d v) w') : wpT P md ops G Q (fuel + 1) listed a w := by
 refine wpT_one hr hi hw ?_
 have : (execOp a.eval o).run P w = .ok (.enter f args) w := by
  simp [execOp, ho, resolve, invoke, Act.eval, Deferred.ofValue, eg, hargs, go_sem]
 rw [this]
 exact Calls.mono hc fun e w' ⟨v, he, hv⟩ => ⟨v, he, hG v w' hv, by rw [hd]; exact h v w' hv⟩
theorem wpT_call2 {Q : Act → World → Prop} {w : World} {fuel i : Nat} {listed : Array Bool} {a : Act} (hr : Region.ready md ops listed = [i]) {o : Oper} (hi : ops[i]? = some o) (hw : Region.wanted o (yielded ops a.tmps) = true) {f : Nat} {x y : Operand} {ts : Array TypeId} (ho : o.op = .call { callee := .value (.func f), args := #[x, y], argTypes := ts }) (eg : ∀ args w, (callFunc f args).run P w = .ok (.enter f args) w) {v0 v1 : Value} (hx : a.eval x = v0) (hy : a.eval y = v1)
  {R : Value → World → Prop} (hc : Calls P f #[v0, v1] w fun e w' => ∃ v, e = .returned v ∧ R v w') (hG : ∀ v w', R v w' → G i w w') {d : Option Tmp} (hd : o.dst = d)
  (h : ∀ v w', R v w' → wpT P md ops G Q fuel (listed.setIfInBounds i true) (a.put d v) w') : wpT P md ops G Q (fuel + 1) listed a w :=
 wpT_call hr hi hw ho eg (by simp [hx, hy]) hc hG hd h
theorem wpT_value {Q : Act → World → Prop} {w : World} {fuel i : Nat} {listed : Array Bool} {a : Act} (hr : Region.ready md ops listed = [i]) {o : Oper} (hi : ops[i]? = some o) (hw : Region.wanted o (yielded ops a.tmps) = true)
  {R : Value → World → Prop} (hrun : ∃ v w', (execOp a.eval o).run P w = .ok (.value v) w' ∧ R v w') (hG : ∀ v w', R v w' → G i w w') {d : Option Tmp} (hd : o.dst = d)
  (h : ∀ v w', R v w' → wpT P md ops G Q fuel (listed.setIfInBounds i true) (a.put d v) w') : wpT P md ops G Q (fuel + 1) listed a w := by
 refine wpT_one hr hi hw ?_
 obtain ⟨v, w', hrun, hR⟩ := hrun
 rw [hrun]
 exact ⟨hG v w' hR, by rw [hd]; exact h v w' hR⟩
theorem wpT_store {Q : Act → World → Prop} {w : World} {fuel i : Nat} {listed : Array Bool} {a : Act} (hr : Region.ready md ops listed = [i]) {o : Oper} (hi : ops[i]? = some o) (hw : Region.wanted o (yielded ops a.tmps) = true)
  {w' : World} (hrun : (execOp a.eval o).run P w = .ok .skip w') (hG : G i w w') (hd : o.dst = none)
  (h : wpT P md ops G Q fuel (listed.setIfInBounds i true) a w') : wpT P md ops G Q (fuel + 1) listed a w := by
 refine wpT_one hr hi hw ?_
 rw [hrun]
 exact ⟨hG, by rw [hd]; exact h⟩
theorem wpT_end {Q : Act → World → Prop} {w : World} {listed : Array Bool} {a : Act} (hr : Region.ready md ops listed = []) (h : Q a w) : wpT P md ops G Q 0 listed a w := ⟨hr, h⟩
theorem wp_region_taken {id : Nat} {l : List Oper} {Q : Exit → Act → World → Prop} {a : Act} {w : World} (s : List Nat) (S : Nat → Prop) (hm : P.follows .mixedOrders = true) {n : Nat} (hn : l.toArray.size = n) {fresh : Array Bool} (hl : Array.replicate n false = fresh)
  (h : wpT P .any l.toArray (GS s S) (fun a' w' => Q .normal a' w') n fresh a w.drew) : (Code.region id l.toArray true).wp P Q a w := by
 subst hn hl
 exact wp_region_any hm (wpAny_of_T (fun _ _ h => h) _ _ _ _ h)
end
theorem wpT_batchK {P : Program} {md : Region.Mode} {l : List Oper} {s : List Nat} {S : Nat → Prop} {Q : Act → World → Prop} {w : World} (idx : List Nat) (fuel : Nat) {n : Nat} (hn : fuel + idx.length = n) {listed : Array Bool} {a : Act} (hs : Region.noSelect l.toArray = true) (hB : batchT md l.toArray s idx listed = true) {lo : List Oper} (ho : pickL l idx = lo)
  (h : wpQuiet P l.toArray (fun w' => ∃ x : KeepS S w, w' = x.w) (fun a' => wpT P md l.toArray (GS s S) Q fuel (markAll idx listed) a' w) lo a) : wpT P md l.toArray (GS s S) Q n listed a w := by
 subst hn ho
 exact wpT_batch hs idx fuel listed a hB h
theorem GK.of_two {S : Nat → Prop} {w0 A B : World} (hA : Below w0.heap.size w0 A) (hB : Below w0.heap.size w0 B) (hs : A.heap.size ≤ B.heap.size) (hS : ∀ k, S k → k < w0.heap.size) : GK S A B :=
 ⟨⟨B, hB.os.trans hA.os.symm, hB.tape.trans hA.tape.symm, hB.output.trans hA.output.symm, hs, fun k hk => (hB.block k (hS k hk)).trans (hA.block k (hS k hk)).symm⟩, rfl⟩
theorem wpT_append {P : Program} {md : Region.Mode} {ops : Array Oper} {α : Type} {E : Elem P α} {s : List Nat} {S : Nat → Prop} {Q : Act → World → Prop} {w0 w : World} {fuel i : Nat} {listed : Array Bool} {a : Act} (hr : Region.ready md ops listed = [i]) {o : Oper} (hi : ops[i]? = some o) (hw : Region.wanted o (yielded ops a.tmps) = true)
  {x y : Operand} (ho : o.op = .call { callee := .builtin .append, args := #[x, y], argTypes := #[E.sl, E.sl] }) {v v2 : Value} {xs l2 : List α} (hx : a.eval x = v) (hy : a.eval y = v2) (hm : MadeE E w0 w v xs) (hs : SrcE E w v2 l2) (hb : (xs.length + l2.length) * E.bytes ≤ 140737488355328) (hS : ∀ k, S k → k < w0.heap.size) {d : Option Tmp} (hd : o.dst = d)
  (h : ∀ v' w', MadeE E w0 w' v' (xs ++ l2) → w.heap.size ≤ w'.heap.size → wpT P md ops (GS s S) Q fuel (listed.setIfInBounds i true) (a.put d v') w') : wpT P md ops (GS s S) Q (fuel + 1) listed a w := by
 obtain ⟨v', w', hrun, h2, h3⟩ := execE_append ho hx hy hm hs hb
 exact wpT_value hr hi hw ⟨v', w', hrun, And.intro h2 h3⟩ (R := fun v' w' => MadeE E w0 w' v' (xs ++ l2) ∧ w.heap.size ≤ w'.heap.size) (fun v' w' hh => .inr (GK.of_two hm.2 hh.1.2 hh.2 hS)) hd fun v' w' hh => h v' w' hh.1 hh.2
theorem opT_append {P : Program} {ops : Array Oper} {α : Type} {E : Elem P α} {s : List Nat} {S : Nat → Prop} {K : Act → World → Prop} {w0 w : World} {i : Nat} {a : Act} {o : Oper} (hi : ops[i]? = some o) (hw : Region.wanted o (yielded ops a.tmps) = true)
  {x y : Operand} (ho : o.op = .call { callee := .builtin .append, args := #[x, y], argTypes := #[E.sl, E.sl] }) {v v2 : Value} {xs l2 : List α} (hx : a.eval x = v) (hy : a.eval y = v2) (hm : MadeE E w0 w v xs) (hs : SrcE E w v2 l2) (hb : (xs.length + l2.length) * E.bytes ≤ 140737488355328) (hS : ∀ k, S k → k < w0.heap.size) {d : Option Tmp} (hd : o.dst = d)
  (h : ∀ v' w', MadeE E w0 w' v' (xs ++ l2) → w.heap.size ≤ w'.heap.size → K (a.put d v') w') : opT P ops (GS s S) i K a w := by
 obtain ⟨v', w', hrun, h2, h3⟩ := execE_append ho hx hy hm hs hb
 unfold opT opG
 simp only [hi, hw, if_true]
 rw [hrun]
 exact ⟨.inr (GK.of_two hm.2 h2.2 h3 hS), by rw [hd]; exact h v' w' h2 h3⟩
theorem opT_value {P : Program} {ops : Array Oper} {G : Nat → World → World → Prop} {K : Act → World → Prop} {w w' : World} {v : Value} {i : Nat} {a : Act} {o : Oper} (hi : ops[i]? = some o) (hw : Region.wanted o (yielded ops a.tmps) = true)
  (hrun : (execOp a.eval o).run P w = .ok (.value v) w') (hG : G i w w') {d : Option Tmp} (hd : o.dst = d) (h : K (a.put d v) w') : opT P ops G i K a w := by
 unfold opT opG
 simp only [hi, hw, if_true]
 rw [hrun]
 exact ⟨hG, by rw [hd]; exact h⟩
theorem wpT_two {P : Program} {md : Region.Mode} {ops : Array Oper} {G : Nat → World → World → Prop} {Q : Act → World → Prop} {w : World} {fuel i j : Nat} {listed : Array Bool} {a : Act} (hr : Region.ready md ops listed = [i, j])
  (h1 : opT P ops G i (wpT P md ops G Q fuel (listed.setIfInBounds i true)) a w) (h2 : opT P ops G j (wpT P md ops G Q fuel (listed.setIfInBounds j true)) a w) : wpT P md ops G Q (fuel + 1) listed a w := by
 refine ⟨fun h0 => by (rw [h0] at hr; cases hr), fun k hk => ?_⟩
 rw [hr] at hk
 rcases List.mem_cons.1 hk with rfl | hk
 ·exact h1
 ·obtain rfl : k = j := by simpa using hk
  exact h2
theorem wpT_just {P : Program} {md : Region.Mode} {ops : Array Oper} {G : Nat → World → World → Prop} {Q : Act → World → Prop} {w : World} {fuel i : Nat} {listed : Array Bool} {a : Act} (hr : Region.ready md ops listed = [i])
  (h1 : opT P ops G i (wpT P md ops G Q fuel (listed.setIfInBounds i true)) a w) : wpT P md ops G Q (fuel + 1) listed a w := by
 refine ⟨fun h0 => by (rw [h0] at hr; cases hr), fun k hk => ?_⟩
 rw [hr] at hk
 obtain rfl : k = i := by simpa using hk
 exact h1
end Go.Proofs.YtjbihgfdgaiecaaGreat

/- Calls of functions by their names, as steps of a region that draws its order. -/
namespace Go.Proofs.YtjbihgfdgaiecaaGreat
open Go Go.RowKit
theorem stp_call {P : Program} {W : World} {ops : Array Oper} {o : Oper} {a : Act} {K : Act → World → Prop} {Q : Exit → Act → World → Prop} {E : Prop} (hgd : o.guard = none) (f : Nat) (xs : Array Operand) (ts : Array TypeId)
  (ho : o.op = .call { callee := .value (.func f), args := xs, argTypes := ts }) (eg : ∀ args w, (callFunc f args).run P w = .ok (.enter f args) w) {args : Array Value} (hargs : xs.map a.eval = args)
  {R : Value → World → Prop} (hc : Calls P f args W fun e w' => ∃ v, e = .returned v ∧ R v w') (h : ∀ v w', R v w' → K (a.put o.dst v) w') : if Region.wanted o (yielded ops a.tmps) = true then Oper.wp P o a W K Q else E := by
 have hw : Region.wanted o (yielded ops a.tmps) = true := by simp [Region.wanted, hgd]
 rw [if_pos hw]
 unfold Oper.wp
 simp [execOp, ho, resolve, invoke, Act.eval, Deferred.ofValue, eg, hargs, go_sem]
 exact hc.mono fun e w' ⟨v, he, hr⟩ => by subst he; exact h v w' hr
theorem stp_call2 {P : Program} {W : World} {ops : Array Oper} {o : Oper} {a : Act} {K : Act → World → Prop} {Q : Exit → Act → World → Prop} {E : Prop} (hgd : o.guard = none) (f : Nat) (x y : Operand) (ts : Array TypeId)
  (ho : o.op = .call { callee := .value (.func f), args := #[x, y], argTypes := ts }) (eg : ∀ args w, (callFunc f args).run P w = .ok (.enter f args) w) {v0 v1 : Value} (hx : a.eval x = v0) (hy : a.eval y = v1)
  {R : Value → World → Prop} (hc : Calls P f #[v0, v1] W fun e w' => ∃ v, e = .returned v ∧ R v w') (h : ∀ v w', R v w' → K (a.put o.dst v) w') : if Region.wanted o (yielded ops a.tmps) = true then Oper.wp P o a W K Q else E :=
 stp_call hgd f #[x, y] ts ho eg (by simp [hx, hy]) hc h
end Go.Proofs.YtjbihgfdgaiecaaGreat

/- What was there before a call, kept as it is: the arguments are read from it at any later time. -/
namespace Go.Proofs.YtjbihgfdgaiecaaGreat
open Go Go.RowKit
def OldA (w : World) : Asn := fun W H => w.heap.size ≤ W.heap.size ∧ (∀ k, k < w.heap.size → W.heap[k]? = w.heap[k]?) ∧ ∀ k, H k ↔ k < w.heap.size
theorem oldA_owns (w : World) : Owns (OldA w) := ⟨fun _ _ h k hk => Nat.lt_of_lt_of_le ((h.2.2 k).1 hk) h.1, fun _ _ _ h hs hk => ⟨Nat.le_trans h.1 hs, fun k hl => (hk k ((h.2.2 k).2 hl)).trans (h.2.1 k hl), h.2.2⟩⟩
section
variable {P : Asn} {w W : World} {H : Nat → Prop}
theorem oldA_self (w : World) : OldA w w fun k => k < w.heap.size := ⟨Nat.le_refl _, fun _ _ => rfl, fun _ => .rfl⟩
theorem OldA.row {pr : Program} {α : Type} {E : Elem pr α} {v : Value} {l : List α} (h : OldA w W H) (hv : RowAt E w v l) : RowAt E W v l := hv.kept h.1 fun _ _ _ _ hl he => h.2.1 _ (hv.lt hl he)
theorem SEnd.noOld (h : SEnd (star (OldA w) P) (fun k => k < w.heap.size) w W) : SEnd P (fun _ => False) w W := by
 obtain ⟨H', ⟨H1, H2, ho, hp, ha, he⟩, hf, hn⟩ := h
 refine ⟨H2, hp, ⟨hf.os, hf.tape, hf.output, hf.size, fun k hk _ => ho.2.1 k hk⟩, fun k hk => .inr ?_⟩
 refine Nat.le_of_not_lt fun hlt => ha k ((ho.2.2 k).2 hlt) hk
theorem SEnd.ended (h : SEnd P (fun _ => False) w W) : Below w.heap.size w W := by
 obtain ⟨_, _, hf, _⟩ := h
 exact ⟨hf.os, hf.tape, hf.output, hf.size, fun k hk => hf.block k hk (fun h => h)⟩
end
end Go.Proofs.YtjbihgfdgaiecaaGreat
