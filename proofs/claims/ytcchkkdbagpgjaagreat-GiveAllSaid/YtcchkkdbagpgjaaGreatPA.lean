/- PA: Later, Sep, AppendAt, Greedy, Laid, Taken, Star, Sx, SxMem, SxLoop, SxRow, SxCut, SxStay, Old, Sq, SxRes, SxAny. -/
import Derived.WalkKit
import Derived.Handy
import Derived.BigQuiet
import Derived.Lib.Hide
import Derived.Sort.Grow
import Derived.Lib.ItoaMem
import Derived.Lib.SmallJoins
import Derived.RangeFuncNested
import Derived.Laws.OwnMore
import Derived.Deep.RegionLaw
import Derived.Laws.AppendOwn
import Derived.Laws.AppendOwnNone
import Derived.OwnWalk
import Derived.OneCell
import Derived.Laws.Rows
namespace Go.Proofs.YtcchkkdbagpgjaaGreat
open Go Go.RowKit

/-- A world in which nothing has turned that was there in W: new blocks, draws. -/
structure Later (W : World) where
  w : World
  below : Below W.heap.size W w

instance {W : World} : Nonempty (Later W) := ⟨⟨W, Below.refl _ _⟩⟩
theorem Later.ex {W w' : World} (h : Below W.heap.size W w') : ∃ x : Later W, w' = x.w := ⟨⟨w', h⟩, rfl⟩
theorem below_drewN {B : Nat} {a w : World} (h : Below B a w) (n : Nat) : Below B a (w.drewN n) := ⟨h.os, h.tape, h.output, h.size, h.block⟩

theorem below_later {B : Nat} {a w : World} (h : Below B a w) (hB : B ≤ w.heap.size) (x : Later w) : Below B a x.w := h.trans (x.below.mono hB)
theorem ext_refl (a : World) : Below a.heap.size a a := Below.refl _ _
theorem ext_alloc {a w : World} (h : Below a.heap.size a w) (o : Obj) : Below a.heap.size a (w.alloc o) := h.alloc h.size o
theorem ext_drew {a w : World} (h : Below a.heap.size a w) : Below a.heap.size a w.drew := h.drew
theorem ext_drewN {a w : World} (h : Below a.heap.size a w) (n : Nat) : Below a.heap.size a (w.drewN n) := below_drewN h n
theorem ext_later {a w : World} (h : Below a.heap.size a w) (x : Later w) : Below a.heap.size a x.w := below_later h h.size x
/-- A call that hands back v and makes new memory alone. -/
def Gives (P : Program) (f : FuncId) (args : Array Value) (w : World) (v : Value) : Prop := Calls P f args w fun e w' => e = .returned v ∧ ∃ x : Later w, w' = x.w

theorem Gives.mono' {P : Program} {f : FuncId} {args : Array Value} {w : World} {v : Value} (h : Gives P f args w v) {Q : Ending → World → Prop} (hQ : ∀ x : Later w, Q (.returned v) x.w) : Calls P f args w Q :=
  Calls.mono h fun _ _ ⟨he, x, hx⟩ => by rw [he, hx]; exact hQ x
/-- The same at a world that is later than W already: behind the call it is later than W again (so worlds do not nest). -/
theorem Gives.on {P : Program} {f : FuncId} {args : Array Value} {W : World} {y : Later W} {v : Value} (h : Gives P f args y.w v) {Q : Ending → World → Prop} (hQ : ∀ x : Later W, Q (.returned v) x.w) : Calls P f args y.w Q :=
  Calls.mono h fun _ _ ⟨he, x, hx⟩ => by rw [he, hx]; exact hQ ⟨x.w, y.below.trans (x.below.mono y.below.size)⟩
end Go.Proofs.YtcchkkdbagpgjaaGreat
namespace Go.Proofs.YtcchkkdbagpgjaaGreat
open Go Go.RowKit

/-- From W to W' nothing has turned but blocks of F, and new ones. -/
structure Fr (F : Nat → Prop) (W W' : World) : Prop where
  os : W'.os = W.os
  tape : W'.tape = W.tape
  output : W'.output = W.output
  size : W.heap.size ≤ W'.heap.size
  block : ∀ k, k < W.heap.size → ¬ F k → W'.heap[k]? = W.heap[k]?
theorem Fr.refl (F : Nat → Prop) (W : World) : Fr F W W := ⟨rfl, rfl, rfl, Nat.le_refl _, fun _ _ _ => rfl⟩
theorem Fr.trans {F G : Nat → Prop} {A B C : World} (h : Fr F A B) (k : Fr G B C) (hg : ∀ j, G j → F j ∨ A.heap.size ≤ j) : Fr F A C :=
  ⟨k.os.trans h.os, k.tape.trans h.tape, k.output.trans h.output, Nat.le_trans h.size k.size, fun j hj hn => (k.block j (Nat.lt_of_lt_of_le hj h.size) (fun e => by rcases hg j e with h1 | h1 <;> first | exact hn h1 | omega)).trans (h.block j hj hn)⟩
theorem Fr.of_below {F : Nat → Prop} {W W' : World} (h : Below W.heap.size W W') : Fr F W W' := ⟨h.os, h.tape, h.output, h.size, fun k hk _ => h.block k hk⟩
theorem Fr.of_grownBy {F : Nat → Prop} {W W' : World} {row : Option Nat} (h : W.grownBy W' row) (hr : ∀ j, row = some j → F j ∨ W.heap.size ≤ j) : Fr F W W' :=
  ⟨h.os, h.tape, h.output, h.size, fun k hk hn => h.block k hk (fun e => by rcases hr k e.symm with h1 | h1 <;> first | exact hn h1 | omega)⟩
/-- An object's blocks: they are there, and what they hold says all of it. -/
structure Owns (P : World → (Nat → Prop) → Prop) : Prop where
  lt : ∀ W F, P W F → ∀ k, F k → k < W.heap.size
  kept : ∀ W W' F, P W F → W.heap.size ≤ W'.heap.size → (∀ k, F k → W'.heap[k]? = W.heap[k]?) → P W' F
def Apart (F G : Nat → Prop) : Prop := ∀ k, F k → ¬ G k
theorem Owns.stays {P : World → (Nat → Prop) → Prop} (hP : Owns P) {W W' : World} {F G : Nat → Prop} (h : P W F) (hf : Fr G W W') (ha : Apart F G) : P W' F :=
  hP.kept W W' F h hf.size fun k hk => hf.block k (hP.lt W F h k hk) (ha k hk)
/-- What has grown stays apart from what was there. -/
theorem apart_grown {F G G' : Nat → Prop} {W : World} (ha : Apart F G) (hlt : ∀ k, F k → k < W.heap.size) (hg : ∀ k, G' k → G k ∨ W.heap.size ≤ k) : Apart F G' := fun k hk hk' => by
  rcases hg k hk' with h | h
  · exact ha k hk h
  · have := hlt k hk; omega
end Go.Proofs.YtcchkkdbagpgjaaGreat
namespace Go.Proofs.YtcchkkdbagpgjaaGreat
open Go Go.RowKit

theorem run_append_where {P : Program} (w : World) (t ty e : TypeId) (i : TypeInfo) (z : Value) (size bytes : Nat) (ht : P.underlying t = some (.slice e)) (hi : P.info? e = some i) (hz : i.zero = some z)
    (hsize : i.size = size) (hby : i.bytes = bytes) (hzs : z.cells.size = size) (hsz : 0 < size)
    (v : Value) (n : Nat) (xs : List Value) (hown : w.ownsRow 0 e size v n xs)
    (a : Addr) (m c : Nat) (news : List Value) (hl : news.length = m * size) (hnews : ∀ j u, news[j]? = some u → w.cell? (a.add j) = some u) (h1 : ∀ u ∈ news, u.oneCell' = true)
    (h63 : n + m ≤ maxLen) (hbytes : (n + m) * bytes ≤ 140737488355328) :
    ∃ v' w', (Builtin.append_ #[t, t] ty #[v, .slice (some a) m c]).run P w = .ok v' w' ∧ w'.ownsRow 0 e size v' (n + m) (xs ++ news) ∧ w.grownBy w' v.ownBlock ∧ ∀ g, v'.ownBlock = some g → v.ownBlock = some g ∨ w.heap.size ≤ g := by
  have weaken : ∀ {W : World} {b : Nat} {u : Value} {k : Nat} {ys : List Value}, W.ownsRow b e size u k ys → W.ownsRow 0 e size u k ys := fun h => by
    refine ⟨h.1, ?_⟩
    rcases h.2 with h2 | ⟨g, cap, cur, hv, _, rest⟩
    · exact .inl h2
    · exact .inr ⟨g, cap, cur, hv, Nat.zero_le _, rest⟩
  rcases hown.2 with ⟨rfl, rfl⟩ | ⟨g, cap, cur, rfl, hbg, hg, hnc, hcm, hcs, htake⟩
  · have hx : xs = [] := List.eq_nil_of_length_eq_zero (by simpa using hown.1)
    subst hx
    obtain ⟨v', w', hr, ho, hgr, _⟩ := run_append_own (P := P) w w.heap.size t ty e i z size bytes ht hi hz hsize hby hzs hsz (.slice none 0 0) 0 [] (World.ownsRow_nil _ _ _ _) a m c news hl hnews h1 h63 hbytes (Nat.le_refl _)
    exact ⟨v', w', hr, weaken ho, hgr, fun g hg => .inr (ho.lt g hg).1⟩
  · by_cases hroom : n + m ≤ cap
    · obtain ⟨w', hr, ho, hgr⟩ := run_append_fits (P := P) (w := w) 0 t ty e i size ht hi hsize g n cap xs hown a m c news hl hnews h1 hroom
      exact ⟨_, w', hr, ho, hgr, fun g' hg' => .inl (by simpa [Value.ownBlock] using hg')⟩
    · subst hsize
      subst hby
      have holds : ∀ j u, xs[j]? = some u → w.cell? ((⟨g, 0, none⟩ : Addr).add j) = some u := hown.cells (g := g) rfl
      have hsmall : n + m ≤ 9223372036854775807 := by simp only [maxLen] at h63; omega
      have hr := run_append_grow (P := P) w t ty e i z ht hi hz ⟨g, 0, none⟩ n cap xs hown.1 holds a m c news hl hnews (by omega) (by omega) (growslice_fits (by omega) hbytes)
      have hge := grownCap_ge w (n + m) cap e
      have hcm' := grownCap_le_maxLen w (n + m) cap e h63
      have hlen : (xs ++ news).length = (n + m) * i.size := by rw [List.length_append, hown.1, hl, Nat.add_mul]
      refine ⟨_, _, hr, ⟨hlen, .inr ⟨w.heap.size, _, _, rfl, Nat.zero_le _, heap_alloc_new w.drew _, hge, hcm', ?_, ?_⟩⟩, ⟨rfl, rfl, rfl, by simp, fun k hk _ => Below.heap_alloc _ _ _ hk⟩, fun g' hg' => .inr (by simp [Value.ownBlock] at hg'; omega)⟩
      · simp only [Array.size_append, List.size_toArray, size_zeroCells, hzs, hown.1, hl, ← Nat.add_mul]
        congr 1
        omega
      · simp only [Array.toList_append, List.append_assoc]
        rw [← List.append_assoc, ← hlen]
        exact List.take_left

end Go.Proofs.YtcchkkdbagpgjaaGreat
namespace Go.Proofs.YtcchkkdbagpgjaaGreat
open Go Go.RowKit

section
variable {P : Program} {ops : Array Oper} {md : Region.Mode} {G : World → World → Prop}

/-- One operation's outcome, the world going on by G. -/
def uponG (P : Program) (G : World → World → Prop) (o : Oper) (a : Act) (w0 : World) (K : Act → World → Prop) : Result Next → Prop
  | .ok (.value u) w' => G w0 w' ∧ K (a.put o.dst u) w'
  | .ok .skip w' => G w0 w' ∧ K (a.put o.dst undef) w'
  | .ok (.enter f args) w' => Calls P f args w' fun e w'' => ∃ v, e = .returned v ∧ G w0 w'' ∧ K (a.put o.dst v) w''
  | _ => False
def opG (P : Program) (ops : Array Oper) (G : World → World → Prop) (i : Nat) (K : Act → World → Prop) (a : Act) (w : World) : Prop :=
  match ops[i]? with
  | none => K a w
  | some o => if Region.wanted o (yielded ops a.tmps) then uponG P G o a w K ((execOp a.eval o).run P w) else K (a.put o.dst undef) w
def wpAnyG (P : Program) (md : Region.Mode) (ops : Array Oper) (G : World → World → Prop) (Q : Act → World → Prop) : Nat → Array Bool → Act → World → Prop
  | 0, listed, a, w => Region.ready md ops listed = [] ∧ Q a w
  | fuel + 1, listed, a, w =>
    (Region.ready md ops listed = [] → Q a w) ∧
    ∀ i ∈ Region.ready md ops listed, opG P ops G i (wpAnyG P md ops G Q fuel (listed.setIfInBounds i true)) a w

theorem wp_of_uponG {o : Oper} {a : Act} {w : World} {K : Act → World → Prop} {K' : Act → World → Prop} {Q' : Exit → Act → World → Prop} (h : ∀ a w, K a w → K' a w) (hh : uponG P G o a w K ((execOp a.eval o).run P w)) : o.wp P a w K' Q' := by
  unfold Oper.wp
  generalize (execOp a.eval o).run P w = r at *
  cases r with
  | ok n w' =>
    cases n <;> simp only [uponG] at hh <;> simp only [Oper.upon]
    case value u => exact h _ _ hh.2
    case skip => exact h _ _ hh.2
    case enter f args => exact Calls.mono hh fun e w'' ⟨v, he, _, hk⟩ => by subst he; exact h _ _ hk
  | halt x w' => simp only [uponG] at hh
theorem wpOp_of_opG {i : Nat} {a : Act} {w : World} {K K' : Act → World → Prop} {Q' : Exit → Act → World → Prop} (h : ∀ a w, K a w → K' a w) (hh : opG P ops G i K a w) : wpOp P ops Q' i K' a w := by
  unfold opG at hh
  unfold wpOp
  split
  · rename_i ho; simp only [ho] at hh; exact h _ _ hh
  · rename_i o ho
    simp only [ho] at hh
    split
    · rename_i hw; simp only [hw, if_true] at hh; exact .inl (wp_of_uponG h hh)
    · rename_i hw; simp only [hw] at hh; exact h _ _ hh
theorem uponG_mono {G' : World → World → Prop} {o : Oper} {a : Act} {w : World} {K K' : Act → World → Prop} {r : Result Next} (hG : ∀ x, G w x → G' w x) (h : ∀ a w, K a w → K' a w) (hh : uponG P G o a w K r) : uponG P G' o a w K' r := by
  cases r with
  | ok n w' =>
    cases n <;> simp only [uponG] at hh ⊢
    case value u => exact ⟨hG _ hh.1, h _ _ hh.2⟩
    case skip => exact ⟨hG _ hh.1, h _ _ hh.2⟩
    case enter f args => exact Calls.mono hh fun e w'' ⟨v, he, hg, hk⟩ => ⟨v, he, hG _ hg, h _ _ hk⟩
  | halt x w' => simp only [uponG] at hh
theorem opG_mono {G' : World → World → Prop} {i : Nat} {a : Act} {w : World} {K K' : Act → World → Prop} (hG : ∀ x, G w x → G' w x) (h : ∀ a w, K a w → K' a w) (hh : opG P ops G i K a w) : opG P ops G' i K' a w := by
  unfold opG at *
  split
  · exact h _ _ (by simpa [*] using hh)
  · rename_i o ho
    simp only [ho] at hh
    split
    · rename_i hw; simp only [hw, if_true] at hh; exact uponG_mono hG h hh
    · rename_i hw; simp only [hw] at hh; exact h _ _ hh
/-- What an operation that only reads yields, in every world of the class. -/
def FixIn (P : Program) (ops : Array Oper) (C : World → Prop) (o : Oper) (v : Value) (a : Act) : Prop :=
  (Region.wanted o (yielded ops a.tmps) = true ∧ ∀ w, C w → ((execOp a.eval o).run P w = .ok (.value v) w ∨ ((execOp a.eval o).run P w = .ok .skip w ∧ v = undef))) ∨
  (Region.wanted o (yielded ops a.tmps) = false ∧ v = undef)
theorem FixIn.of_same {C : World → Prop} {o : Oper} {v : Value} {a a' : Act} (hy : FixIn P ops C o v a) (he : execOp a'.eval o = execOp a.eval o)
    (hw : Region.wanted o (yielded ops a'.tmps) = Region.wanted o (yielded ops a.tmps)) : FixIn P ops C o v a' := by
  unfold FixIn at *
  rw [he, hw]
  exact hy
theorem FixIn.opG {C : World → Prop} {i : Nat} {o : Oper} {v : Value} {a : Act} {w : World} (hi : ops[i]? = some o) (hy : FixIn P ops C o v a) (hw : C w) (hr : G w w) {K : Act → World → Prop} (h : K (a.put o.dst v) w) : opG P ops G i K a w := by
  unfold YtcchkkdbagpgjaaGreat.opG
  simp only [hi]
  rcases hy with ⟨hw1, hv⟩ | ⟨hw1, rfl⟩
  · simp only [hw1, if_true]
    rcases hv w hw with h1 | ⟨h1, rfl⟩
    · rw [h1]; exact ⟨hr, h⟩
    · rw [h1]; exact ⟨hr, h⟩
  · simp only [hw1, Bool.false_eq_true, if_false]; exact h
theorem opG_put {C : World → Prop} {j : Nat} {oi oj : Oper} {v : Value} {w : World} (hrefl : G w w) (hj : ops[j]? = some oj) (hap : oi.apart ops oj = true)
    (hsi : ∀ cs b, oi.op ≠ .select cs b) (hsj : ∀ cs b, oj.op ≠ .select cs b) {K : Act → World → Prop} {a : Act}
    (hy : FixIn P ops C oi v a) (h : opG P ops G j K (a.put oi.dst v) w) :
    opG P ops G j (fun a' w' => FixIn P ops C oi v a' ∧ G w w' ∧ K (a'.put oi.dst v) w') a w := by
  obtain ⟨h1, h2, h3⟩ := Oper.apart_spec hap
  have keep : ∀ (a : Act), FixIn P ops C oi v a → ∀ u, FixIn P ops C oi v (a.put oj.dst u) := fun a hy u =>
    hy.of_same (execOp_put oi hsi a oj.dst u h3) (wanted_put oi a oj.dst u h3)
  unfold opG at *
  simp only [hj] at *
  rw [wanted_put oj a oi.dst v h1] at h
  split
  · rename_i hw
    simp only [hw, if_true] at h
    rw [execOp_put oj hsj a oi.dst v h1] at h
    generalize (execOp a.eval oj).run P w = r at *
    cases r with
    | ok n w' =>
      cases n <;> simp only [uponG] at h ⊢
      case value u => exact ⟨h.1, keep a hy u, h.1, by rw [← Act.put_comm a v u h2]; exact h.2⟩
      case skip => exact ⟨h.1, keep a hy _, h.1, by rw [← Act.put_comm a v undef h2]; exact h.2⟩
      case enter f args => exact Calls.mono h fun e w'' ⟨u, he, hg, hk⟩ => ⟨u, he, hg, keep a hy u, hg, by rw [← Act.put_comm a v u h2]; exact hk⟩
    | halt x w' => simp only [uponG] at h
  · rename_i hw
    simp only [hw] at h
    exact ⟨keep a hy _, hrefl, by rw [← Act.put_comm a v undef h2]; exact h⟩
/-- No call of a function with a text of its own. -/
def noEnter (o : Oper) : Bool :=
  match o.op with
  | .call { callee := .builtin .len, .. } | .call { callee := .builtin .cap, .. } | .call { callee := .builtin .min, .. } | .call { callee := .builtin .max, .. } => true
  | .move _ | .assign _ | .pick .. | .build .. | .load .. | .nilCheck _ | .binOp .. | .unOp .. | .convert .. | .slice .. | .fieldAddr .. | .field .. | .indexAddr .. | .index .. | .makeInterface .. | .extract .. => true
  | _ => false
theorem value_ne (s : Sem Value) (w : World) (f : FuncId) (args : Array Value) (w' : World) : ((do let x ← s; pure (Next.value x)) : Sem Next).run P w ≠ .ok (.enter f args) w' := by
  simp only [Sem.run_bind, Sem.run_pure]
  cases s.run P w with
  | ok v w1 => simp [Result.andThen]
  | halt x w1 => simp [Result.andThen]
theorem noEnter_spec {o : Oper} (h : noEnter o = true) (ρ : Operand → Value) (w : World) (f : FuncId) (args : Array Value) (w' : World) : (execOp ρ o).run P w ≠ .ok (.enter f args) w' := by
  obtain ⟨dst, op, type, pos, after, guard⟩ := o
  cases op
  case call c =>
    obtain ⟨callee, xs, ts⟩ := c
    cases callee with
    | builtin b =>
      cases b <;> first | (exfalso; simp [noEnter] at h; done) | (simp only [execOp, resolve, invoke, builtin, Sem.run_bind, Sem.run_pure, Result.andThen_ok]; generalize Sem.run P _ w = r; cases r <;> simp [Result.andThen]; done)
    | invoke _ _ => simp [noEnter] at h
    | value _ => simp [noEnter] at h
  case nilCheck x =>
    simp only [execOp]
    split
    all_goals first | (simp [runtimePanic]; done) | skip
    split
    · simp [runtimePanic]
    · simp only [Sem.run_bind]
      generalize Sem.run P program w = r0
      cases r0 with
      | halt x w1 => simp [Result.andThen]
      | ok v w1 =>
        simp only [Result.andThen]
        generalize Sem.run P (nilAhead _ _ _ _) w1 = r1
        cases r1 with
        | halt x w1 => simp
        | ok v w1 =>
          dsimp only
          split
          · simp [unsupported, Result.andThen]
          · simp
    · simp
  case pick c a b =>
    simp only [execOp, Sem.run_bind, Sem.run_pure]
    cases (asBool (ρ c)).run P w with
    | ok v w1 => simp [Result.andThen]
    | halt x w1 => simp [Result.andThen]
  all_goals first | (exfalso; simp [noEnter] at h; done) | (simp only [execOp]; exact value_ne _ _ _ _ _) | (simp [execOp]; done)

def nthL : List Oper → Nat → List Oper
  | [], _ => []
  | o :: _, 0 => [o]
  | _ :: r, n + 1 => nthL r n
def pickL (l : List Oper) : List Nat → List Oper
  | [] => []
  | i :: r => nthL l i ++ pickL l r
theorem nthL_spec : ∀ (l : List Oper) (i : Nat) (o : Oper), l[i]? = some o → nthL l i = [o]
  | [], _, _, h => by simp at h
  | _ :: _, 0, _, h => by simp at h; simp [nthL, h]
  | _ :: r, n + 1, o, h => by rw [nthL]; exact nthL_spec r n o (by simpa using h)
/-- The one operation that may come up is a call: by its contract. -/
theorem wpAnyG_call {Q : Act → World → Prop} {w : World} {fuel i : Nat} {listed : Array Bool} {a : Act} (hr : Region.ready md ops listed = [i]) {o : Oper} (hi : ops[i]? = some o) (hw : Region.wanted o (yielded ops a.tmps) = true)
    {f : Nat} {xs : Array Operand} {ts : Array TypeId} (ho : o.op = .call { callee := .value (.func f), args := xs, argTypes := ts }) (eg : ∀ args w, (callFunc f args).run P w = .ok (.enter f args) w) {args : Array Value} (hargs : xs.map a.eval = args)
    {R : Value → World → Prop} (hc : Calls P f args w fun e w' => ∃ v, e = .returned v ∧ R v w') (hG : ∀ v w', R v w' → G w w') {d : Option Tmp} (hd : o.dst = d)
    (h : ∀ v w', R v w' → wpAnyG P md ops G Q fuel (listed.setIfInBounds i true) (a.put d v) w') : wpAnyG P md ops G Q (fuel + 1) listed a w := by
  refine ⟨fun h0 => by (rw [h0] at hr; cases hr), fun j hj => ?_⟩
  rw [hr] at hj
  obtain rfl : j = i := by simpa using hj
  unfold opG
  simp only [hi, hw, if_true]
  have : (execOp a.eval o).run P w = .ok (.enter f args) w := by
    simp [execOp, ho, resolve, invoke, Act.eval, Deferred.ofValue, eg, hargs, go_sem]
  rw [this]
  exact Calls.mono hc fun e w' ⟨v, he, hv⟩ => ⟨v, he, hG v w' hv, by rw [hd]; exact h v w' hv⟩
end

/-- A world in which the blocks of S are as they were. -/
structure KeepS (S : Nat → Prop) (W : World) where
  w : World
  os : w.os = W.os
  tape : w.tape = W.tape
  output : w.output = W.output
  size : W.heap.size ≤ w.heap.size
  block : ∀ k, S k → w.heap[k]? = W.heap[k]?
def GK (S : Nat → Prop) (W : World) : World → Prop := fun w' => ∃ x : KeepS S W, w' = x.w
instance {S : Nat → Prop} {W : World} : Nonempty (KeepS S W) := ⟨⟨W, rfl, rfl, rfl, Nat.le_refl _, fun _ _ => rfl⟩⟩
theorem GK.refl (S : Nat → Prop) (W : World) : GK S W W := ⟨⟨W, rfl, rfl, rfl, Nat.le_refl _, fun _ _ => rfl⟩, rfl⟩
theorem GK.trans (S : Nat → Prop) (A B C : World) (h : GK S A B) (k : GK S B C) : GK S A C := by
  obtain ⟨x, rfl⟩ := h
  obtain ⟨y, rfl⟩ := k
  exact ⟨⟨y.w, y.os.trans x.os, y.tape.trans x.tape, y.output.trans x.output, Nat.le_trans x.size y.size, fun k hk => (y.block k hk).trans (x.block k hk)⟩, rfl⟩
theorem GK.of_fr {S F : Nat → Prop} {A B : World} (h : Fr F A B) (hS : ∀ k, S k → k < A.heap.size ∧ ¬ F k) : GK S A B := ⟨⟨B, h.os, h.tape, h.output, h.size, fun k hk => h.block k (hS k hk).1 (hS k hk).2⟩, rfl⟩
theorem GK.of_below {S : Nat → Prop} {A B : World} (h : Below A.heap.size A B) (hS : ∀ k, S k → k < A.heap.size) : GK S A B := ⟨⟨B, h.os, h.tape, h.output, h.size, fun k hk => h.block k (hS k hk)⟩, rfl⟩
theorem GK.block {S : Nat → Prop} {A B : World} (h : GK S A B) {k : Nat} (hk : S k) : B.heap[k]? = A.heap[k]? := by obtain ⟨x, rfl⟩ := h; exact x.block k hk
@[simp, go_sem] theorem KeepS.cell {S : Nat → Prop} {W : World} (x : KeepS S W) (a : Addr) (h : S a.block) : x.w.cell? a = W.cell? a := by
  have := x.block _ h
  simp only [World.cell?, this]
end Go.Proofs.YtcchkkdbagpgjaaGreat
namespace Go.Proofs.YtcchkkdbagpgjaaGreat
open Go Go.RowKit

/-- How an element of a slice lies in memory. -/
structure Elem (P : Program) (α : Type) where
  enc : α → List Value
  k : Nat
  pos : 0 < k
  len : ∀ x, (enc x).length = k
  one : ∀ x, ∀ u ∈ enc x, u.oneCell' = true
  t : TypeId
  sl : TypeId
  under : P.underlying sl = some (.slice t)
  z : Value
  bytes : Nat
  bpos : 0 < bytes
  info : (P.info? t).map (fun i => (i.zero, i.size, i.bytes)) = some (some z, k, bytes)
  zs : z.cells.size = k

section
variable {P : Program} {α : Type} (E : Elem P α)
def Elem.cells (l : List α) : List Value := l.flatMap E.enc
theorem Elem.cells_cons (x : α) (l : List α) : E.cells (x :: l) = E.enc x ++ E.cells l := rfl
theorem Elem.cells_len : ∀ l : List α, (E.cells l).length = l.length * E.k
  | [] => by simp [Elem.cells]
  | x :: l => by rw [Elem.cells_cons, List.length_append, E.len, Elem.cells_len l, List.length_cons, Nat.add_mul]; omega
theorem Elem.cells_append (l m : List α) : E.cells (l ++ m) = E.cells l ++ E.cells m := by simp [Elem.cells]
theorem Elem.cells_at : ∀ (l : List α) (i : Nat) (x : α) (j : Nat) (u : Value), l[i]? = some x → (E.enc x)[j]? = some u → (E.cells l)[i * E.k + j]? = some u
  | [], _, _, _, _, h, _ => by simp at h
  | y :: l, 0, x, j, u, h, hu => by
    obtain rfl : y = x := by simpa using h
    have hj := (List.getElem?_eq_some_iff.1 hu).1
    rw [Elem.cells_cons, Nat.zero_mul, Nat.zero_add, List.getElem?_append_left hj]
    exact hu
  | y :: l, i + 1, x, j, u, h, hu => by
    rw [Elem.cells_cons, List.getElem?_append_right (by rw [E.len, Nat.add_mul]; omega), E.len, show (i + 1) * E.k + j - E.k = i * E.k + j from by rw [Nat.add_mul]; omega]
    exact Elem.cells_at l i x j u (by simpa using h) hu
theorem Elem.cells_inv (l : List α) (p : Nat) (u : Value) (h : (E.cells l)[p]? = some u) : ∃ i j x, p = i * E.k + j ∧ l[i]? = some x ∧ (E.enc x)[j]? = some u := by
  have hp := (List.getElem?_eq_some_iff.1 h).1
  rw [Elem.cells_len] at hp
  have hi : p / E.k < l.length := Nat.div_lt_of_lt_mul (by rw [Nat.mul_comm]; exact hp)
  have hj := Nat.mod_lt p E.pos
  obtain ⟨x, hx⟩ : ∃ x, l[p / E.k]? = some x := ⟨_, List.getElem?_eq_getElem hi⟩
  obtain ⟨v, hv⟩ : ∃ v, (E.enc x)[p % E.k]? = some v := ⟨_, List.getElem?_eq_getElem (by rw [E.len]; exact hj)⟩
  have he : p = p / E.k * E.k + p % E.k := by rw [Nat.mul_comm]; exact (Nat.div_add_mod p E.k).symm
  have h2 := E.cells_at l (p / E.k) x (p % E.k) v hx hv
  rw [← he, h] at h2
  obtain rfl := Option.some.inj h2
  exact ⟨_, _, x, he, hx, hv⟩
theorem Elem.cells_one (l : List α) : ∀ u ∈ E.cells l, u.oneCell' = true := by
  intro u hu
  unfold Elem.cells at hu
  rw [List.mem_flatMap] at hu
  obtain ⟨x, _, hx⟩ := hu
  exact E.one x u hx

theorem addr_off (b o i : Nat) : (⟨b, o, none⟩ : Addr).add i = ⟨b, o + i, none⟩ := by unfold Addr.add; split <;> simp_all
/-- A slice: its list. -/
def RowAt (W : World) (v : Value) (l : List α) : Prop :=
  (l = [] ∧ ∃ p cap, v = .slice p 0 cap) ∨ ∃ b o cap, v = .slice (some ⟨b, o, none⟩) l.length cap ∧ b < W.heap.size ∧ ∀ i x, l[i]? = some x → ∀ j u, (E.enc x)[j]? = some u → W.cell? ⟨b, o + i * E.k + j, none⟩ = some u
/-- With its capacity. -/
def SrcE (W : World) (v : Value) (l : List α) : Prop := RowAt E W v l ∧ ∃ p cap, v = .slice p l.length cap ∧ l.length ≤ cap ∧ (p = none → cap = 0)
/-- What a call has collected since the world w0. -/
def MadeE (w0 W : World) (v : Value) (xs : List α) : Prop := W.ownsRow w0.heap.size E.t E.k v xs.length (E.cells xs) ∧ Below w0.heap.size w0 W
variable {E} {W W' w0 : World} {v : Value} {l xs : List α}
theorem RowAt.form (h : RowAt E W v l) : ∃ p cap, v = .slice p l.length cap ∧ (l = [] ∨ ∃ b o, p = some ⟨b, o, none⟩ ∧ b < W.heap.size ∧ ∀ i x, l[i]? = some x → ∀ j u, (E.enc x)[j]? = some u → W.cell? ⟨b, o + i * E.k + j, none⟩ = some u) := by
  rcases h with ⟨rfl, p, cap, rfl⟩ | ⟨b, o, cap, rfl, hlt, hc⟩
  · exact ⟨_, _, rfl, .inl rfl⟩
  · exact ⟨_, _, rfl, .inr ⟨b, o, rfl, hlt, hc⟩⟩
/-- It reads as it did where its block has not turned. -/
theorem RowAt.kept (h : RowAt E W v l) (hs : W.heap.size ≤ W'.heap.size) (hk : ∀ b o n c, l ≠ [] → v = .slice (some ⟨b, o, none⟩) n c → W'.heap[b]? = W.heap[b]?) : RowAt E W' v l := by
  by_cases hl : l = []
  · subst hl
    obtain ⟨p, cap, rfl, _⟩ := h.form
    exact .inl ⟨rfl, _, _, rfl⟩
  · rcases h with ⟨h0, _⟩ | ⟨b, o, cap, rfl, hlt, hc⟩
    · exact absurd h0 hl
    · have hb := hk b o _ _ hl rfl
      exact .inr ⟨b, o, cap, rfl, Nat.lt_of_lt_of_le hlt hs, fun i x hx j u hu => by
        have := hc i x hx j u hu
        simp only [World.cell?, hb] at this ⊢
        exact this⟩
theorem RowAt.lt (h : RowAt E W v l) {b o n c : Nat} (hl : l ≠ []) (hv : v = .slice (some ⟨b, o, none⟩) n c) : b < W.heap.size := by
  rcases h with ⟨h0, _⟩ | ⟨b', o', cap, he, hlt, _⟩
  · exact absurd h0 hl
  · rw [hv] at he
    obtain ⟨e1, _⟩ := Value.slice.inj he
    simp only [Option.some.injEq, Addr.mk.injEq] at e1
    rw [e1.1]
    exact hlt

/-- From m on, as a slice expression spells it. -/
theorem SrcE.drop {p : Option Addr} {n cap m : Nat} (h : SrcE E W (.slice p n cap) l) (hm : m ≤ l.length) : SrcE E W (.slice (if cap = m then p else p.map fun a => a.add (m * E.k)) (n - m) (cap - m)) (l.drop m) := by
  obtain ⟨hl, p', cap', he, hlc, hpc⟩ := h
  simp only [Value.slice.injEq] at he
  obtain ⟨rfl, rfl, rfl⟩ := he
  have e : (l.drop m).length = l.length - m := List.length_drop
  refine ⟨?_, _, _, by rw [e], by omega, ?_⟩
  · by_cases hml : l.length = m
    · refine .inl ⟨List.drop_eq_nil_of_le (by omega), _, _, by rw [show l.length - m = 0 from by omega]⟩
    · rw [if_neg (by omega)]
      rcases hl with ⟨rfl, _⟩ | ⟨b, o, cap', he, hlt, hc⟩
      · simp at hm hml; omega
      · simp only [Value.slice.injEq] at he
        obtain ⟨rfl, _, rfl⟩ := he
        refine .inr ⟨b, o + m * E.k, cap - m, by rw [e, Option.map_some, addr_off], hlt, fun i x hx j u hu => ?_⟩
        rw [List.getElem?_drop] at hx
        have := hc (m + i) x hx j u hu
        rw [show o + m * E.k + i * E.k + j = o + (m + i) * E.k + j from by rw [Nat.add_mul]; omega]
        exact this
  · intro hp
    by_cases hc : cap = m
    · omega
    · rw [if_neg hc] at hp
      cases p with
      | none => have := hpc rfl; omega
      | some a => simp at hp

theorem row_keepsE {b : Nat} {e : TypeId} {size : Nat} {k : Nat} {cs : List Value} (h : W.ownsRow b e size v k cs) (hk : ∀ g, v.ownBlock = some g → W'.heap[g]? = W.heap[g]?) : W'.ownsRow b e size v k cs := by
  refine ⟨h.1, ?_⟩
  rcases h.2 with h1 | ⟨g, cap, cur, rfl, hb, hg, rest⟩
  · exact .inl h1
  · exact .inr ⟨g, cap, cur, rfl, hb, (hk g rfl).trans hg, rest⟩
theorem ownsRow_formE {base : Nat} {e : TypeId} {size : Nat} {k : Nat} {cs : List Value} (h : W.ownsRow base e size v k cs) : ∃ p cap, v = .slice p k cap ∧ k ≤ cap ∧ (p = none → cap = 0) := by
  rcases h.2 with ⟨rfl, rfl⟩ | ⟨g, cap, cur, rfl, _, _, hnc, _⟩
  · exact ⟨none, 0, rfl, Nat.le_refl _, fun _ => rfl⟩
  · exact ⟨_, cap, rfl, hnc, fun h => by cases h⟩
theorem rowAt_own {base : Nat} (h : W.ownsRow base E.t E.k v xs.length (E.cells xs)) : RowAt E W v xs := by
  have hc := fun g (hg : v.ownBlock = some g) => h.cells hg
  have hlt := h.lt
  rcases h.2 with ⟨rfl, hn⟩ | ⟨g, cap, cur, rfl, hb, hg, _⟩
  · exact .inl ⟨List.eq_nil_of_length_eq_zero (by omega), none, 0, rfl⟩
  · refine .inr ⟨g, 0, cap, rfl, (hlt g rfl).2, fun i x hx j u hu => ?_⟩
    have := hc g rfl (i * E.k + j) u (E.cells_at xs i x j u hx hu)
    rw [addr_off] at this
    rw [Nat.add_assoc]
    exact this
/-- What was made stays where only older blocks have turned. -/
theorem MadeE.kept {F : Nat → Prop} (h : MadeE E w0 W v xs) (hf : Fr F W W') (hF : ∀ k, F k → k < w0.heap.size) : SrcE E W' v xs := by
  have hr : W'.ownsRow w0.heap.size E.t E.k v xs.length (E.cells xs) := row_keepsE h.1 fun g hg => hf.block g (h.1.lt g hg).2 fun e => by
    have := hF g e
    have := (h.1.lt g hg).1
    omega
  exact ⟨rowAt_own hr, ownsRow_formE hr⟩

theorem runE_append {v2 : Value} {l2 : List α} (ty : TypeId) (hm : MadeE E w0 W v xs) (hs : SrcE E W v2 l2) (hb : (xs.length + l2.length) * E.bytes ≤ 140737488355328) :
    ∃ v' w', (Builtin.append_ #[E.sl, E.sl] ty #[v, v2]).run P W = .ok v' w' ∧ MadeE E w0 w' v' (xs ++ l2) ∧ W.heap.size ≤ w'.heap.size := by
  obtain ⟨i0, hi, hz0, hz1, hz2⟩ := info_parts E.info
  obtain ⟨hl, p, cap, rfl, hlc, hpc⟩ := hs
  cases p with
  | none =>
    obtain rfl := hpc rfl
    obtain rfl : l2 = [] := List.eq_nil_of_length_eq_zero (by omega)
    refine ⟨v, W, run_append_owned_none (P := P) (w := W) w0.heap.size E.sl ty E.t i0 E.k E.under hi v xs.length (E.cells xs) hm.1, ?_⟩
    rw [List.append_nil]
    exact ⟨hm, Nat.le_refl _⟩
  | some a =>
    have hnews : ∀ j u, (E.cells l2)[j]? = some u → W.cell? (a.add j) = some u := by
      intro j u hu
      rcases hl with ⟨rfl, _⟩ | ⟨b, o, cap', he, hlt, hc⟩
      · simp [Elem.cells] at hu
      · simp only [Value.slice.injEq, Option.some.injEq] at he
        obtain ⟨rfl, _, _⟩ := he
        rw [addr_off]
        obtain ⟨i, j', x, rfl, hx, hu'⟩ := E.cells_inv l2 j u hu
        rw [← Nat.add_assoc]
        exact hc i x hx j' u hu'
    have hbp := E.bpos
    have hle : xs.length + l2.length ≤ 140737488355328 := Nat.le_trans (Nat.le_mul_of_pos_right _ hbp) hb
    obtain ⟨v', w', hr, h2, h3, _⟩ := run_append_own (P := P) W w0.heap.size E.sl ty E.t i0 E.z E.k E.bytes E.under hi hz0 hz1 hz2 E.zs E.pos v xs.length (E.cells xs) hm.1 a l2.length cap (E.cells l2) (E.cells_len l2) hnews (E.cells_one l2) (by unfold maxLen; omega) hb hm.2.size
    refine ⟨v', w', hr, ⟨?_, hm.2.grown h3 hm.2.size (fun j e => (hm.1.lt j e).1)⟩, h3.size⟩
    rw [List.length_append, E.cells_append]
    exact h2
end
end Go.Proofs.YtcchkkdbagpgjaaGreat
namespace Go.Proofs.YtcchkkdbagpgjaaGreat
open Go Go.RowKit

section
variable {P : Program} {ops : Array Oper} {md : Region.Mode} {G : Nat → World → World → Prop}

def opT (P : Program) (ops : Array Oper) (G : Nat → World → World → Prop) (i : Nat) (K : Act → World → Prop) (a : Act) (w : World) : Prop := opG P ops (G i) i K a w
def wpT (P : Program) (md : Region.Mode) (ops : Array Oper) (G : Nat → World → World → Prop) (Q : Act → World → Prop) : Nat → Array Bool → Act → World → Prop
  | 0, listed, a, w => Region.ready md ops listed = [] ∧ Q a w
  | fuel + 1, listed, a, w =>
    (Region.ready md ops listed = [] → Q a w) ∧
    ∀ i ∈ Region.ready md ops listed, opT P ops G i (wpT P md ops G Q fuel (listed.setIfInBounds i true)) a w
theorem wpAny_of_T {Q : Act → World → Prop} {Q' : Exit → Act → World → Prop} (hQ : ∀ a w, Q a w → Q' .normal a w) : ∀ (fuel : Nat) (listed : Array Bool) (a : Act) (w : World), wpT P md ops G Q fuel listed a w → wpAny P md ops Q' fuel listed a w
  | 0, _, _, _, h => ⟨h.1, hQ _ _ h.2⟩
  | fuel + 1, _, _, _, h => ⟨fun h0 => hQ _ _ (h.1 h0), fun i hi => wpOp_of_opG (fun a' w' => wpAny_of_T hQ fuel _ a' w') (h.2 i hi)⟩

theorem wpT_first {Q : Act → World → Prop} {i : Nat} {oi : Oper} {v : Value} {C : World → Prop} (D Done : List Nat)
    (hD : ∀ k ∈ D, ∃ o, ops[k]? = some o ∧ ∃ e ∈ o.after, Region.binds md e = true ∧ (e.on = i ∨ e.on ∈ D))
    (hC : ∀ j, j ∉ D → j ∉ Done → ∀ w w', C w → G j w w' → C w') (hrefl : ∀ j w, G j w w)
    (hi : ops[i]? = some oi) (hsel : ∀ (j : Nat) (o : Oper) cs b, ops[j]? = some o → o.op ≠ .select cs b) :
    ∀ (fuel : Nat) (listed : Array Bool) (a : Act) (w : World),
      (∀ j oj, ops[j]? = some oj → j ≠ i → listed.getD j true = false → (∀ e ∈ oj.after, Region.binds md e = true → e.on ≠ i) → oi.apart ops oj = true) →
      (∀ k ∈ D, listed.getD k false = false) → (∀ k ∈ Done, listed.getD k true = true) →
      i ∈ Region.ready md ops listed → C w → FixIn P ops C oi v a →
      wpT P md ops G Q fuel (listed.setIfInBounds i true) (a.put oi.dst v) w → wpT P md ops G Q (fuel + 1) listed a w := by
  intro fuel
  induction fuel with
  | zero =>
    intro listed a w _ _ _ hr hw hy H
    refine ⟨fun h => (by rw [h] at hr; cases hr), fun j hj => ?_⟩
    by_cases hji : j = i
    · subst hji; exact hy.opG hi hw (hrefl j w) H
    · have := ready_mono hj hji
      rw [H.1] at this
      cases this
  | succ fuel ih =>
    intro listed a w hfree hDu hDn hr hw hy H
    refine ⟨fun h => (by rw [h] at hr; cases hr), fun j hj => ?_⟩
    by_cases hji : j = i
    · subst hji; exact hy.opG hi hw (hrefl j w) H
    · have h1 := H.2 j (ready_mono hj hji)
      obtain ⟨hjun, oj, hoj, hall⟩ := mem_ready.1 hj
      have hiun : listed.getD i false = false := by
        have h0 := (mem_ready.1 hr).1
        rcases Nat.lt_or_ge i listed.size with h' | h'
        · simp [h'] at h0 ⊢; exact h0
        · simp [Array.getElem?_eq_none h']
      have hnot : ∀ e ∈ oj.after, Region.binds md e = true → e.on ≠ i := fun e he hb heq => by
        have h1 := hall e he hb
        rw [heq, hiun] at h1
        cases h1
      have hjD : j ∉ D := fun hjd => by
        obtain ⟨o, ho, e, he, hb, h2⟩ := hD j hjd
        rw [hoj] at ho
        obtain rfl := Option.some.inj ho
        rcases h2 with h2 | h2
        · exact hnot e he hb h2
        · have h3 := hall e he hb
          rw [hDu _ h2] at h3
          cases h3
      have hjn : j ∉ Done := fun h => by
        rw [hDn j h] at hjun
        cases hjun
      have h2 := opG_put (G := G j) (hrefl j w) hoj (hfree j oj hoj hji hjun hnot) (fun cs b => hsel i oi cs b hi) (fun cs b => hsel j oj cs b hoj) hy h1
      have hfree' : ∀ k ok, ops[k]? = some ok → k ≠ i → (listed.setIfInBounds j true).getD k true = false →
          (∀ e ∈ ok.after, Region.binds md e = true → e.on ≠ i) → oi.apart ops ok = true := fun k ok hk hki hun hno => by
        refine hfree k ok hk hki ?_ hno
        by_cases hjk : j = k
        · subst hjk; exact hjun
        · rw [getD_set_ne true hjk] at hun; exact hun
      have hDu' : ∀ k ∈ D, (listed.setIfInBounds j true).getD k false = false := fun k hk => by
        rw [getD_set_ne false (fun e => hjD (by rw [e]; exact hk))]
        exact hDu k hk
      have hDn' : ∀ k ∈ Done, (listed.setIfInBounds j true).getD k true = true := fun k hk => by
        rw [getD_set_ne true (fun e => hjn (by rw [e]; exact hk))]
        exact hDn k hk
      refine opG_mono (fun _ h => h) (fun a' w' h3 => ih (listed.setIfInBounds j true) a' w' hfree' hDu' hDn' (ready_mono hr (Ne.symm hji)) (hC j hjD hjn w w' hw h3.2.1) h3.1 ?_) h2
      rw [Array.setIfInBounds_comm _ _ hji]
      exact h3.2.2

/-- Whatever waits for operation i, by way of others, too. -/
def depsOf (md : Region.Mode) (ops : Array Oper) (i : Nat) : List Nat :=
  (List.range ops.size).foldl (fun acc k => match ops[k]? with | some o => if o.after.any (fun e => Region.binds md e && (e.on == i || acc.contains e.on)) then k :: acc else acc | none => acc) []
def depsB (md : Region.Mode) (ops : Array Oper) (i : Nat) (D : List Nat) : Bool :=
  D.all fun k => match ops[k]? with | some o => o.after.any (fun e => Region.binds md e && (e.on == i || D.contains e.on)) | none => false
theorem depsB_spec {i : Nat} {D : List Nat} (h : depsB md ops i D = true) : ∀ k ∈ D, ∃ o, ops[k]? = some o ∧ ∃ e ∈ o.after, Region.binds md e = true ∧ (e.on = i ∨ e.on ∈ D) := by
  intro k hk
  have h1 := List.all_eq_true.1 h k hk
  cases ho : ops[k]? with
  | none => rw [ho] at h1; simp at h1
  | some o =>
    rw [ho] at h1
    simp only [Array.any_eq_true', Bool.and_eq_true, Bool.or_eq_true, beq_iff_eq, List.contains_eq_mem, decide_eq_true_eq] at h1
    obtain ⟨e, he, hb, h2⟩ := h1
    exact ⟨o, rfl, e, he, hb, h2⟩
/-- Operation i may be taken now: of those that may turn anything, each has come up already or waits for it. -/
def takeB (md : Region.Mode) (ops : Array Oper) (s : List Nat) (i : Nat) (listed : Array Bool) : Bool :=
  (Region.ready md ops listed).contains i && Region.free md ops listed i && depsB md ops i (depsOf md ops i) && (depsOf md ops i).all (fun k => !listed.getD k false) && s.all (fun j => listed.getD j false || (depsOf md ops i).contains j)
/-- s: they may turn anything; all others keep S. -/
def GS (s : List Nat) (S : Nat → Prop) (j : Nat) (W W' : World) : Prop := s.contains j = true ∨ GK S W W'
theorem take_first {s : List Nat} {S : Nat → Prop} {Q : Act → World → Prop} {i : Nat} {oi : Oper} {v : Value} {w0 : World} (hs : Region.noSelect ops = true) (hi : ops[i]? = some oi) {fuel : Nat} {listed : Array Bool} {a : Act} {w : World}
    (hB : takeB md ops s i listed = true) (hw : GK S w0 w) (hy : FixIn P ops (GK S w0) oi v a) (h : wpT P md ops (GS s S) Q fuel (listed.setIfInBounds i true) (a.put oi.dst v) w) : wpT P md ops (GS s S) Q (fuel + 1) listed a w := by
  simp only [takeB, Bool.and_eq_true] at hB
  obtain ⟨⟨⟨⟨hr, hf⟩, hd⟩, hu⟩, hss⟩ := hB
  refine wpT_first (C := GK S w0) (depsOf md ops i) (s.filter fun j => listed.getD j false) (depsB_spec hd) (fun j hj hn x y hx hxy => ?_) (fun j x => .inr (GK.refl S x)) hi (Region.noSelect_spec hs) fuel listed a w (Region.free_spec hi hf) (fun k hk => ?_) (fun k hk => ?_) (by simpa using hr) hw hy h
  · rcases hxy with h1 | h1
    · exfalso
      have hjs : j ∈ s := by simpa using h1
      have h2 := List.all_eq_true.1 hss j hjs
      rw [Bool.or_eq_true] at h2
      rcases h2 with h2 | h2
      · exact hn (List.mem_filter.2 ⟨hjs, h2⟩)
      · exact hj (by simpa using h2)
    · exact GK.trans S _ _ _ hx h1
  · have := List.all_eq_true.1 hu k hk
    simpa using this
  · have h2 := (List.mem_filter.1 hk).2
    rcases Nat.lt_or_ge k listed.size with h' | h'
    · simp [h'] at h2 ⊢; exact h2
    · simp [Array.getElem?_eq_none h']
theorem wpT_end {Q : Act → World → Prop} {w : World} {listed : Array Bool} {a : Act} (hr : Region.ready md ops listed = []) (h : Q a w) : wpT P md ops G Q 0 listed a w := ⟨hr, h⟩
theorem wp_region_taken {id : Nat} {l : List Oper} {Q : Exit → Act → World → Prop} {a : Act} {w : World} (s : List Nat) (S : Nat → Prop) (hm : P.follows .mixedOrders = true) {n : Nat} (hn : l.toArray.size = n) {fresh : Array Bool} (hl : Array.replicate n false = fresh)
    (h : wpT P .any l.toArray (GS s S) (fun a' w' => Q .normal a' w') n fresh a w.drew) : (Code.region id l.toArray true).wp P Q a w := by
  subst hn hl
  exact wp_region_any hm (wpAny_of_T (fun _ _ h => h) _ _ _ _ h)
end
theorem wpT_just {P : Program} {md : Region.Mode} {ops : Array Oper} {G : Nat → World → World → Prop} {Q : Act → World → Prop} {w : World} {fuel i : Nat} {listed : Array Bool} {a : Act} (hr : Region.ready md ops listed = [i])
    (h1 : opT P ops G i (wpT P md ops G Q fuel (listed.setIfInBounds i true)) a w) : wpT P md ops G Q (fuel + 1) listed a w := by
  refine ⟨fun h0 => by (rw [h0] at hr; cases hr), fun k hk => ?_⟩
  rw [hr] at hk
  obtain rfl : k = i := by simpa using hk
  exact h1
end Go.Proofs.YtcchkkdbagpgjaaGreat
namespace Go.Proofs.YtcchkkdbagpgjaaGreat
open Go Go.RowKit

/-- What memory holds: a world, and the blocks that are spoken of. -/
abbrev Asn := World → (Nat → Prop) → Prop
def star (P Q : Asn) : Asn := fun W H => ∃ H1 H2, P W H1 ∧ Q W H2 ∧ Apart H1 H2 ∧ ∀ k, H k ↔ H1 k ∨ H2 k
def pureA (p : Prop) (P : Asn) : Asn := fun W H => p ∧ P W H
def exA {α : Type} (P : α → Asn) : Asn := fun W H => ∃ x, P x W H
def emp : Asn := fun _ H => ∀ k, ¬ H k
/-- One block, all of it. -/
def BoxA (b : Nat) (o : Obj) : Asn := fun W H => W.heap[b]? = some o ∧ ∀ k, H k ↔ k = b

section
variable {P P' Q Q' R : Asn} {W W' w : World} {H H0 : Nat → Prop}
theorem Apart.symm {F G : Nat → Prop} (h : Apart F G) : Apart G F := fun k hg hf => h k hf hg
theorem star_owns (hP : Owns P) (hQ : Owns Q) : Owns (star P Q) where
  lt W F h k hk := by
    obtain ⟨H1, H2, h1, h2, _, he⟩ := h
    rcases (he k).1 hk with h | h
    · exact hP.lt W H1 h1 k h
    · exact hQ.lt W H2 h2 k h
  kept W W' F h hs hk := by
    obtain ⟨H1, H2, h1, h2, ha, he⟩ := h
    exact ⟨H1, H2, hP.kept W W' H1 h1 hs fun k h => hk k ((he k).2 (.inl h)), hQ.kept W W' H2 h2 hs fun k h => hk k ((he k).2 (.inr h)), ha, he⟩
theorem pureA_owns {p : Prop} (hP : Owns P) : Owns (pureA p P) := ⟨fun W F h => hP.lt W F h.2, fun W W' F h hs hk => ⟨h.1, hP.kept W W' F h.2 hs hk⟩⟩
theorem exA_owns {α : Type} {P : α → Asn} (hP : ∀ x, Owns (P x)) : Owns (exA P) := ⟨fun W F ⟨x, h⟩ => (hP x).lt W F h, fun W W' F ⟨x, h⟩ hs hk => ⟨x, (hP x).kept W W' F h hs hk⟩⟩
theorem emp_owns : Owns emp := ⟨fun _ _ h k hk => absurd hk (h k), fun _ _ _ h _ _ => h⟩
theorem box_owns (b : Nat) (o : Obj) : Owns (BoxA b o) where
  lt W F h k hk := by
    obtain ⟨h1, h2⟩ := h
    rw [(h2 k).1 hk]
    exact (Array.getElem?_eq_some_iff.1 h1).1
  kept W W' F h _ hk := ⟨(hk b ((h.2 b).2 rfl)).trans h.1, h.2⟩
theorem star_comm (h : star P Q W H) : star Q P W H := by
  obtain ⟨H1, H2, h1, h2, ha, he⟩ := h
  exact ⟨H2, H1, h2, h1, ha.symm, fun k => (he k).trans Or.comm⟩
theorem star_assoc (h : star (star P Q) R W H) : star P (star Q R) W H := by
  obtain ⟨H12, H3, ⟨H1, H2, h1, h2, ha, he⟩, h3, ha', he'⟩ := h
  refine ⟨H1, fun k => H2 k ∨ H3 k, h1, ⟨H2, H3, h2, h3, fun k hk => ha' k ((he k).2 (.inr hk)), fun k => Iff.rfl⟩, fun k hk h' => ?_, fun k => ?_⟩
  · rcases h' with h' | h'
    · exact ha k hk h'
    · exact ha' k ((he k).2 (.inl hk)) h'
  · rw [he' k, he k, or_assoc]
theorem star_assoc' (h : star P (star Q R) W H) : star (star P Q) R W H := star_comm (star_assoc (star_comm (star_assoc (star_comm h))))
theorem star_mono (hP : ∀ H, P W H → P' W H) (hQ : ∀ H, Q W H → Q' W H) (h : star P Q W H) : star P' Q' W H := by
  obtain ⟨H1, H2, h1, h2, ha, he⟩ := h
  exact ⟨H1, H2, hP H1 h1, hQ H2 h2, ha, he⟩
/-- The second to the front. -/
theorem star_swap (h : star P (star Q R) W H) : star Q (star P R) W H := star_assoc (star_mono (fun _ h => star_comm h) (fun _ h => h) (star_assoc' h))

/-- Behind some steps that may have turned the blocks H, and new ones. -/
def SEnd (P : Asn) (H : Nat → Prop) (W W' : World) : Prop := ∃ H', P W' H' ∧ Fr H W W' ∧ ∀ k, H' k → H k ∨ W.heap.size ≤ k
theorem sEnd_refl (h : P W H) : SEnd P H W W := ⟨H, h, Fr.refl _ _, fun _ hk => .inl hk⟩
theorem SEnd.mono (h : SEnd P H W W') (hP : ∀ H, P W' H → P' W' H) : SEnd P' H W W' := by
  obtain ⟨H', h1, h2, h3⟩ := h
  exact ⟨H', hP H' h1, h2, h3⟩
theorem SEnd.trans {W1 : World} (h : SEnd P H W W1) (hk : ∀ H1, P W1 H1 → SEnd Q H1 W1 W') : SEnd Q H W W' := by
  obtain ⟨H1, h1, h2, h3⟩ := h
  obtain ⟨H2, k1, k2, k3⟩ := hk H1 h1
  refine ⟨H2, k1, h2.trans k2 h3, fun k hh => ?_⟩
  rcases k3 k hh with h | h
  · exact h3 k h
  · exact .inr (Nat.le_trans h2.size h)
theorem SEnd.later (hP : Owns P) {W1 : World} (h : SEnd P H W W1) (x : Later W1) : SEnd P H W x.w :=
  h.trans fun H1 h1 => ⟨H1, hP.kept W1 x.w H1 h1 x.below.size fun k hk => x.below.block k (hP.lt W1 H1 h1 k hk), Fr.of_below x.below, fun _ h => .inl h⟩
theorem SEnd.below (hP : Owns P) {W1 : World} (h : SEnd P H W W1) {W2 : World} (hb : Below W1.heap.size W1 W2) : SEnd P H W W2 := h.later hP ⟨W2, hb⟩
/-- A step on the first of two keeps the second. -/
theorem star_frame (hQ : Owns Q) (h : star P Q W H) : ∃ H1, P W H1 ∧ (∀ k, H1 k → H k) ∧ ∀ P' W', SEnd P' H1 W W' → SEnd (star P' Q) H W W' ∧ ∀ S : Nat → Prop, (∀ H2, Q W H2 → ∀ k, S k → H2 k) → GK S W W' := by
  obtain ⟨H1, H2, h1, h2, ha, he⟩ := h
  refine ⟨H1, h1, fun k hk => (he k).2 (.inl hk), fun P' W' ⟨H3, k1, k2, k3⟩ => ⟨⟨fun k => H3 k ∨ H2 k, ⟨H3, H2, k1, hQ.stays h2 k2 ha.symm, fun k hk hk' => ?_, fun _ => Iff.rfl⟩, ?_, fun k hk => ?_⟩, fun S hS => GK.of_fr k2 fun k hk => ⟨hQ.lt W H2 h2 k (hS H2 h2 k hk), fun hk' => ha k hk' (hS H2 h2 k hk)⟩⟩⟩
  · rcases k3 k hk with h | h
    · exact ha k h hk'
    · have := hQ.lt W H2 h2 k hk'; omega
  · exact ⟨k2.os, k2.tape, k2.output, k2.size, fun k hk hn => k2.block k hk fun e => hn ((he k).2 (.inl e))⟩
  · rcases hk with hk | hk
    · rcases k3 k hk with h | h
      · exact .inl ((he k).2 (.inl h))
      · exact .inr h
    · exact .inl ((he k).2 (.inr hk))

/-- What a call owes: from P, its answer u and R u. -/
def Trip (pr : Program) (f : FuncId) (args : Array Value) (P : Asn) (R : Value → Asn) : Prop := ∀ W H, P W H → Calls pr f args W fun e W' => ∃ u, e = .returned u ∧ SEnd (R u) H W W'
/-- A call on the first of the objects, behind some steps; the blocks S lie in the others. -/
theorem SEnd.call {pr : Program} {f : FuncId} {args : Array Value} {R : Value → Asn} (h : SEnd (star P Q) H0 w W) (hQ : Owns Q) (hc : Trip pr f args P R) (S : Nat → Prop) (hS : ∀ H2, Q W H2 → ∀ k, S k → H2 k) :
    Calls pr f args W fun e W' => ∃ u, e = .returned u ∧ (SEnd (star (R u) Q) H0 w W' ∧ GK S W W') := by
  obtain ⟨H, hs, hf, hg⟩ := h
  obtain ⟨H1, h1, h2, h3⟩ := star_frame hQ hs
  refine (hc W H1 h1).mono fun e W' ⟨u, he, hr⟩ => ⟨u, he, ?_, (h3 _ _ hr).2 S hS⟩
  exact SEnd.trans (P := fun W1 H' => W1 = W ∧ H' = H) ⟨H, ⟨rfl, rfl⟩, hf, hg⟩ fun H' ⟨_, e⟩ => by subst e; exact (h3 _ _ hr).1
/-- A new block of the walk's own. -/
theorem SEnd.box (hP : Owns P) (h : SEnd P H0 w W) (o : Obj) : SEnd (star (BoxA W.heap.size o) P) H0 w (W.alloc o) := by
  refine h.trans fun H hp => ⟨fun k => k = W.heap.size ∨ H k, ⟨fun k => k = W.heap.size, H, ⟨heap_alloc_new W o, fun _ => Iff.rfl⟩, hP.kept W _ H hp (by simp) fun k hk => Below.heap_alloc _ _ _ (hP.lt W H hp k hk), fun k hk hk' => ?_, fun _ => Iff.rfl⟩, Fr.of_below (ext_alloc (ext_refl W) o), fun k hk => ?_⟩
  · have := hP.lt W H hp k hk'
    omega
  · rcases hk with rfl | hk
    · exact .inr (Nat.le_refl _)
    · exact .inl hk
/-- A box that is not needed any more. -/
theorem SEnd.drop (h : SEnd (star Q P) H0 w W) : SEnd P H0 w W := by
  obtain ⟨H, ⟨H1, H2, h1, h2, ha, he⟩, hf, hg⟩ := h
  exact ⟨H2, h2, hf, fun k hk => hg k ((he k).2 (.inr hk))⟩
/-- A new block that a walk found somewhere behind. -/
theorem SEnd.boxed (hP : Owns P) (h : SEnd P H0 w W) {b : Nat} {o : Obj} (hb : Below W.heap.size W W') (hn : W.heap.size ≤ b) (ho : W'.heap[b]? = some o) : SEnd (star (BoxA b o) P) H0 w W' := by
  refine h.trans fun H hp => ⟨fun k => k = b ∨ H k, ⟨fun k => k = b, H, ⟨ho, fun _ => Iff.rfl⟩, hP.kept W _ H hp hb.size fun k hk => hb.block k (hP.lt W H hp k hk), fun k hk hk' => ?_, fun _ => Iff.rfl⟩, Fr.of_below hb, fun k hk => ?_⟩
  · have := hP.lt W H hp k hk'
    omega
  · rcases hk with rfl | hk
    · exact .inr hn
    · exact .inl hk
/-- A new object, of new blocks alone, beside what there is. -/
theorem SEnd.fresh (hP : Owns P) (_hQ : Owns Q) (h : SEnd P H0 w W) {HQ : Nat → Prop} (hb : Below W.heap.size W W') (hq : Q W' HQ) (hn : ∀ k, HQ k → W.heap.size ≤ k) : SEnd (star Q P) H0 w W' := by
  refine h.trans fun H hp => ⟨fun k => HQ k ∨ H k, ⟨HQ, H, hq, hP.kept W _ H hp hb.size fun k hk => hb.block k (hP.lt W H hp k hk), fun k hk hk' => ?_, fun _ => Iff.rfl⟩, Fr.of_below hb, fun k hk => ?_⟩
  · have h1 := hP.lt W H hp k hk'
    have h2 := hn k hk
    omega
  · rcases hk with hk | hk
    · exact .inr (hn k hk)
    · exact .inl hk
theorem emp_right (h : star P emp W H) : P W H := by
  obtain ⟨H1, H2, h1, h2, _, he⟩ := h
  have e : H = H1 := funext fun k => propext ((he k).trans ⟨fun h => h.elim id fun h => absurd h (h2 k), .inl⟩)
  rw [e]
  exact h1
end
end Go.Proofs.YtcchkkdbagpgjaaGreat
namespace Go.Proofs.YtcchkkdbagpgjaaGreat
open Go Go.RowKit

section
variable {P : Program} {ops : Array Oper} {md : Region.Mode} {S : Nat → Prop}

/-- In which worlds an operation's value is asked for: 0 all, 1 this one, 2 those in which S stays; else it may turn memory. -/
def clsS (S : Nat → Prop) (k : Nat) (w : World) : World → Prop :=
  match k with
  | 0 => fun _ => True
  | 1 => fun w' => w' = w
  | _ => GK S w
def opS (P : Program) (ops : Array Oper) (S : Nat → Prop) (i k : Nat) (K : Act → World → Prop) (a : Act) (w : World) : Prop :=
  match ops[i]? with
  | none => False
  | some o => if k < 3 then ∃ v, FixIn P ops (clsS S k w) o v a ∧ K (a.put o.dst v) w else if k = 3 then opG P ops (GK S) i K a w else opG P ops (fun _ _ => True) i K a w
def wpS (P : Program) (ops : Array Oper) (S : Nat → Prop) (Q : Act → World → Prop) : List (Nat × Nat) → Act → World → Prop
  | [], a, w => Q a w
  | (i, k) :: r, a, w => opS P ops S i k (wpS P ops S Q r) a w

/-- A function value, made of what is at hand. -/
def makesFunc (o : Oper) : Bool := match o.op with | .makeFunc .. => true | _ => false
def effs (ops : Array Oper) : List Nat := (List.range ops.size).filter fun j => !((ops[j]?).map fun o => noEnter o || makesFunc o).getD true
def stepB (md : Region.Mode) (ops : Array Oper) (E E4 : List Nat) (i k : Nat) (listed : Array Bool) : Bool :=
  match k with
  | 0 => (Region.ready md ops listed).contains i && Region.free md ops listed i
  | 1 => takeB md ops E i listed
  | 2 => takeB md ops E4 i listed
  | 3 => (Region.ready md ops listed == [i]) && E.contains i
  | _ => (Region.ready md ops listed == [i]) && (E.contains i && E4.contains i)
def planB (md : Region.Mode) (ops : Array Oper) (E E4 : List Nat) : List (Nat × Nat) → Array Bool → Bool
  | [], listed => (Region.ready md ops listed).isEmpty
  | (i, k) :: r, listed => stepB md ops E E4 i k listed && planB md ops E E4 r (listed.setIfInBounds i true)
/-- Operations of E4 may turn anything; those of E keep S; all others leave the world as it is. -/
def GE (S : Nat → Prop) (E E4 : List Nat) (j : Nat) (w w' : World) : Prop := (E4.contains j = true ∧ E.contains j = true) ∨ (E.contains j = true ∧ GK S w w') ∨ w' = w
def fours (plan : List (Nat × Nat)) : List Nat := (plan.filter fun x => 3 < x.2).map (·.1)

theorem GE.refl (S : Nat → Prop) (E E4 : List Nat) (j : Nat) (w : World) : GE S E E4 j w w := .inr (.inr rfl)
/-- A reading operation that all of T wait for, or have come up ahead of it. -/
theorem wpT_take {T : List Nat} {G : Nat → World → World → Prop} {C : World → Prop} {Q : Act → World → Prop} {i : Nat} {o : Oper} {v : Value} (hs : Region.noSelect ops = true) (hG : ∀ j w, G j w w) (ho : ops[i]? = some o) {fuel : Nat} {listed : Array Bool} {a : Act} {w : World} (hB : takeB md ops T i listed = true)
    (hC : ∀ j, T.contains j = false → ∀ w w', C w → G j w w' → C w') (hw : C w) (hv : FixIn P ops C o v a) (h : wpT P md ops G Q fuel (listed.setIfInBounds i true) (a.put o.dst v) w) : wpT P md ops G Q (fuel + 1) listed a w := by
  simp only [takeB, Bool.and_eq_true] at hB
  obtain ⟨⟨⟨⟨hrd, hf⟩, hd⟩, hu⟩, hss⟩ := hB
  refine wpT_first (C := C) (depsOf md ops i) (T.filter fun j => listed.getD j false) (depsB_spec hd) (fun j hj hn x y hx hxy => ?_) hG ho (Region.noSelect_spec hs) fuel listed a w (Region.free_spec ho hf) (fun k hk => ?_) (fun k hk => ?_) (by simpa using hrd) hw hv h
  · cases hjs : T.contains j with
    | false => exact hC j hjs x y hx hxy
    | true =>
      exfalso
      have hjs' : j ∈ T := by simpa using hjs
      have h2 := List.all_eq_true.1 hss j hjs'
      rw [Bool.or_eq_true] at h2
      rcases h2 with h2 | h2
      · exact hn (List.mem_filter.2 ⟨hjs', h2⟩)
      · exact hj (by simpa using h2)
  · have := List.all_eq_true.1 hu k hk
    simpa using this
  · have h2 := (List.mem_filter.1 hk).2
    rcases Nat.lt_or_ge k listed.size with h' | h'
    · simp [h'] at h2 ⊢; exact h2
    · simp [Array.getElem?_eq_none h']
theorem wpT_of_S {Q : Act → World → Prop} {E E4 : List Nat} (hs : Region.noSelect ops = true) : ∀ (plan : List (Nat × Nat)) (listed : Array Bool) (a : Act) (w : World),
    planB md ops E E4 plan listed = true → wpS P ops S Q plan a w → wpT P md ops (GE S E E4) Q plan.length listed a w
  | [], listed, a, w, hp, h => ⟨by simpa [planB] using hp, h⟩
  | (i, k) :: r, listed, a, w, hp, h => by
    simp only [planB, Bool.and_eq_true] at hp
    obtain ⟨hst, hr⟩ := hp
    unfold wpS opS at h
    cases ho : ops[i]? with
    | none => rw [ho] at h; exact h.elim
    | some o =>
      rw [ho] at h
      dsimp only at h
      have ih := fun a' w' (hh : wpS P ops S Q r a' w') => wpT_of_S hs r (listed.setIfInBounds i true) a' w' hr hh
      by_cases hk : k < 3
      · rw [if_pos hk] at h
        obtain ⟨v, hv, hK⟩ := h
        match k, hk with
        | 0, _ =>
          simp only [stepB, Bool.and_eq_true] at hst
          exact wpT_first (C := fun _ => True) [] [] (fun k hk => nomatch hk) (fun _ _ _ _ _ _ _ => trivial) (GE.refl S E E4) ho (Region.noSelect_spec hs) r.length listed a w (Region.free_spec ho hst.2) (fun k hk => nomatch hk) (fun k hk => nomatch hk) (by simpa using hst.1) trivial hv (ih _ _ hK)
        | 2, _ =>
          refine wpT_take (C := GK S w) hs (GE.refl S E E4) ho (show takeB md ops E4 i listed = true from hst) (fun j hj x y hx hxy => ?_) (GK.refl S w) hv (ih _ _ hK)
          rcases hxy with h1 | h1 | h1
          · rw [hj] at h1; exact absurd h1.1 (by decide)
          · exact GK.trans S _ _ _ hx h1.2
          · exact h1 ▸ hx
        | 1, _ =>
          refine wpT_take (C := fun w' => w' = w) hs (GE.refl S E E4) ho (show takeB md ops E i listed = true from hst) (fun j hj x y hx hxy => ?_) rfl hv (ih _ _ hK)
          rcases hxy with h1 | h1 | h1
          · rw [hj] at h1; exact absurd h1.2 (by decide)
          · rw [hj] at h1; exact absurd h1.1 (by decide)
          · exact h1.trans hx
      · rw [if_neg hk] at h
        by_cases h3 : k = 3
        · rw [if_pos h3] at h
          subst h3
          have hst' : (Region.ready md ops listed == [i] && E.contains i) = true := hst
          rw [Bool.and_eq_true] at hst'
          have hrd : Region.ready md ops listed = [i] := by simpa using hst'.1
          exact wpT_just hrd (opG_mono (fun x hx => .inr (.inl ⟨hst'.2, hx⟩)) (fun a' w' hh => ih a' w' hh) h)
        · rw [if_neg h3] at h
          have hst' : (Region.ready md ops listed == [i] && (E.contains i && E4.contains i)) = true := by
            match k, hk, h3 with
            | k + 4, _, _ => exact hst
          rw [Bool.and_eq_true, Bool.and_eq_true] at hst'
          have hrd : Region.ready md ops listed = [i] := by simpa using hst'.1
          exact wpT_just hrd (opG_mono (fun x _ => .inl ⟨hst'.2.2, hst'.2.1⟩) (fun a' w' hh => ih a' w' hh) h)
/-- A region that draws its order. -/
theorem wp_region_S {id : Nat} {l : List Oper} {Q : Exit → Act → World → Prop} {a : Act} {w : World} (S : Nat → Prop) (plan : List (Nat × Nat)) (hm : P.follows .mixedOrders = true)
    (hp : (Region.noSelect l.toArray && (plan.length == l.toArray.size) && planB .any l.toArray (effs l.toArray) (fours plan) plan (Array.replicate l.toArray.size false)) = true)
    (h : wpS P l.toArray S (fun a' w' => Q .normal a' w') plan a w.drew) : (Code.region id l.toArray true).wp P Q a w := by
  rw [Bool.and_eq_true, Bool.and_eq_true] at hp
  obtain ⟨⟨h1, h2⟩, h3⟩ := hp
  have h4 := wpT_of_S h1 plan _ a w.drew h3 h
  have h5 : plan.length = l.toArray.size := by simpa using h2
  rw [h5] at h4
  exact wp_region_any hm (wpAny_of_T (fun _ _ h => h) _ _ _ _ h4)
theorem wpOps_of_S {Q : Exit → Act → World → Prop} : ∀ (plan : List (Nat × Nat)) (a : Act) (w : World), wpS P ops S (fun a' w' => Q .normal a' w') plan a w → wpOps P ops Q (plan.map (·.1)) a w
  | [], _, _, h => h
  | (i, k) :: r, a, w, h => by
    rw [List.map_cons, wpOps_cons]
    unfold wpS opS at h
    cases ho : ops[i]? with
    | none => rw [ho] at h; exact h.elim
    | some o =>
      rw [ho] at h
      dsimp only at h
      by_cases hk : k < 3
      · rw [if_pos hk] at h
        obtain ⟨v, hv, hK⟩ := h
        have hw : clsS S k w w := by
          match k, hk with
          | 0, _ => exact trivial
          | 1, _ => exact rfl
          | 2, _ => exact GK.refl S w
        exact wpOp_of_opG (fun a' w' hh => wpOps_of_S r a' w' hh) (FixIn.opG (G := fun _ _ => True) ho hv hw trivial hK)
      · rw [if_neg hk] at h
        split at h
        · exact wpOp_of_opG (fun a' w' hh => wpOps_of_S r a' w' hh) h
        · exact wpOp_of_opG (fun a' w' hh => wpOps_of_S r a' w' hh) h
/-- So many operations that read, by the kit's own steps. -/
theorem wpS_batch {l : List Oper} {Q : Act → World → Prop} {w : World} {k : Nat} {rest : List (Nat × Nat)} (hk : k < 3) : ∀ (idx : List Nat) (a : Act),
    (idx.all fun i => ((l[i]?).map noEnter).getD false) = true → wpQuiet P l.toArray (clsS S k w) (fun a' => wpS P l.toArray S Q rest a' w) (pickL l idx) a → wpS P l.toArray S Q (idx.map (fun i => (i, k)) ++ rest) a w
  | [], _, _, h => h
  | i :: r, a, hB, h => by
    simp only [List.all_cons, Bool.and_eq_true] at hB
    obtain ⟨hn, hB'⟩ := hB
    obtain ⟨o, hi⟩ : ∃ o, l[i]? = some o := by
      cases ho : l[i]? with
      | none => rw [ho] at hn; simp at hn
      | some o => exact ⟨o, rfl⟩
    rw [hi] at hn
    have hn' : noEnter o = true := by simpa using hn
    have hi' : l.toArray[i]? = some o := by simpa using hi
    rw [pickL, nthL_spec l i o hi, List.singleton_append] at h
    have hst : qOp P l.toArray (clsS S k w) i (wpQuiet P l.toArray (clsS S k w) (fun a' => wpS P l.toArray S Q rest a' w) (pickL l r)) a := by unfold qOp; simp only [hi']; exact h
    obtain ⟨v, hy, hK⟩ := yieldsIn_of_qOp hi' hst
    have hfix : FixIn P l.toArray (clsS S k w) o v a := by
      rcases hy with ⟨hw, hq⟩ | ⟨hw, rfl⟩
      · refine .inl ⟨hw, fun x hx => ?_⟩
        have h1 := hq x hx
        unfold Oper.quietAt at h1
        have hne := noEnter_spec (P := P) hn' a.eval x
        generalize (execOp a.eval o).run P x = res at *
        cases res with
        | ok n w' =>
          cases n <;> simp only [Oper.quietUpon] at h1
          case value u => obtain ⟨rfl, rfl⟩ := h1; exact .inl rfl
          case skip => obtain ⟨rfl, rfl⟩ := h1; exact .inr ⟨rfl, rfl⟩
          case enter f args => exact absurd rfl (hne f args w')
        | halt y w' => simp only [Oper.quietUpon] at h1
      · exact .inr ⟨hw, rfl⟩
    show opS P l.toArray S i k (wpS P l.toArray S Q (r.map (fun i => (i, k)) ++ rest)) a w
    unfold opS
    rw [hi']
    dsimp only
    rw [if_pos hk]
    exact ⟨v, hfix, wpS_batch hk r _ hB' hK⟩
end
section
variable {P : Program} {l : List Oper} {S : Nat → Prop} {Q : Act → World → Prop} {w : World} {a : Act} {rest : List (Nat × Nat)}
/-- Reading operations, by the kit's steps: in all worlds; in this one; in those where S stays. -/
theorem wpS_all (idx : List Nat) {plan : List (Nat × Nat)} (hp : plan = idx.map (fun i => (i, 0)) ++ rest) (hB : (idx.all fun i => ((l[i]?).map noEnter).getD false) = true) {lo : List Oper} (ho : pickL l idx = lo) (h : wpQuiet P l.toArray (fun _ => True) (fun a' => wpS P l.toArray S Q rest a' w) lo a) : wpS P l.toArray S Q plan a w := by
  subst hp ho
  exact wpS_batch (by omega) idx a hB h
theorem wpS_this (idx : List Nat) {plan : List (Nat × Nat)} (hp : plan = idx.map (fun i => (i, 1)) ++ rest) (hB : (idx.all fun i => ((l[i]?).map noEnter).getD false) = true) {lo : List Oper} (ho : pickL l idx = lo) (h : wpQuiet P l.toArray (fun w' => w' = w) (fun a' => wpS P l.toArray S Q rest a' w) lo a) : wpS P l.toArray S Q plan a w := by
  subst hp ho
  exact wpS_batch (by omega) idx a hB h
theorem wpS_stay (idx : List Nat) {plan : List (Nat × Nat)} (hp : plan = idx.map (fun i => (i, 2)) ++ rest) (hB : (idx.all fun i => ((l[i]?).map noEnter).getD false) = true) {lo : List Oper} (ho : pickL l idx = lo) (h : wpQuiet P l.toArray (fun w' => ∃ x : KeepS S w, w' = x.w) (fun a' => wpS P l.toArray S Q rest a' w) lo a) : wpS P l.toArray S Q plan a w := by
  subst hp ho
  exact wpS_batch (by omega) idx a hB h
theorem wpS_nil (h : Q a w) : wpS P l.toArray S Q [] a w := h
end
end Go.Proofs.YtcchkkdbagpgjaaGreat
namespace Go.Proofs.YtcchkkdbagpgjaaGreat
open Go Go.RowKit

/-- An object, and that it stays where its blocks do. -/
structure At where
  p : Asn
  owns : Owns p
def stars : List At → Asn
  | [] => emp
  | A :: l => star A.p (stars l)
theorem stars_owns : ∀ l, Owns (stars l)
  | [] => emp_owns
  | A :: l => star_owns A.owns (stars_owns l)
def boxT (b : Nat) (o : Obj) : At := ⟨BoxA b o, box_owns b o⟩
def prT (p : Prop) : At := ⟨pureA p emp, pureA_owns emp_owns⟩
def exT {α : Type} (f : α → List At) : At := ⟨exA fun x => stars (f x), exA_owns fun _ => stars_owns _⟩
/-- The objects l lie in W; from w on nothing else has turned but H0. -/
def Mem (l : List At) (H0 : Nat → Prop) (w W : World) : Prop := SEnd (stars l) H0 w W
def selA (l : List At) : List Nat → List At × List At
  | [] => ([], l)
  | i :: r =>
    match l[i]? with
    | none => ([], l)
    | some A => (A :: (selA (l.eraseIdx i) r).1, (selA (l.eraseIdx i) r).2)
section
variable {W W' w : World} {H H0 : Nat → Prop} {L L' M pre post rem : List At} {S : Nat → Prop}
theorem starl_emp {Q : Asn} (h : Q W H) : star emp Q W H := ⟨fun _ => False, H, fun _ h => h, h, fun _ h => h.elim, fun _ => ⟨.inr, fun h => h.elim (fun h => h.elim) id⟩⟩
theorem starl_emp' {Q : Asn} (h : star emp Q W H) : Q W H := emp_right (star_comm h)
theorem stars_pick : ∀ (l : List At) (i : Nat) (A : At) {W : World} {H : Nat → Prop}, l[i]? = some A → stars l W H → star A.p (stars (l.eraseIdx i)) W H
  | [], i, A, _, _, hi, _ => by simp at hi
  | B :: l, 0, A, _, _, hi, h => by
    simp only [List.getElem?_cons_zero, Option.some.injEq] at hi
    subst hi
    exact h
  | B :: l, i + 1, A, _, _, hi, h => by
    simp only [List.getElem?_cons_succ] at hi
    exact star_swap (star_mono (fun _ h => h) (fun _ h => stars_pick l i A hi h) h)
theorem stars_sel : ∀ (idx : List Nat) (l : List At) {W : World} {H : Nat → Prop}, stars l W H → star (stars (selA l idx).1) (stars (selA l idx).2) W H
  | [], l, _, _, h => starl_emp h
  | i :: r, l, _, _, h => by
    unfold selA
    split
    · exact starl_emp h
    · rename_i A hA
      exact star_assoc' (star_mono (fun _ h => h) (fun _ h => stars_sel r _ h) (stars_pick l i A hA h))
theorem stars_append : ∀ {l m : List At} {W : World} {H : Nat → Prop}, star (stars l) (stars m) W H → stars (l ++ m) W H
  | [], _, _, _, h => starl_emp' h
  | _ :: _, _, _, _, h => star_mono (fun _ h => h) (fun _ h => stars_append h) (star_assoc h)
theorem stars_split : ∀ {l m : List At} {W : World} {H : Nat → Prop}, stars (l ++ m) W H → star (stars l) (stars m) W H
  | [], _, _, _, h => starl_emp h
  | _ :: _, _, _, _, h => star_assoc' (star_mono (fun _ h => h) (fun _ h => stars_split h) h)

theorem mem_refl (h : stars L W H) : Mem L H W W := sEnd_refl h
theorem Mem.below (h : Mem L H0 w W) (hb : Below W.heap.size W W') : Mem L H0 w W' := SEnd.below (stars_owns L) h hb
theorem Mem.drew (h : Mem L H0 w W) : Mem L H0 w W.drew := h.below (ext_drew (ext_refl W))
/-- Some of the objects, in this order. -/
theorem Mem.only (h : Mem L H0 w W) (idx : List Nat) (hs : (selA L idx).1 = M) : Mem M H0 w W := by
  subst hs
  exact (SEnd.mono h fun _ h => star_comm (stars_sel idx L h)).drop
theorem Mem.sel (h : Mem L H0 w W) (idx : List Nat) (hs : selA L idx = (pre, rem)) : SEnd (star (stars pre) (stars rem)) H0 w W := by
  have h1 := SEnd.mono h fun _ h => stars_sel idx L h
  rw [hs] at h1
  exact h1
theorem Mem.front (h : Mem L H0 w W) (idx : List Nat) (hs : selA L idx = (pre, rem)) : Mem (pre ++ rem) H0 w W := SEnd.mono (h.sel idx hs) fun _ h => stars_append h
theorem Mem.pr {p : Prop} (h : Mem (prT p :: L) H0 w W) : p ∧ Mem L H0 w W := by
  obtain ⟨H', ⟨H1, H2, ⟨hp, h1⟩, h2, ha, he⟩, hf, hg⟩ := h
  refine ⟨hp, H2, h2, hf, fun k hk => hg k ((he k).2 (.inr hk))⟩
theorem Mem.addPr {p : Prop} (hp : p) (h : Mem L H0 w W) : Mem (prT p :: L) H0 w W := SEnd.mono h fun H h => ⟨fun _ => False, H, ⟨hp, fun _ h => h⟩, h, fun _ h => h.elim, fun _ => ⟨.inr, fun h => h.elim (fun h => h.elim) id⟩⟩
theorem Mem.ex {α : Type} {f : α → List At} (h : Mem (exT f :: L) H0 w W) : ∃ x, Mem (f x ++ L) H0 w W := by
  obtain ⟨H', ⟨H1, H2, ⟨x, h1⟩, h2, ha, he⟩, hf, hg⟩ := h
  exact ⟨x, H', stars_append ⟨H1, H2, h1, h2, ha, he⟩, hf, hg⟩
theorem Mem.addEx {α : Type} {f : α → List At} (x : α) (h : Mem (f x ++ L) H0 w W) : Mem (exT f :: L) H0 w W := SEnd.mono h fun _ h => star_mono (fun _ h => ⟨x, h⟩) (fun _ h => h) (stars_split h)
/-- What an object says of memory. -/
theorem Mem.have {p : Prop} (h : Mem L H0 w W) (i : Nat) {A : At} (hi : L[i]? = some A) (hp : ∀ H, A.p W H → p) : p := by
  obtain ⟨H, hs, _⟩ := h
  obtain ⟨H1, _, h1, _⟩ := stars_pick L i A hi hs
  exact hp H1 h1
theorem Mem.box {b : Nat} {o : Obj} (h : Mem L H0 w W) (i : Nat) (hi : L[i]? = some (boxT b o)) : W.heap[b]? = some o := h.have i hi fun _ h => h.1
/-- The cells of a block, as a walk reads them. -/
theorem Mem.cell {b : Nat} {cs : Array Value} {t : TypeId} (h : Mem L H0 w W) (i : Nat) (hi : L[i]? = some (boxT b (.cells cs t (0, 0)))) : ∀ j, W.cell? ⟨b, j, none⟩ = cs[j]? := fun j => by
  have := h.box i hi
  simp [World.cell?, this]
theorem Mem.cellL {b : Nat} {cs : List Value} {t : TypeId} (h : Mem L H0 w W) (i : Nat) (hi : L[i]? = some (boxT b (.cells cs.toArray t (0, 0)))) : ∀ j, W.cell? ⟨b, j, none⟩ = cs[j]? := fun j => by
  have := h.box i hi
  simp [World.cell?, this]
theorem Mem.cells0 {b : Nat} {cs : List Value} {t : TypeId} (h : Mem L H0 w W) (i : Nat) (hi : L[i]? = some (boxT b (.cells cs.toArray t (0, 0)))) : ∀ k u, cs[k]? = some u → W.cell? ⟨b, 0 + k, none⟩ = some u := fun k u hu => by
  rw [Nat.zero_add, h.cellL i hi k, hu]
/-- An object is replaced by what it is besides. -/
theorem Mem.as {A B : At} (h : Mem (A :: L) H0 w W) (hp : ∀ H, A.p W H → B.p W H) : Mem (B :: L) H0 w W := SEnd.mono h fun _ h => star_mono hp (fun _ h => h) h

/-- The blocks that objects cover. -/
def CovS (L : List At) (S : Nat → Prop) : Prop := ∀ W H, stars L W H → ∀ k, S k → H k
theorem covS_nil : CovS L fun k => k ∈ ([] : List Nat) := fun _ _ _ k hk => by simp at hk
theorem covS_of (i : Nat) {A : At} (hi : L[i]? = some A) {b : Nat} (hb : ∀ W H, A.p W H → H b) {bs : List Nat} (h : CovS L fun k => k ∈ bs) : CovS L fun k => k ∈ b :: bs := fun W H hs k hk => by
  rcases List.mem_cons.1 hk with rfl | hk
  · obtain ⟨H1, _, h1, _, _, he⟩ := stars_pick L i A hi hs
    exact (he k).2 (.inl (hb W H1 h1))
  · exact h W H hs k hk
theorem covS_box (i : Nat) {b : Nat} {o : Obj} (hi : L[i]? = some (boxT b o)) {bs : List Nat} (h : CovS L fun k => k ∈ bs) : CovS L fun k => k ∈ b :: bs := covS_of i hi (fun _ _H h => (h.2 b).2 rfl) h
theorem CovS.lt (h : CovS L S) (hm : Mem L H0 w W) : ∀ k, S k → k < W.heap.size := fun k hk => by
  obtain ⟨H, hs, _⟩ := hm
  exact (stars_owns L).lt W H hs k (h W H hs k hk)

/-- What a call owes: its answer v, and the objects post in place of pre. -/
def Does (pr : Program) (f : FuncId) (args : Array Value) (pre : List At) (v : Value) (post : List At) : Prop := ∀ W H, stars pre W H → Calls pr f args W fun e W' => e = .returned v ∧ SEnd (stars post) H W W'
def DoesU (pr : Program) (f : FuncId) (args : Array Value) (pre : List At) (post : Value → List At) : Prop := ∀ W H, stars pre W H → Calls pr f args W fun e W' => ∃ u, e = .returned u ∧ SEnd (stars (post u)) H W W'
variable {pr : Program} {f : FuncId} {args : Array Value} {v : Value}
theorem Does.of_gives (h : ∀ W H, stars pre W H → Gives pr f args W v) : Does pr f args pre v pre := fun W H hs => (h W H hs).mono fun e W' ⟨he, x, hx⟩ => ⟨he, by subst hx; exact SEnd.later (stars_owns pre) (sEnd_refl hs) x⟩
theorem Does.of_any (h : ∀ W, Gives pr f args W v) : Does pr f args [] v [] := .of_gives fun W _ _ => h W
theorem Does.to_u (h : Does pr f args pre v post) : DoesU pr f args pre fun u => prT (u = v) :: post := fun W H hs => (h W H hs).mono fun _e _W' ⟨he, hr⟩ => ⟨v, he, Mem.addPr rfl hr⟩
/-- A call, beside other objects. -/
theorem Does.mem (hc : Does pr f args pre v post) (h : Mem L H0 w W) (idx : List Nat) (hsel : selA L idx = (pre, rem)) (hS : CovS rem S) : Calls pr f args W fun e W' => e = .returned v ∧ Mem (post ++ rem) H0 w W' ∧ GK S W W' := by
  have hs := h.sel idx hsel
  have ht : Trip pr f args (stars pre) fun u => pureA (u = v) (stars post) := fun W H hs => (hc W H hs).mono fun e W' ⟨he, hr⟩ => ⟨v, he, hr.mono fun _ h => ⟨rfl, h⟩⟩
  refine (SEnd.call hs (stars_owns rem) ht S (hS W)).mono fun e W' ⟨u, he, h1, h2⟩ => ?_
  obtain ⟨H, ⟨H1, H2, ⟨hu, k1⟩, k2, k3, k4⟩, hf, hg⟩ := h1
  subst hu
  exact ⟨he, ⟨H, stars_append ⟨H1, H2, k1, k2, k3, k4⟩, hf, hg⟩, h2⟩
theorem DoesU.mem {post : Value → List At} (hc : DoesU pr f args pre post) (h : Mem L H0 w W) (idx : List Nat) (hsel : selA L idx = (pre, rem)) (hS : CovS rem S) : Calls pr f args W fun e W' => ∃ u, e = .returned u ∧ Mem (post u ++ rem) H0 w W' ∧ GK S W W' := by
  have hs := h.sel idx hsel
  exact (SEnd.call hs (stars_owns rem) (R := fun u => stars (post u)) hc S (hS W)).mono fun e W' ⟨u, he, h1, h2⟩ => ⟨u, he, h1.mono fun _ h => stars_append h, h2⟩
end

section
variable {P : Program} {ops : Array Oper} {S : Nat → Prop} {Q : Act → World → Prop} {a : Act} {W w : World} {H0 : Nat → Prop} {rest : List (Nat × Nat)} {i : Nat} {o : Oper} {L pre post rem : List At} {d : Option Tmp}
theorem wpS_eff (hi : ops[i]? = some o) (hw : Region.wanted o (yielded ops a.tmps) = true) {R : Value → World → Prop} (hrun : ∃ v W', (execOp a.eval o).run P W = .ok (.value v) W' ∧ R v W') (hG : ∀ v W', R v W' → GK S W W') (hd : o.dst = d)
    (h : ∀ v W', R v W' → wpS P ops S Q rest (a.put d v) W') : wpS P ops S Q ((i, 3) :: rest) a W := by
  subst hd
  show opS P ops S i 3 (wpS P ops S Q rest) a W
  unfold opS
  rw [hi]
  dsimp only
  rw [if_neg (by omega), if_pos rfl]
  unfold opG
  simp only [hi, hw, if_true]
  obtain ⟨v, W', hrun, hR⟩ := hrun
  rw [hrun]
  exact ⟨hG v W' hR, h v W' hR⟩
theorem wpS_unit (hi : ops[i]? = some o) (hw : Region.wanted o (yielded ops a.tmps) = true) {W' : World} (hrun : (execOp a.eval o).run P W = .ok .skip W') (hG : GK S W W') (hd : o.dst = none)
    (h : wpS P ops S Q rest a W') : wpS P ops S Q ((i, 3) :: rest) a W := by
  show opS P ops S i 3 (wpS P ops S Q rest) a W
  unfold opS
  rw [hi]
  dsimp only
  rw [if_neg (by omega), if_pos rfl]
  unfold opG
  simp only [hi, hw, if_true]
  rw [hrun]
  refine ⟨hG, ?_⟩
  rw [hd]
  exact h
theorem wpS_unit4 (hi : ops[i]? = some o) (hw : Region.wanted o (yielded ops a.tmps) = true) {W' : World} (hrun : (execOp a.eval o).run P W = .ok .skip W') (hd : o.dst = none)
    (h : wpS P ops S Q rest a W') : wpS P ops S Q ((i, 4) :: rest) a W := by
  show opS P ops S i 4 (wpS P ops S Q rest) a W
  unfold opS
  rw [hi]
  dsimp only
  rw [if_neg (by omega), if_neg (by omega)]
  unfold opG
  simp only [hi, hw, if_true]
  rw [hrun]
  refine ⟨trivial, ?_⟩
  rw [hd]
  exact h
/-- An operation whose guard does not hold. -/
theorem wpS_skip (hi : ops[i]? = some o) (hw : Region.wanted o (yielded ops a.tmps) = false) {k : Nat} (hd : o.dst = d) (h : wpS P ops S Q rest (a.put d undef) W) : wpS P ops S Q ((i, k) :: rest) a W := by
  subst hd
  show opS P ops S i k (wpS P ops S Q rest) a W
  unfold opS
  rw [hi]
  dsimp only
  split
  · exact ⟨undef, .inr ⟨hw, rfl⟩, h⟩
  · split
    · unfold opG
      simp only [hi, hw]
      exact h
    · unfold opG
      simp only [hi, hw]
      exact h
theorem wpS_enter (hi : ops[i]? = some o) (hw : Region.wanted o (yielded ops a.tmps) = true) {f : FuncId} {args : Array Value} (hrun : (execOp a.eval o).run P W = .ok (.enter f args) W) {R : Value → World → Prop} (hc : Calls P f args W fun e w' => ∃ v, e = .returned v ∧ R v w') (hG : ∀ v W', R v W' → GK S W W') (hd : o.dst = d)
    (h : ∀ v W', R v W' → wpS P ops S Q rest (a.put d v) W') : wpS P ops S Q ((i, 3) :: rest) a W := by
  subst hd
  show opS P ops S i 3 (wpS P ops S Q rest) a W
  unfold opS
  rw [hi]
  dsimp only
  rw [if_neg (by omega), if_pos rfl]
  unfold opG
  simp only [hi, hw, if_true]
  rw [hrun]
  exact Calls.mono hc fun e w'' ⟨v, he, hv⟩ => ⟨v, he, hG v w'' hv, h v w'' hv⟩
/-- A call of a function by its name runs it. -/
theorem run_call {f : Nat} {xs : Array Operand} {ts : Array TypeId} (ho : o.op = .call { callee := .value (.func f), args := xs, argTypes := ts }) (eg : ∀ args w, (callFunc f args).run P w = .ok (.enter f args) w) {args : Array Value} (hx : xs.map a.eval = args) : (execOp a.eval o).run P W = .ok (.enter f args) W := by
  simp [execOp, ho, resolve, invoke, Act.eval, Deferred.ofValue, eg, hx, go_sem]
  done
theorem wpS_does {f : Nat} {xs : Array Operand} {ts : Array TypeId} (hi : ops[i]? = some o) (hw : Region.wanted o (yielded ops a.tmps) = true) (ho : o.op = .call { callee := .value (.func f), args := xs, argTypes := ts }) (eg : ∀ args w, (callFunc f args).run P w = .ok (.enter f args) w) {args : Array Value} {v : Value}
    (hc : Does P f args pre v post) (hx : xs.map a.eval = args) (hm : Mem L H0 w W) (idx : List Nat) (hsel : selA L idx = (pre, rem)) (hS : CovS rem S) (hd : o.dst = d) (h : ∀ W', Mem (post ++ rem) H0 w W' → GK S W W' → wpS P ops S Q rest (a.put d v) W') : wpS P ops S Q ((i, 3) :: rest) a W :=
  wpS_enter hi hw (run_call ho eg hx) (R := fun u W' => u = v ∧ Mem (post ++ rem) H0 w W' ∧ GK S W W') ((hc.mem hm idx hsel hS).mono fun e W' ⟨he, h⟩ => ⟨v, he, rfl, h⟩) (fun _ _ h => h.2.2) hd fun u W' ⟨hu, h1, h2⟩ => by subst hu; exact h W' h1 h2
theorem wpS_doesU {f : Nat} {xs : Array Operand} {ts : Array TypeId} {post : Value → List At} (hi : ops[i]? = some o) (hw : Region.wanted o (yielded ops a.tmps) = true) (ho : o.op = .call { callee := .value (.func f), args := xs, argTypes := ts }) (eg : ∀ args w, (callFunc f args).run P w = .ok (.enter f args) w) {args : Array Value}
    (hc : DoesU P f args pre post) (hx : xs.map a.eval = args) (hm : Mem L H0 w W) (idx : List Nat) (hsel : selA L idx = (pre, rem)) (hS : CovS rem S) (hd : o.dst = d) (h : ∀ u W', Mem (post u ++ rem) H0 w W' → GK S W W' → wpS P ops S Q rest (a.put d u) W') : wpS P ops S Q ((i, 3) :: rest) a W :=
  wpS_enter hi hw (run_call ho eg hx) (R := fun u W' => Mem (post u ++ rem) H0 w W' ∧ GK S W W') (hc.mem hm idx hsel hS) (fun _ _ h => h.2) hd fun u W' h1 => h u W' h1.1 h1.2
theorem wpS_does0 {f : Nat} {ts : Array TypeId} {v : Value} {out : List At} (hi : ops[i]? = some o) (hw : Region.wanted o (yielded ops a.tmps) = true) (ho : o.op = .call { callee := .value (.func f), args := #[], argTypes := ts }) (eg : ∀ args w, (callFunc f args).run P w = .ok (.enter f args) w)
    (hc : Does P f #[] pre v post)  (hm : Mem L H0 w W) (idx : List Nat) (hsel : selA L idx = (pre, rem)) (hS : CovS rem S) (hout : post ++ rem = out) (hd : o.dst = d) (h : ∀ W', Mem out H0 w W' → GK S W W' → wpS P ops S Q rest (a.put d v) W') : wpS P ops S Q ((i, 3) :: rest) a W :=
  wpS_does hi hw ho eg hc (by simp []) hm idx hsel hS hd fun W' h1 h2 => h W' (hout ▸ h1) h2
theorem wpS_does1 {f : Nat} {x0 : Operand} {v0 : Value} {ts : Array TypeId} {v : Value} {out : List At} (hi : ops[i]? = some o) (hw : Region.wanted o (yielded ops a.tmps) = true) (ho : o.op = .call { callee := .value (.func f), args := #[x0], argTypes := ts }) (eg : ∀ args w, (callFunc f args).run P w = .ok (.enter f args) w)
    (hc : Does P f #[v0] pre v post) (h0 : a.eval x0 = v0) (hm : Mem L H0 w W) (idx : List Nat) (hsel : selA L idx = (pre, rem)) (hS : CovS rem S) (hout : post ++ rem = out) (hd : o.dst = d) (h : ∀ W', Mem out H0 w W' → GK S W W' → wpS P ops S Q rest (a.put d v) W') : wpS P ops S Q ((i, 3) :: rest) a W :=
  wpS_does hi hw ho eg hc (by simp [h0]) hm idx hsel hS hd fun W' h1 h2 => h W' (hout ▸ h1) h2
theorem wpS_doesU1 {f : Nat} {x0 : Operand} {v0 : Value} {ts : Array TypeId} {post : Value → List At} {out : Value → List At} (hi : ops[i]? = some o) (hw : Region.wanted o (yielded ops a.tmps) = true) (ho : o.op = .call { callee := .value (.func f), args := #[x0], argTypes := ts }) (eg : ∀ args w, (callFunc f args).run P w = .ok (.enter f args) w)
    (hc : DoesU P f #[v0] pre post) (h0 : a.eval x0 = v0) (hm : Mem L H0 w W) (idx : List Nat) (hsel : selA L idx = (pre, rem)) (hS : CovS rem S) (hout : ∀ u, post u ++ rem = out u) (hd : o.dst = d) (h : ∀ u W', Mem (out u) H0 w W' → GK S W W' → wpS P ops S Q rest (a.put d u) W') : wpS P ops S Q ((i, 3) :: rest) a W :=
  wpS_doesU hi hw ho eg hc (by simp [h0]) hm idx hsel hS hd fun u W' h1 h2 => h u W' (hout u ▸ h1) h2
theorem wpS_does2 {f : Nat} {x0 x1 : Operand} {v0 v1 : Value} {ts : Array TypeId} {v : Value} {out : List At} (hi : ops[i]? = some o) (hw : Region.wanted o (yielded ops a.tmps) = true) (ho : o.op = .call { callee := .value (.func f), args := #[x0, x1], argTypes := ts }) (eg : ∀ args w, (callFunc f args).run P w = .ok (.enter f args) w)
    (hc : Does P f #[v0, v1] pre v post) (h0 : a.eval x0 = v0) (h1 : a.eval x1 = v1) (hm : Mem L H0 w W) (idx : List Nat) (hsel : selA L idx = (pre, rem)) (hS : CovS rem S) (hout : post ++ rem = out) (hd : o.dst = d) (h : ∀ W', Mem out H0 w W' → GK S W W' → wpS P ops S Q rest (a.put d v) W') : wpS P ops S Q ((i, 3) :: rest) a W :=
  wpS_does hi hw ho eg hc (by simp [h0, h1]) hm idx hsel hS hd fun W' h1 h2 => h W' (hout ▸ h1) h2
theorem wpS_doesU2 {f : Nat} {x0 x1 : Operand} {v0 v1 : Value} {ts : Array TypeId} {post : Value → List At} {out : Value → List At} (hi : ops[i]? = some o) (hw : Region.wanted o (yielded ops a.tmps) = true) (ho : o.op = .call { callee := .value (.func f), args := #[x0, x1], argTypes := ts }) (eg : ∀ args w, (callFunc f args).run P w = .ok (.enter f args) w)
    (hc : DoesU P f #[v0, v1] pre post) (h0 : a.eval x0 = v0) (h1 : a.eval x1 = v1) (hm : Mem L H0 w W) (idx : List Nat) (hsel : selA L idx = (pre, rem)) (hS : CovS rem S) (hout : ∀ u, post u ++ rem = out u) (hd : o.dst = d) (h : ∀ u W', Mem (out u) H0 w W' → GK S W W' → wpS P ops S Q rest (a.put d u) W') : wpS P ops S Q ((i, 3) :: rest) a W :=
  wpS_doesU hi hw ho eg hc (by simp [h0, h1]) hm idx hsel hS hd fun u W' h1 h2 => h u W' (hout u ▸ h1) h2
theorem wpS_does3 {f : Nat} {x0 x1 x2 : Operand} {v0 v1 v2 : Value} {ts : Array TypeId} {v : Value} {out : List At} (hi : ops[i]? = some o) (hw : Region.wanted o (yielded ops a.tmps) = true) (ho : o.op = .call { callee := .value (.func f), args := #[x0, x1, x2], argTypes := ts }) (eg : ∀ args w, (callFunc f args).run P w = .ok (.enter f args) w)
    (hc : Does P f #[v0, v1, v2] pre v post) (h0 : a.eval x0 = v0) (h1 : a.eval x1 = v1) (h2 : a.eval x2 = v2) (hm : Mem L H0 w W) (idx : List Nat) (hsel : selA L idx = (pre, rem)) (hS : CovS rem S) (hout : post ++ rem = out) (hd : o.dst = d) (h : ∀ W', Mem out H0 w W' → GK S W W' → wpS P ops S Q rest (a.put d v) W') : wpS P ops S Q ((i, 3) :: rest) a W :=
  wpS_does hi hw ho eg hc (by simp [h0, h1, h2]) hm idx hsel hS hd fun W' h1 h2 => h W' (hout ▸ h1) h2
theorem wpS_doesU3 {f : Nat} {x0 x1 x2 : Operand} {v0 v1 v2 : Value} {ts : Array TypeId} {post : Value → List At} {out : Value → List At} (hi : ops[i]? = some o) (hw : Region.wanted o (yielded ops a.tmps) = true) (ho : o.op = .call { callee := .value (.func f), args := #[x0, x1, x2], argTypes := ts }) (eg : ∀ args w, (callFunc f args).run P w = .ok (.enter f args) w)
    (hc : DoesU P f #[v0, v1, v2] pre post) (h0 : a.eval x0 = v0) (h1 : a.eval x1 = v1) (h2 : a.eval x2 = v2) (hm : Mem L H0 w W) (idx : List Nat) (hsel : selA L idx = (pre, rem)) (hS : CovS rem S) (hout : ∀ u, post u ++ rem = out u) (hd : o.dst = d) (h : ∀ u W', Mem (out u) H0 w W' → GK S W W' → wpS P ops S Q rest (a.put d u) W') : wpS P ops S Q ((i, 3) :: rest) a W :=
  wpS_doesU hi hw ho eg hc (by simp [h0, h1, h2]) hm idx hsel hS hd fun u W' h1 h2 => h u W' (hout u ▸ h1) h2
theorem wpS_doesU4 {f : Nat} {x0 x1 x2 x3 : Operand} {v0 v1 v2 v3 : Value} {ts : Array TypeId} {post : Value → List At} {out : Value → List At} (hi : ops[i]? = some o) (hw : Region.wanted o (yielded ops a.tmps) = true) (ho : o.op = .call { callee := .value (.func f), args := #[x0, x1, x2, x3], argTypes := ts }) (eg : ∀ args w, (callFunc f args).run P w = .ok (.enter f args) w)
    (hc : DoesU P f #[v0, v1, v2, v3] pre post) (h0 : a.eval x0 = v0) (h1 : a.eval x1 = v1) (h2 : a.eval x2 = v2) (h3 : a.eval x3 = v3) (hm : Mem L H0 w W) (idx : List Nat) (hsel : selA L idx = (pre, rem)) (hS : CovS rem S) (hout : ∀ u, post u ++ rem = out u) (hd : o.dst = d) (h : ∀ u W', Mem (out u) H0 w W' → GK S W W' → wpS P ops S Q rest (a.put d u) W') : wpS P ops S Q ((i, 3) :: rest) a W :=
  wpS_doesU hi hw ho eg hc (by simp [h0, h1, h2, h3]) hm idx hsel hS hd fun u W' h1 h2 => h u W' (hout u ▸ h1) h2
theorem wpS_does5 {f : Nat} {x0 x1 x2 x3 x4 : Operand} {v0 v1 v2 v3 v4 : Value} {ts : Array TypeId} {v : Value} {out : List At} (hi : ops[i]? = some o) (hw : Region.wanted o (yielded ops a.tmps) = true) (ho : o.op = .call { callee := .value (.func f), args := #[x0, x1, x2, x3, x4], argTypes := ts }) (eg : ∀ args w, (callFunc f args).run P w = .ok (.enter f args) w)
    (hc : Does P f #[v0, v1, v2, v3, v4] pre v post) (h0 : a.eval x0 = v0) (h1 : a.eval x1 = v1) (h2 : a.eval x2 = v2) (h3 : a.eval x3 = v3) (h4 : a.eval x4 = v4) (hm : Mem L H0 w W) (idx : List Nat) (hsel : selA L idx = (pre, rem)) (hS : CovS rem S) (hout : post ++ rem = out) (hd : o.dst = d) (h : ∀ W', Mem out H0 w W' → GK S W W' → wpS P ops S Q rest (a.put d v) W') : wpS P ops S Q ((i, 3) :: rest) a W :=
  wpS_does hi hw ho eg hc (by simp [h0, h1, h2, h3, h4]) hm idx hsel hS hd fun W' h1 h2 => h W' (hout ▸ h1) h2
/-- A new variable, of a value. -/
theorem wpS_box {t : TypeId} {x : Operand} {v : Value} {cs : Array Value} {dd : Tmp} (hi : ops[i]? = some o) (hw : Region.wanted o (yielded ops a.tmps) = true) (ho : o.op = .box t x) (hx : a.eval x = v) (hcs : v.cells = cs) (hm : Mem L H0 w W) (hS : CovS L S) (hd : o.dst = some dd)
    (h : ∀ b W', Mem (boxT b (.cells cs t (0, 0)) :: L) H0 w W' → GK S W W' → wpS P ops S Q rest (a.put (some dd) (.pointer (some ⟨b, 0, none⟩))) W') : wpS P ops S Q ((i, 3) :: rest) a W := by
  refine wpS_eff hi hw (R := fun v W' => v = .pointer (some ⟨W.heap.size, 0, none⟩) ∧ W' = W.alloc (.cells cs t (0, 0))) ⟨_, _, ?_, rfl, rfl⟩ (fun v W' ⟨_, e⟩ => by subst e; exact GK.of_below (ext_alloc (ext_refl W) _) (hS.lt hm)) hd fun v W' ⟨hv, hW⟩ => ?_
  · unfold execOp
    simp only [ho, hx]
    subst hcs
    simp [Instr.box, newVar, newRow, go_sem]
  · subst hv hW
    exact h _ _ (SEnd.box (stars_owns L) hm _) (GK.of_below (ext_alloc (ext_refl W) _) (hS.lt hm))
theorem wpS_boxA {t : TypeId} {x : Operand} {cs : Array Value} {dd : Tmp} (hi : ops[i]? = some o) (hw : Region.wanted o (yielded ops a.tmps) = true) (ho : o.op = .box t x) (hx : a.eval x = .agg cs) (hm : Mem L H0 w W) (hS : CovS L S) (hd : o.dst = some dd)
    (h : ∀ b W', Mem (boxT b (.cells cs t (0, 0)) :: L) H0 w W' → GK S W W' → wpS P ops S Q rest (a.put (some dd) (.pointer (some ⟨b, 0, none⟩))) W') : wpS P ops S Q ((i, 3) :: rest) a W := wpS_box hi hw ho hx rfl hm hS hd h
theorem wpS_box1 {t : TypeId} {x : Operand} {v : Value} {dd : Tmp} (hi : ops[i]? = some o) (hw : Region.wanted o (yielded ops a.tmps) = true) (ho : o.op = .box t x) (hx : a.eval x = v) (hcs : v.cells = #[v]) (hm : Mem L H0 w W) (hS : CovS L S) (hd : o.dst = some dd)
    (h : ∀ b W', Mem (boxT b (.cells #[v] t (0, 0)) :: L) H0 w W' → GK S W W' → wpS P ops S Q rest (a.put (some dd) (.pointer (some ⟨b, 0, none⟩))) W') : wpS P ops S Q ((i, 3) :: rest) a W := wpS_box hi hw ho hx hcs hm hS hd h
/-- A new variable, of nothing. -/
theorem wpS_alloc {t : TypeId} {z : Value} {cs : Array Value} {dd : Tmp} (hi : ops[i]? = some o) (hw : Region.wanted o (yielded ops a.tmps) = true) (ho : o.op = .alloc t) (hz : (P.info? t).bind (fun i => i.zero) = some z) (hcs : z.cells = cs) (hm : Mem L H0 w W) (hS : CovS L S) (hd : o.dst = some dd)
    (h : ∀ b W', Mem (boxT b (.cells cs t (0, 0)) :: L) H0 w W' → GK S W W' → wpS P ops S Q rest (a.put (some dd) (.pointer (some ⟨b, 0, none⟩))) W') : wpS P ops S Q ((i, 3) :: rest) a W := by
  refine wpS_eff hi hw (R := fun v W' => v = .pointer (some ⟨W.heap.size, 0, none⟩) ∧ W' = W.alloc (.cells cs t (0, 0))) ⟨_, _, ?_, rfl, rfl⟩ (fun v W' ⟨_, e⟩ => by subst e; exact GK.of_below (ext_alloc (ext_refl W) _) (hS.lt hm)) hd fun v W' ⟨hv, hW⟩ => ?_
  · obtain ⟨n, hn, hz⟩ := Option.bind_eq_some_iff.1 hz
    unfold execOp
    simp only [ho]
    subst hcs
    simp [Instr.alloc, zeroValue, typeInfo, newVar, newRow, hn, hz, go_sem]
  · subst hv hW
    exact h _ _ (SEnd.box (stars_owns L) hm _) (GK.of_below (ext_alloc (ext_refl W) _) (hS.lt hm))
def putL : List Value → Nat → List Value → List Value
  | l, _, [] => l
  | l, off, v :: r => putL (l.set off v) (off + 1) r
theorem run_storeCells {b : Nat} {t : TypeId} : ∀ (vs : List Value) (cs : List Value) (off j : Nat) (W : World), W.heap[b]? = some (.cells cs.toArray t (0, 0)) → off + j + vs.length ≤ cs.length → (∀ v ∈ vs, v.oneCell' = true) →
    (storeCells ⟨b, off, none⟩ vs j).run P W = .ok () { W with heap := W.heap.setIfInBounds b (.cells (putL cs (off + j) vs).toArray t (0, 0)) }
  | [], cs, off, j, W, hb, _, _ => by
    have hlt := (Array.getElem?_eq_some_iff.1 hb).1
    have : W.heap.setIfInBounds b (.cells cs.toArray t (0, 0)) = W.heap := by
      apply Array.ext_getElem?
      intro k
      by_cases hk : b = k
      · subst hk; rw [Array.getElem?_setIfInBounds_self_of_lt hlt, hb]
      · rw [Array.getElem?_setIfInBounds_ne hk]
    simp [storeCells, putL, this, go_sem]
  | v :: vs, cs, off, j, W, hb, hl, h1 => by
    have hlt := (Array.getElem?_eq_some_iff.1 hb).1
    have hc : W.cell? ⟨b, off + j, none⟩ = some (cs[off + j]'(by simp only [List.length_cons] at hl; omega)) := by
      simp only [World.cell?, hb]
      simp only [List.length_cons] at hl
      simp [List.getElem?_eq_getElem (show off + j < cs.length by omega)]
    have hfz : W.frozen? ⟨b, off + j, none⟩ = false := by simp [World.frozen?, hb]
    have hone := h1 v List.mem_cons_self
    have hset : W.setCell ⟨b, off + j, none⟩ v = { W with heap := W.heap.setIfInBounds b (.cells (cs.set (off + j) v).toArray t (0, 0)) } := by
      unfold World.setCell
      congr 1
      apply Array.ext_getElem?
      intro k
      rw [Array.getElem?_modify]
      by_cases hk : b = k
      · subst hk
        rw [if_pos rfl, hb, Array.getElem?_setIfInBounds_self_of_lt hlt]
        simp
      · rw [if_neg hk, Array.getElem?_setIfInBounds_ne hk]
    have hrun : (store (Addr.add ⟨b, off, none⟩ j) v).run P W = .ok () (W.setCell ⟨b, off + j, none⟩ v) := by
      have e : Addr.add ⟨b, off, none⟩ j = ⟨b, off + j, none⟩ := addr_off b off j
      rw [e]
      cases v <;> simp_all [store, Sem.run, Value.oneCell']
    have ih := run_storeCells vs (cs.set (off + j) v) off (j + 1) (W.setCell ⟨b, off + j, none⟩ v) (by rw [hset]; exact Array.getElem?_setIfInBounds_self_of_lt hlt) (by rw [List.length_set]; simp only [List.length_cons] at hl; omega) fun u hu => h1 u (List.mem_cons_of_mem _ hu)
    show (Sem.run P (do store (Addr.add ⟨b, off, none⟩ j) v; storeCells ⟨b, off, none⟩ vs (j + 1)) W) = _
    rw [Sem.run_bind, hrun, Result.andThen_ok, ih, hset]
    simp [putL, Nat.add_assoc]
theorem Mem.setBox {b : Nat} {o : Obj} (h : Mem L H0 w W) (k : Nat) (hk : L[k]? = some (boxT b o)) (o' : Obj) (hS : CovS (L.eraseIdx k) S) : Mem (boxT b o' :: L.eraseIdx k) H0 w { W with heap := W.heap.setIfInBounds b o' } ∧ GK S W { W with heap := W.heap.setIfInBounds b o' } := by
  have h1 : SEnd (star (BoxA b o) (stars (L.eraseIdx k))) H0 w W := SEnd.mono h fun _ h => stars_pick L k _ hk h
  obtain ⟨H, hs, hf, hg⟩ := h1
  obtain ⟨H1, ⟨hb, hH⟩, _, h3⟩ := star_frame (stars_owns _) hs
  have hlt := (Array.getElem?_eq_some_iff.1 hb).1
  have hend : SEnd (BoxA b o') H1 W { W with heap := W.heap.setIfInBounds b o' } := by
    refine ⟨H1, ⟨Array.getElem?_setIfInBounds_self_of_lt hlt, hH⟩, ⟨rfl, rfl, rfl, by simp, fun j _ hn => ?_⟩, fun _ hk => .inl hk⟩
    exact Array.getElem?_setIfInBounds_ne fun e => hn ((hH j).2 e.symm)
  refine ⟨SEnd.trans (P := fun W1 H' => W1 = W ∧ H' = H) ⟨H, ⟨rfl, rfl⟩, hf, hg⟩ fun H' ⟨_, e⟩ => by subst e; exact (h3 _ _ hend).1, (h3 _ _ hend).2 S (hS W)⟩
/-- A store into a variable of one's own. -/
theorem wpS_store {t tt : TypeId} {x y : Operand} {b off : Nat} {v : Value} {vs cs cs' : List Value} (hi : ops[i]? = some o) (hw : Region.wanted o (yielded ops a.tmps) = true) (ho : o.op = .store t x y) (hx : a.eval x = .pointer (some ⟨b, off, none⟩)) (hy : a.eval y = v) (hv : v.cells.toList = vs) (hn : (P.info? t).map (fun i => i.size) = some vs.length) (hone : (vs.all Value.oneCell') = true)
    (hm : Mem L H0 w W) (k : Nat) (hk : L[k]? = some (boxT b (.cells cs.toArray tt (0, 0)))) (hlen : off + vs.length ≤ cs.length) (hcs : putL cs off vs = cs') (hS : CovS (L.eraseIdx k) S) (hd : o.dst = none) (h : ∀ W', Mem (boxT b (.cells cs'.toArray tt (0, 0)) :: L.eraseIdx k) H0 w W' → GK S W W' → wpS P ops S Q rest a W') : wpS P ops S Q ((i, 3) :: rest) a W := by
  obtain ⟨h1, h2⟩ := hm.setBox k hk (.cells cs'.toArray tt (0, 0)) hS
  obtain ⟨ti, hti, hsz⟩ := Option.map_eq_some_iff.1 hn
  refine wpS_unit hi hw ?_ h2 hd (h _ h1 h2)
  have hr := run_storeCells (P := P) vs cs off 0 W (hm.box k hk) (by omega) fun u hu => List.all_eq_true.1 hone u hu
  subst hcs
  have hvs : v.cells.size = vs.length := by rw [← hv]; simp
  have hsize : (sizeOf t).run P W = .ok vs.length W := by simp [sizeOf, typeInfo, hti, hsz, go_sem]
  have h3 : (storeVar t ⟨b, off, none⟩ v).run P W = .ok () { W with heap := W.heap.setIfInBounds b (.cells (putL cs off vs).toArray tt (0, 0)) } := by
    unfold storeVar
    rw [Sem.run_bind, hsize, Result.andThen_ok, if_neg (by rw [hvs]; simp), hv]
    simpa using hr
  unfold execOp
  simp only [ho, hx, hy, Instr.storeAt, Instr.sureAddr, Sem.run_bind, Sem.run_pure, Result.andThen_ok, h3]
theorem wpS_storeA {t tt : TypeId} {x y : Operand} {b off : Nat} {vs cs cs' : List Value} {L2 : List At} (hi : ops[i]? = some o) (hw : Region.wanted o (yielded ops a.tmps) = true) (ho : o.op = .store t x y) (hx : a.eval x = .pointer (some ⟨b, off, none⟩)) (hy : a.eval y = .agg vs.toArray) (hn : (P.info? t).map (fun i => i.size) = some vs.length) (hone : (vs.all Value.oneCell') = true)
    (hm : Mem L H0 w W) (k : Nat) (hk : L[k]? = some (boxT b (.cells cs.toArray tt (0, 0)))) (hL2 : L.eraseIdx k = L2) (hlen : Nat.ble (off + vs.length) cs.length = true) (hcs : putL cs off vs = cs') (hS : CovS L2 S) (hd : o.dst = none) (h : ∀ W', Mem (boxT b (.cells cs'.toArray tt (0, 0)) :: L2) H0 w W' → GK S W W' → wpS P ops S Q rest a W') : wpS P ops S Q ((i, 3) :: rest) a W := by
  subst hL2
  exact wpS_store hi hw ho hx hy (by simp [Value.cells]) hn hone hm k hk (Nat.le_of_ble_eq_true hlen) hcs hS hd h
theorem wpS_store1 {t tt : TypeId} {x y : Operand} {b off : Nat} {v : Value} {cs cs' : List Value} {L2 : List At} (hi : ops[i]? = some o) (hw : Region.wanted o (yielded ops a.tmps) = true) (ho : o.op = .store t x y) (hx : a.eval x = .pointer (some ⟨b, off, none⟩)) (hy : a.eval y = v) (hv : v.cells = #[v]) (hn : (P.info? t).map (fun i => i.size) = some 1) (hone : v.oneCell' = true)
    (hm : Mem L H0 w W) (k : Nat) (hk : L[k]? = some (boxT b (.cells cs.toArray tt (0, 0)))) (hL2 : L.eraseIdx k = L2) (hlen : Nat.ble (off + 1) cs.length = true) (hcs : cs.set off v = cs') (hS : CovS L2 S) (hd : o.dst = none) (h : ∀ W', Mem (boxT b (.cells cs'.toArray tt (0, 0)) :: L2) H0 w W' → GK S W W' → wpS P ops S Q rest a W') : wpS P ops S Q ((i, 3) :: rest) a W := by
  subst hL2
  exact wpS_store (vs := [v]) hi hw ho hx hy (by rw [hv]) hn (by simp [hone]) hm k hk (Nat.le_of_ble_eq_true hlen) (by simpa [putL] using hcs) hS hd h
/-- The same where no other operation may come up beside it. -/
theorem wpS_store4 {t tt : TypeId} {x y : Operand} {b off : Nat} {v : Value} {vs cs cs' : List Value} (hi : ops[i]? = some o) (hw : Region.wanted o (yielded ops a.tmps) = true) (ho : o.op = .store t x y) (hx : a.eval x = .pointer (some ⟨b, off, none⟩)) (hy : a.eval y = v) (hv : v.cells.toList = vs) (hn : (P.info? t).map (fun i => i.size) = some vs.length) (hone : (vs.all Value.oneCell') = true)
    (hm : Mem L H0 w W) (k : Nat) (hk : L[k]? = some (boxT b (.cells cs.toArray tt (0, 0)))) (hlen : off + vs.length ≤ cs.length) (hcs : putL cs off vs = cs') (hd : o.dst = none) (h : ∀ W', Mem (boxT b (.cells cs'.toArray tt (0, 0)) :: L.eraseIdx k) H0 w W' → wpS P ops S Q rest a W') : wpS P ops S Q ((i, 4) :: rest) a W := by
  obtain ⟨h1, _⟩ := hm.setBox k hk (.cells cs'.toArray tt (0, 0)) (covS_nil)
  obtain ⟨ti, hti, hsz⟩ := Option.map_eq_some_iff.1 hn
  refine wpS_unit4 hi hw ?_ hd (h _ h1)
  have hr := run_storeCells (P := P) vs cs off 0 W (hm.box k hk) (by omega) fun u hu => List.all_eq_true.1 hone u hu
  subst hcs
  have hvs : v.cells.size = vs.length := by rw [← hv]; simp
  have hsize : (sizeOf t).run P W = .ok vs.length W := by simp [sizeOf, typeInfo, hti, hsz, go_sem]
  have h3 : (storeVar t ⟨b, off, none⟩ v).run P W = .ok () { W with heap := W.heap.setIfInBounds b (.cells (putL cs off vs).toArray tt (0, 0)) } := by
    unfold storeVar
    rw [Sem.run_bind, hsize, Result.andThen_ok, if_neg (by rw [hvs]; simp), hv]
    simpa using hr
  unfold execOp
  simp only [ho, hx, hy, Instr.storeAt, Instr.sureAddr, Sem.run_bind, Sem.run_pure, Result.andThen_ok, h3]
theorem wpS_storeA4 {t tt : TypeId} {x y : Operand} {b off : Nat} {vs cs cs' : List Value} {L2 : List At} (hi : ops[i]? = some o) (hw : Region.wanted o (yielded ops a.tmps) = true) (ho : o.op = .store t x y) (hx : a.eval x = .pointer (some ⟨b, off, none⟩)) (hy : a.eval y = .agg vs.toArray) (hn : (P.info? t).map (fun i => i.size) = some vs.length) (hone : (vs.all Value.oneCell') = true)
    (hm : Mem L H0 w W) (k : Nat) (hk : L[k]? = some (boxT b (.cells cs.toArray tt (0, 0)))) (hL2 : L.eraseIdx k = L2) (hlen : Nat.ble (off + vs.length) cs.length = true) (hcs : putL cs off vs = cs') (hd : o.dst = none) (h : ∀ W', Mem (boxT b (.cells cs'.toArray tt (0, 0)) :: L2) H0 w W' → wpS P ops S Q rest a W') : wpS P ops S Q ((i, 4) :: rest) a W := by
  subst hL2
  exact wpS_store4 hi hw ho hx hy (by simp [Value.cells]) hn hone hm k hk (Nat.le_of_ble_eq_true hlen) hcs hd h
theorem wpS_store14 {t tt : TypeId} {x y : Operand} {b off : Nat} {v : Value} {cs cs' : List Value} {L2 : List At} (hi : ops[i]? = some o) (hw : Region.wanted o (yielded ops a.tmps) = true) (ho : o.op = .store t x y) (hx : a.eval x = .pointer (some ⟨b, off, none⟩)) (hy : a.eval y = v) (hv : v.cells = #[v]) (hn : (P.info? t).map (fun i => i.size) = some 1) (hone : v.oneCell' = true)
    (hm : Mem L H0 w W) (k : Nat) (hk : L[k]? = some (boxT b (.cells cs.toArray tt (0, 0)))) (hL2 : L.eraseIdx k = L2) (hlen : Nat.ble (off + 1) cs.length = true) (hcs : cs.set off v = cs') (hd : o.dst = none) (h : ∀ W', Mem (boxT b (.cells cs'.toArray tt (0, 0)) :: L2) H0 w W' → wpS P ops S Q rest a W') : wpS P ops S Q ((i, 4) :: rest) a W := by
  subst hL2
  exact wpS_store4 (vs := [v]) hi hw ho hx hy (by rw [hv]) hn (by simp [hone]) hm k hk (Nat.le_of_ble_eq_true hlen) (by simpa [putL] using hcs) hd h
end

section
variable {P : Program} {Q : Exit → Act → World → Prop} {K : Act → World → Prop} {a : Act} {w : World} {id j : Nat}
theorem then_normal (h : K a w) : Exit.then K Q .normal a w := h
theorem then_ret (h : Q .ret a w) : Exit.then K Q .ret a w := h
theorem then_exit (h : Q (.exit j) a w) : Exit.then K Q (.exit j) a w := h
theorem block_normal (h : Q .normal a w) : Exit.inBlock id Q .normal a w := h
theorem block_ret (h : Q .ret a w) : Exit.inBlock id Q .ret a w := h
theorem block_exit (h : Q .normal a w) : Exit.inBlock id Q (.exit id) a w := by simpa [Exit.inBlock] using h
theorem block_out (hn : j ≠ id) (h : Q (.exit j) a w) : Exit.inBlock id Q (.exit j) a w := by simpa [Exit.inBlock, hn] using h
/-- A region that draws, over the objects. -/
theorem wp_region_M {L : List At} {H0 : Nat → Prop} {w0 : World} {i : Nat} {l : List Oper} (S : Nat → Prop) (plan : List (Nat × Nat)) (hm : P.follows .mixedOrders = true)
    (hp : (Region.noSelect l.toArray && (plan.length == l.toArray.size) && planB .any l.toArray (effs l.toArray) (fours plan) plan (Array.replicate l.toArray.size false)) = true) (hM : Mem L H0 w0 w)
    (h : ∀ W, Mem L H0 w0 W → wpS P l.toArray S (fun a' w' => Q .normal a' w') plan a W) : (Code.region i l.toArray true).wp P Q a w := wp_region_S S plan hm hp (h _ hM.drew)
theorem wp_region_N {i : Nat} {l : List Oper} (plan : List (Nat × Nat)) (hp : (plan.map (·.1) == List.range l.toArray.size) = true)
    (h : wpS P l.toArray (fun k => k ∈ ([] : List Nat)) (fun a' w' => Q .normal a' w') plan a w) : (Code.region i l.toArray false).wp P Q a w :=
  wp_region (by rw [← (by simpa using hp : plan.map (·.1) = List.range l.toArray.size)]; exact wpOps_of_S plan a w h)
/-- The result lies in a variable of its own. -/
theorem ret_cell {fn : Func} {p : Tmp} {ty tt : TypeId} {b : Nat} {cs : Array Value} {td : TypeDesc} {R : Ending → World → Prop} {L : List At} {H0 : Nat → Prop} {w0 : World} (h : fn.results = #[.cell p ty]) (hm : Mem L H0 w0 w) (k : Nat) (hk : L[k]? = some (boxT b (.cells cs tt (0, 0)))) (hp : a.tmps.getD p undef = .pointer (some ⟨b, 0, none⟩))
    (hu : P.underlying ty = some td) (hd : (match td with | .struct _ | .array _ _ => true | _ => false) = true) (hi : (P.info? ty).map (·.size) = some cs.size) (hdf : a.defers = []) (hR : R (.returned (.agg cs)) w) : bodyPost P fn R .ret a w :=
  bodyPost_ret (results_cell_row h a.tmps w b tt cs (0, 0) td hp (hm.box k hk) hu hd hi) hdf hR
theorem does_ret {v v' : Value} {M post : List At} {H : Nat → Prop} {w W : World} (hm : Mem M H w W) (hv : v' = v) (hp : M = post) : (Ending.returned v' = .returned v ∧ SEnd (stars post) H w W) := by
  subst hv hp
  exact ⟨rfl, hm⟩
theorem doesU_ret {v : Value} {M : List At} {post : Value → List At} {H : Nat → Prop} {w W : World} (hm : Mem M H w W) (hp : M = post v) : ∃ u, Ending.returned v = .returned u ∧ SEnd (stars (post u)) H w W := by
  subst hp
  exact ⟨v, rfl, hm⟩
end
end Go.Proofs.YtcchkkdbagpgjaaGreat
namespace Go.Proofs.YtcchkkdbagpgjaaGreat
open Go Go.RowKit

theorem exists_least {p : Nat → Prop} (h : ∃ n, p n) : ∃ m, p m ∧ ∀ k, p k → m ≤ k := by
  obtain ⟨n, hn⟩ := h
  induction n using Nat.strongRecOn with
  | _ n ih =>
    by_cases hk : ∃ k, k < n ∧ p k
    · obtain ⟨k, hlt, hp⟩ := hk
      exact ih k hlt hp
    · refine ⟨n, hn, fun k hp => ?_⟩
      rcases Nat.lt_or_ge k n with h | h
      · exact absurd ⟨k, h, hp⟩ hk
      · exact h
section
variable {P : Program} {Q : Exit → Act → World → Prop} {c : Code} {a : Act} {w : World}
theorem wp_loop_J (J : Nat → Act → World → Prop) {n0 : Nat} (h0 : J n0 a w) (round : ∀ n a w, J n a w → c.wp P (Exit.then (fun a' w' => ∃ m, m < n ∧ J m a' w') Q) a w) : (Code.loop c).wp P Q a w := by
  classical
  have hl : ∀ a w, (∃ n, J n a w) → ∃ m, J m a w ∧ ∀ k, J k a w → m ≤ k := fun a w h => exists_least h
  let μ : Act → World → Nat := fun a w => if h : ∃ n, J n a w then Classical.choose (hl a w h) else 0
  have hμ : ∀ a w (h : ∃ n, J n a w), J (μ a w) a w ∧ ∀ k, J k a w → μ a w ≤ k := fun a w h => by
    have e : μ a w = Classical.choose (hl a w h) := dif_pos h
    rw [e]
    exact Classical.choose_spec (hl a w h)
  refine wp_loop (fun a w => ∃ n, J n a w) μ ⟨n0, h0⟩ fun a w h => ?_
  obtain ⟨h1, _⟩ := hμ a w h
  refine wp_mono (round _ a w h1) fun e a' w' he => ?_
  cases e with
  | normal =>
    obtain ⟨m, hm, hj⟩ := he
    exact ⟨⟨m, hj⟩, Nat.lt_of_le_of_lt ((hμ a' w' ⟨m, hj⟩).2 m hj) hm⟩
  | _ => exact he

def putAll (a : Act) : List (Nat × Value) → Act
  | [] => a
  | (s, v) :: r => putAll (a.put (some s) v) r
def maskF (slots : List Nat) (a : Act) : Act := putAll a (slots.map fun s => (s, undef))
theorem putAll_tmps : ∀ (l : List (Nat × Value)) (a : Act), (putAll a l).defers = a.defers ∧ (putAll a l).tmps.size = a.tmps.size ∧ ∀ j, (∀ x ∈ l, x.1 ≠ j) → (putAll a l).tmps[j]? = a.tmps[j]?
  | [], a => ⟨rfl, rfl, fun _ _ => rfl⟩
  | (s, v) :: r, a => by
    obtain ⟨h1, h2, h3⟩ := putAll_tmps r (a.put (some s) v)
    refine ⟨h1, by rw [putAll, h2]; simp [Act.put], fun j hj => ?_⟩
    rw [putAll, h3 j fun x hx => hj x (List.mem_cons_of_mem _ hx)]
    have : s ≠ j := hj _ List.mem_cons_self
    simp [Act.put, Array.getElem?_setIfInBounds_ne this]
theorem putAll_in (vs : Nat → Value) : ∀ (slots : List Nat) (a : Act) (j : Nat), j ∈ slots → j < a.tmps.size → (putAll a (slots.map fun s => (s, vs s))).tmps[j]? = some (vs j)
  | [], _, _, h, _ => by simp at h
  | s :: r, a, j, h, hl => by
    rw [List.map_cons, putAll]
    by_cases hr : j ∈ r
    · exact putAll_in vs r _ j hr (by simpa [Act.put] using hl)
    · have hs : s = j := by
        rcases List.mem_cons.1 h with e | e
        · exact e.symm
        · exact absurd e hr
      subst hs
      rw [(putAll_tmps _ _).2.2 s (by rintro x hx rfl; obtain ⟨y, hy, e⟩ := List.mem_map.1 hx; subst e; exact hr hy)]
      simp [Act.put, hl]
theorem unmask {slots : List Nat} {a a0 : Act} (h : maskF slots a = maskF slots a0) : a = putAll a0 (slots.map fun s => (s, a.tmps.getD s undef)) := by
  have hA := putAll_tmps (slots.map fun s => (s, undef)) a
  have h0 := putAll_tmps (slots.map fun s => (s, undef)) a0
  have hv := putAll_tmps (slots.map fun s => (s, a.tmps.getD s undef)) a0
  have hsz : a.tmps.size = a0.tmps.size := by
    have := congrArg (fun x => x.tmps.size) h
    simp only [maskF] at this
    rw [hA.2.1, h0.2.1] at this
    exact this
  have hdf : a.defers = a0.defers := by
    have := congrArg (fun x => x.defers) h
    simp only [maskF] at this
    rw [hA.1, h0.1] at this
    exact this
  have ht : a.tmps = (putAll a0 (slots.map fun s => (s, a.tmps.getD s undef))).tmps := by
    apply Array.ext_getElem?
    intro j
    by_cases hj : j ∈ slots
    · by_cases hlt : j < a.tmps.size
      · rw [putAll_in (fun s => a.tmps.getD s undef) slots a0 j hj (by omega)]
        simp [hlt]
      · rw [Array.getElem?_eq_none (by omega), Array.getElem?_eq_none (by rw [hv.2.1]; omega)]
    · have hne : ∀ (f : Nat → Value), ∀ x ∈ slots.map (fun s => (s, f s)), x.1 ≠ j := by
        rintro f x hx rfl
        obtain ⟨y, hy, e⟩ := List.mem_map.1 hx
        subst e
        exact hj hy
      rw [hv.2.2 j (hne _)]
      have := congrArg (fun x => x.tmps[j]?) h
      simp only [maskF] at this
      rw [hA.2.2 j (hne fun _ => undef), h0.2.2 j (hne fun _ => undef)] at this
      exact this
  have ext : ∀ x y : Act, x.tmps = y.tmps → x.defers = y.defers → x = y := by
    rintro ⟨_, _⟩ ⟨_, _⟩ h1 h2
    simp only at h1 h2
    rw [h1, h2]
  exact ext _ _ ht (hdf.trans hv.1.symm)
/-- The invariant J speaks of the slots that the loop writes, by the frame; all other slots are as at the entry. -/
theorem wp_loop_F (slots : List Nat) (J : Nat → (Nat → Value) → World → Prop) {n0 : Nat} (h0 : J n0 (fun s => a.tmps.getD s undef) w)
    (round : ∀ n (vs : Nat → Value) w', J n vs w' → c.wp P (Exit.then (fun a' w'' => maskF slots a' = maskF slots a ∧ ∃ m, m < n ∧ J m (fun s => a'.tmps.getD s undef) w'') Q) (putAll a (slots.map fun s => (s, vs s))) w') : (Code.loop c).wp P Q a w := by
  refine wp_loop_J (fun n a' w' => maskF slots a' = maskF slots a ∧ J n (fun s => a'.tmps.getD s undef) w') (n0 := n0) ⟨rfl, h0⟩ fun n a' w' ⟨hm, hj⟩ => ?_
  have := round n _ w' hj
  rw [← unmask hm] at this
  exact wp_mono this fun e a'' w'' he => by
    cases e with
    | normal =>
      obtain ⟨h1, m, h2, h3⟩ := he
      exact ⟨m, h2, h1, h3⟩
    | _ => exact he
end
end Go.Proofs.YtcchkkdbagpgjaaGreat
namespace Go.Proofs.YtcchkkdbagpgjaaGreat
open Go Go.RowKit

theorem fillS_from : ∀ (l : List Value) (k : Nat) (arr : Array Value), k + l.length = arr.size → (l.zipIdx k).foldl (fun cs x => cs.setIfInBounds x.snd x.fst) arr = (arr.toList.take k ++ l).toArray
  | [], k, arr, h => by
    simp only [List.zipIdx_nil, List.foldl_nil, List.append_nil]
    apply Array.toList_inj.1
    simp only [List.length_nil, Nat.add_zero] at h
    rw [List.take_of_length_le (by simp; omega)]
  | x :: l, k, arr, h => by
    rw [List.length_cons] at h
    rw [List.zipIdx_cons, List.foldl_cons, fillS_from l (k + 1) _ (by simp; omega)]
    apply Array.toList_inj.1
    dsimp only
    rw [Array.toList_setIfInBounds]
    have hk : k < arr.toList.length := by simp; omega
    rw [List.take_add_one, List.getElem?_set_self hk, List.take_set_of_le (Nat.le_refl _)]
    simp
theorem fillS_all (l : List Value) (arr : Array Value) (h : l.length = arr.size) : l.zipIdx.foldl (fun cs x => cs.setIfInBounds x.snd x.fst) arr = l.toArray := by
  rw [fillS_from l 0 arr (by omega)]
  rfl
section
variable {P : Program} {α : Type} {E : Elem P α} {w W W' : World} {v v2 : Value} {xs l2 : List α} {H0 : Nat → Prop} {L rem : List At}
theorem runR_append (ty : TypeId) (hm : W.ownsRow 0 E.t E.k v xs.length (E.cells xs)) (hs : SrcE E W v2 l2) (hb : (xs.length + l2.length) * E.bytes ≤ 140737488355328) :
    ∃ v' w', (Builtin.append_ #[E.sl, E.sl] ty #[v, v2]).run P W = .ok v' w' ∧ w'.ownsRow 0 E.t E.k v' (xs ++ l2).length (E.cells (xs ++ l2)) ∧ W.grownBy w' v.ownBlock ∧ ∀ g, v'.ownBlock = some g → v.ownBlock = some g ∨ W.heap.size ≤ g := by
  obtain ⟨i0, hi, hz0, hz1, hz2⟩ := info_parts E.info
  obtain ⟨hl, p, cap, rfl, hlc, hpc⟩ := hs
  cases p with
  | none =>
    obtain rfl := hpc rfl
    obtain rfl : l2 = [] := List.eq_nil_of_length_eq_zero (by omega)
    refine ⟨v, W, run_append_owned_none (P := P) (w := W) 0 E.sl ty E.t i0 E.k E.under hi v xs.length (E.cells xs) hm, ?_, ⟨rfl, rfl, rfl, Nat.le_refl _, fun _ _ _ => rfl⟩, fun g h => .inl h⟩
    rw [List.append_nil]
    exact hm
  | some a =>
    have hnews : ∀ j u, (E.cells l2)[j]? = some u → W.cell? (a.add j) = some u := by
      intro j u hu
      rcases hl with ⟨rfl, _⟩ | ⟨b, o, cap', he, hlt, hc⟩
      · simp [Elem.cells] at hu
      · simp only [Value.slice.injEq, Option.some.injEq] at he
        obtain ⟨rfl, _, _⟩ := he
        rw [addr_off]
        obtain ⟨i, j', x, rfl, hx, hu'⟩ := E.cells_inv l2 j u hu
        rw [← Nat.add_assoc]
        exact hc i x hx j' u hu'
    have hbp := E.bpos
    have hle : xs.length + l2.length ≤ 140737488355328 := Nat.le_trans (Nat.le_mul_of_pos_right _ hbp) hb
    obtain ⟨v', w', hr, h2, h3, h4⟩ := run_append_where (P := P) W E.sl ty E.t i0 E.z E.k E.bytes E.under hi hz0 hz1 hz2 E.zs E.pos v xs.length (E.cells xs) hm a l2.length cap (E.cells l2) (E.cells_len l2) hnews (E.cells_one l2) (by unfold maxLen; omega) hb
    refine ⟨v', w', hr, ?_, h3, h4⟩
    rw [List.length_append, E.cells_append]
    exact h2
/-- A row of one's own: all of its block. -/
def rowT (E : Elem P α) (v : Value) (xs : List α) : At where
  p := fun W H => W.ownsRow 0 E.t E.k v xs.length (E.cells xs) ∧ ∀ k, H k ↔ v.ownBlock = some k
  owns := ⟨fun _ _ h k hk => (h.1.lt k ((h.2 k).1 hk)).2, fun _ _ _ h _ hk => ⟨row_keepsE h.1 fun g hg => hk g ((h.2 g).2 hg), h.2⟩⟩
/-- What reads as a row. -/
def Reads (E : Elem P α) (A : At) (v : Value) (xs : List α) : Prop := ∀ W H, A.p W H → SrcE E W v xs
theorem rowT_reads : Reads E (rowT E v xs) v xs := fun _ _ h => ⟨rowAt_own h.1, ownsRow_formE h.1⟩
theorem Mem.src (h : Mem L H0 w W) (i : Nat) {A : At} (hi : L[i]? = some A) (hr : Reads E A v xs) : SrcE E W v xs := h.have i hi fun H h => hr W H h
theorem Mem.row (h : Mem L H0 w W) (i : Nat) {A : At} (hi : L[i]? = some A) (hr : ∀ W H, A.p W H → RowAt E W v xs) : RowAt E W v xs := h.have i hi fun H h => hr W H h
theorem Mem.nilRow (E : Elem P α) (h : Mem L H0 w W) : Mem (rowT E (.slice none 0 0) [] :: L) H0 w W := SEnd.mono h fun H h => ⟨fun _ => False, H, ⟨World.ownsRow_nil _ _ _ _, fun k => by simp [Value.ownBlock]⟩, h, fun _ h => h.elim, fun _ => ⟨.inr, fun h => h.elim (fun h => h.elim) id⟩⟩
theorem row_form (h : SrcE E W v xs) : ∃ p cap, v = .slice p xs.length cap := by obtain ⟨_, p, cap, h, _⟩ := h; exact ⟨p, cap, h⟩
/-- A new block of one element is a row. -/
theorem Mem.row1 {b : Nat} {x : α} {cs : Array Value} (hc : cs.toList = E.enc x) (h : Mem (boxT b (.cells cs E.t (0, 0)) :: L) H0 w W) : Mem (rowT E (.slice (some ⟨b, 0, none⟩) 1 1) [x] :: L) H0 w W := h.as fun H h => by
  have hl : cs.toList.length = E.k := by rw [hc, E.len]
  have hcells : E.cells [x] = E.enc x := by show E.enc x ++ [] = _; rw [List.append_nil]
  refine ⟨⟨by rw [E.cells_len], .inr ⟨b, 1, cs, rfl, Nat.zero_le _, h.1, Nat.le_refl _, by unfold maxLen; omega, by rw [Nat.one_mul, ← hl]; simp, ?_⟩⟩, fun k => ?_⟩
  · rw [hcells, ← hc]
    exact List.take_of_length_le (by rw [hl]; simp)
  · rw [h.2 k]
    simp [Value.ownBlock, eq_comm]
theorem run_build1 (E : Elem P α) {x : Value} (hx : x.cells.size = E.k) (hb : E.k ≤ 1000) (W : World) : (Instr.buildSlice E.sl 1 #[(0, x)]).run P W = .ok (.slice (some ⟨W.heap.size, 0, none⟩) 1 1) (W.alloc (.cells x.cells E.t (0, 0))) := by
  obtain ⟨i0, hi, hz0, hz1, hz2⟩ := info_parts E.info
  have hpos := E.pos
  have hu : (underlying E.sl).run P W = .ok (.slice E.t) W := by simp [underlying, E.under, go_sem]
  have hs : (sizeOf E.t).run P W = .ok E.k W := by simp [sizeOf, typeInfo, hi, hz1, go_sem]
  have hz : (zeroValue E.t).run P W = .ok E.z W := by simp [zeroValue, typeInfo, hi, hz0, go_sem]
  have hf : Instr.fill (fun i => some (i * E.k, E.k)) ((Array.range (1 * E.k)).map (E.z.cells[· % E.z.cells.size]!)) [(0, x)] = some x.cells := by
    have e : ∀ (cs z : Array Value), cs.size = z.size → cs.zipIdx.foldl (fun cs x => cs.setIfInBounds x.2 x.1) z = cs := by
      intro cs z h
      rw [← Array.foldl_toList, Array.toList_zipIdx, fillS_all _ _ (by simpa using h)]
    unfold Instr.fill
    simp only [Nat.zero_mul, Nat.zero_add]
    rw [if_neg (by simp [hx])]
    unfold Instr.fill
    congr 1
    exact e _ _ (by simp [hx])
  unfold Instr.buildSlice
  simp only [Sem.run_bind, hu, hs, Result.andThen_ok]
  rw [if_neg (by simp; omega), if_neg (by simp; omega)]
  simp only [Sem.run_bind, hz, Sem.run_pure, Result.andThen_ok, hf]
  simp [newRow, go_sem]
end
section
variable {P : Program} {ops : Array Oper} {S : Nat → Prop} {Q : Act → World → Prop} {a : Act} {W w : World} {H0 : Nat → Prop} {rest : List (Nat × Nat)} {i : Nat} {o : Oper} {L pre post rem : List At} {d : Option Tmp} {α : Type} {E : Elem P α}
/-- A reading operation, by its outcome. -/
theorem wpS_read {v : Value} (hi : ops[i]? = some o) (hw : Region.wanted o (yielded ops a.tmps) = true) (hrun : (execOp a.eval o).run P W = .ok (.value v) W) (hd : o.dst = d) (h : wpS P ops S Q rest (a.put d v) W) : wpS P ops S Q ((i, 1) :: rest) a W := by
  subst hd
  show opS P ops S i 1 (wpS P ops S Q rest) a W
  unfold opS
  rw [hi]
  dsimp only
  rw [if_pos (by omega)]
  exact ⟨v, .inl ⟨hw, fun x hx => .inl (by have e : x = W := hx; subst e; exact hrun)⟩, h⟩
/-- A function value. -/
theorem wpS_func {fn : Fn} {first cap : Array Operand} {v : Value} (hi : ops[i]? = some o) (hw : Region.wanted o (yielded ops a.tmps) = true) (ho : o.op = .makeFunc fn first cap) (hv : Value.func fn (first.map a.eval) (cap.map a.eval) = v) (hd : o.dst = d) (h : wpS P ops S Q rest (a.put d v) W) : wpS P ops S Q ((i, 0) :: rest) a W := by
  subst hd hv
  show opS P ops S i 0 (wpS P ops S Q rest) a W
  unfold opS
  rw [hi]
  dsimp only
  rw [if_pos (by omega)]
  refine ⟨_, .inl ⟨hw, fun x _ => .inl ?_⟩, h⟩
  unfold execOp
  simp only [ho, Instr.makeFunc, Sem.run_bind, Sem.run_pure, Result.andThen_ok]
theorem wpS_func1 {fn : Fn} {x : Operand} {v : Value} (hi : ops[i]? = some o) (hw : Region.wanted o (yielded ops a.tmps) = true) (ho : o.op = .makeFunc fn #[x] #[]) (hx : a.eval x = v) (hd : o.dst = d) (h : wpS P ops S Q rest (a.put d (.func fn #[v] #[])) W) : wpS P ops S Q ((i, 0) :: rest) a W := wpS_func hi hw ho (by simp [hx]) hd h
/-- A call of a function value. -/
theorem run_callV {f : Nat} {x : Operand} {xs : Array Operand} {ts : Array TypeId} {first cap : Array Value} (ho : o.op = .call { callee := .value x, args := xs, argTypes := ts }) (hx : a.eval x = .func (.func f) first cap) (eg : ∀ args w, (callFunc f args).run P w = .ok (.enter f args) w) {args : Array Value} (hxs : first ++ xs.map a.eval ++ cap = args) : (execOp a.eval o).run P W = .ok (.enter f args) W := by
  subst hxs
  unfold execOp
  simp only [ho, resolve, hx, Deferred.ofValue, invoke, Sem.run_bind, Sem.run_pure, Result.andThen_ok, eg]
theorem wpS_doesV1 {f : Nat} {x x1 : Operand} {ts : Array TypeId} {first cap : Array Value} {args : Array Value} {v v1 : Value} {out : List At} (hi : ops[i]? = some o) (hw : Region.wanted o (yielded ops a.tmps) = true) (ho : o.op = .call { callee := .value x, args := #[x1], argTypes := ts }) (hx : a.eval x = .func (.func f) first cap) (eg : ∀ args w, (callFunc f args).run P w = .ok (.enter f args) w)
    (hc : Does P f args pre v post) (h1 : a.eval x1 = v1) (hargs : first ++ #[v1] ++ cap = args) (hm : Mem L H0 w W) (idx : List Nat) (hsel : selA L idx = (pre, rem)) (hS : CovS rem S) (hout : post ++ rem = out) (hd : o.dst = d) (h : ∀ W', Mem out H0 w W' → GK S W W' → wpS P ops S Q rest (a.put d v) W') : wpS P ops S Q ((i, 3) :: rest) a W :=
  wpS_enter hi hw (run_callV ho hx eg (by rw [← hargs]; simp [h1])) (R := fun u W' => u = v ∧ Mem (post ++ rem) H0 w W' ∧ GK S W W') ((hc.mem hm idx hsel hS).mono fun e W' ⟨he, h⟩ => ⟨v, he, rfl, h⟩) (fun _ _ h => h.2.2) hd fun u W' ⟨hu, h1, h2⟩ => by subst hu; exact h W' (hout ▸ h1) h2
/-- The address of an element. -/
theorem wpS_index {x ix : Operand} {p : Option Addr} {n cap j : Nat} {xs : List α} {y : α} (hi : ops[i]? = some o) (hw : Region.wanted o (yielded ops a.tmps) = true) (ho : o.op = .indexAddr E.sl x ix) (hx : a.eval x = .slice p n cap) (hix : a.eval ix = .int .i64 (j : Int)) (hr : RowAt E W (.slice p n cap) xs) (hy : xs[j]? = some y) (hd : o.dst = d)
    (h : ∀ b off, (∀ k u, (E.enc y)[k]? = some u → W.cell? ⟨b, off + k, none⟩ = some u) → wpS P ops S Q rest (a.put d (.pointer (some ⟨b, off, none⟩))) W) : wpS P ops S Q ((i, 1) :: rest) a W := by
  obtain ⟨i0, hin, hz0, hz1, hz2⟩ := info_parts E.info
  have hlt := (List.getElem?_eq_some_iff.1 hy).1
  rcases hr with ⟨rfl, _⟩ | ⟨b, off, cap', he, _, hc⟩
  · simp at hlt
  · simp only [Value.slice.injEq] at he
    obtain ⟨rfl, rfl, _⟩ := he
    refine wpS_read hi hw (v := .pointer (some ⟨b, off + j * E.k, none⟩)) ?_ hd (h _ _ fun k u hu => hc j y hy k u hu)
    have hu : (underlying E.sl).run P W = .ok (.slice E.t) W := by simp [underlying, E.under, go_sem]
    have hs : (sizeOf E.t).run P W = .ok E.k W := by simp [sizeOf, typeInfo, hin, hz1, go_sem]
    unfold execOp
    simp only [ho, hx, hix, Instr.indexAt, asIntOf, Sem.run_bind, Sem.run_pure, Result.andThen_ok, hu]
    simp [hs, hlt, addr_off, go_sem]
theorem run_loadFrom {b off : Nat} {W : World} : ∀ (n i : Nat) (cells : List Value) (acc : Array Value), (∀ k u, cells[k]? = some u → W.cell? ⟨b, off + k, none⟩ = some u) → i + n = cells.length → acc = (cells.take i).toArray → (loadCellsFrom ⟨b, off, none⟩ i n acc).run P W = .ok cells.toArray W
  | 0, i, cells, acc, _, hn, ha => by
    subst ha
    rw [Nat.add_zero] at hn
    subst hn
    simp [loadCellsFrom, go_sem]
  | n + 1, i, cells, acc, h, hn, ha => by
    have hlt : i < cells.length := by omega
    have hc := h i cells[i] (List.getElem?_eq_getElem hlt)
    have hl : (load (Addr.add ⟨b, off, none⟩ i)).run P W = .ok cells[i] W := by
      rw [addr_off]
      simp [load, Sem.run, hc]
    unfold loadCellsFrom
    rw [Sem.run_bind, hl, Result.andThen_ok]
    refine run_loadFrom n (i + 1) cells _ h (by omega) ?_
    subst ha
    rw [List.take_add_one, List.getElem?_eq_getElem hlt]
    simp
/-- A struct read out of memory. -/
theorem wpS_loadA {t : TypeId} {x : Operand} {b off : Nat} {cells : List Value} {td : TypeDesc} (hi : ops[i]? = some o) (hw : Region.wanted o (yielded ops a.tmps) = true) (ho : o.op = .load t x) (hx : a.eval x = .pointer (some ⟨b, off, none⟩)) (hc : ∀ k u, cells[k]? = some u → W.cell? ⟨b, off + k, none⟩ = some u)
    (hu : P.underlying t = some td) (hd' : (match td with | .struct _ | .array _ _ => true | _ => false) = true) (hn : (P.info? t).map (·.size) = some cells.length) (hd : o.dst = d) (h : wpS P ops S Q rest (a.put d (.agg cells.toArray)) W) : wpS P ops S Q ((i, 1) :: rest) a W := by
  refine wpS_read hi hw ?_ hd h
  obtain ⟨ti, hti, hsz⟩ := Option.map_eq_some_iff.1 hn
  have h1 : (isAgg t).run P W = .ok true W := by
    have hu' : (underlying t).run P W = .ok td W := by simp [underlying, hu, go_sem]
    unfold isAgg
    rw [Sem.run_bind, hu', Result.andThen_ok]
    cases td <;> simp_all [go_sem]
  have h2 : (sizeOf t).run P W = .ok cells.length W := by simp [sizeOf, typeInfo, hti, hsz, go_sem]
  have h3 : (loadCells ⟨b, off, none⟩ cells.length).run P W = .ok cells.toArray W := run_loadFrom cells.length 0 cells #[] hc (by omega) (by simp)
  have h4 : (loadVar t ⟨b, off, none⟩).run P W = .ok (.agg cells.toArray) W := by
    unfold loadVar
    rw [Sem.run_bind, h1, Result.andThen_ok]
    simp only [if_true]
    rw [Sem.run_bind, h2, Result.andThen_ok, Sem.run_bind, h3, Result.andThen_ok]
    rfl
  unfold execOp
  simp only [ho, hx, Instr.loadAt, Instr.sureAddr, Sem.run_bind, Sem.run_pure, Result.andThen_ok, h4]
/-- A number and its like read out of memory. -/
theorem wpS_load1 {t : TypeId} {x : Operand} {b off : Nat} {u : Value} {td : TypeDesc} (hi : ops[i]? = some o) (hw : Region.wanted o (yielded ops a.tmps) = true) (ho : o.op = .load t x) (hx : a.eval x = .pointer (some ⟨b, off, none⟩)) (hc : W.cell? ⟨b, off, none⟩ = some u)
    (hu : P.underlying t = some td) (hd' : (match td with | .struct _ | .array _ _ => true | _ => false) = false) (hd : o.dst = d) (h : wpS P ops S Q rest (a.put d u) W) : wpS P ops S Q ((i, 1) :: rest) a W := by
  refine wpS_read hi hw ?_ hd h
  have h1 : (isAgg t).run P W = .ok false W := by
    have hu' : (underlying t).run P W = .ok td W := by simp [underlying, hu, go_sem]
    unfold isAgg
    rw [Sem.run_bind, hu', Result.andThen_ok]
    cases td <;> simp_all [go_sem]
  have h4 : (loadVar t ⟨b, off, none⟩).run P W = .ok u W := by
    unfold loadVar
    rw [Sem.run_bind, h1, Result.andThen_ok]
    simp [load, Sem.run, hc]
  unfold execOp
  simp only [ho, hx, Instr.loadAt, Instr.sureAddr, Sem.run_bind, Sem.run_pure, Result.andThen_ok, h4]
/-- A slice of one new element. -/
theorem wpS_build1 (E : Elem P α) {x : Operand} {v : Value} {y : α} {dd : Tmp} (hi : ops[i]? = some o) (hw : Region.wanted o (yielded ops a.tmps) = true) (ho : o.op = .buildSlice E.sl 1 #[(0, x)]) (hx : a.eval x = v) (hv : v.cells.toList = E.enc y) (hb : E.k ≤ 1000) (hm : Mem L H0 w W) (hS : CovS L S) (hd : o.dst = some dd)
    (h : ∀ b W', Mem (rowT E (.slice (some ⟨b, 0, none⟩) 1 1) [y] :: L) H0 w W' → GK S W W' → wpS P ops S Q rest (a.put (some dd) (.slice (some ⟨b, 0, none⟩) 1 1)) W') : wpS P ops S Q ((i, 3) :: rest) a W := by
  have hs : v.cells.size = E.k := by rw [← E.len y, ← hv]; simp
  refine wpS_eff hi hw (R := fun u W' => u = .slice (some ⟨W.heap.size, 0, none⟩) 1 1 ∧ W' = W.alloc (.cells v.cells E.t (0, 0))) ⟨_, _, ?_, rfl, rfl⟩ (fun v W' ⟨_, e⟩ => by subst e; exact GK.of_below (ext_alloc (ext_refl W) _) (hS.lt hm)) hd fun u W' ⟨hu, hW⟩ => ?_
  · unfold execOp
    simp only [ho, List.map_toArray, List.map_cons, List.map_nil, hx, Sem.run_bind, Sem.run_pure, Result.andThen_ok, run_build1 E hs hb]
  · subst hu hW
    exact h _ _ (Mem.row1 hv (SEnd.box (stars_owns L) hm _)) (GK.of_below (ext_alloc (ext_refl W) _) (hS.lt hm))
/-- A new block of some elements is a row. -/
theorem Mem.rowN {b n : Nat} {xs : List α} {cs : Array Value} (hc : cs.toList = E.cells xs) (hn : xs.length = n) (hl : n ≤ maxLen) (h : Mem (boxT b (.cells cs E.t (0, 0)) :: L) H0 w W) : Mem (rowT E (.slice (some ⟨b, 0, none⟩) n n) xs :: L) H0 w W := h.as fun H h => by
  subst hn
  have hz : cs.size = xs.length * E.k := by
    have := E.cells_len xs
    rw [← hc] at this
    simpa using this
  refine ⟨⟨by rw [E.cells_len], .inr ⟨b, xs.length, cs, rfl, Nat.zero_le _, h.1, Nat.le_refl _, hl, hz, ?_⟩⟩, fun k => ?_⟩
  · rw [← hc]
    exact List.take_of_length_le (by rw [Array.length_toList, hz]; exact Nat.le_refl _)
  · rw [h.2 k]
    simp [Value.ownBlock, eq_comm]
theorem wpS_buildN (E : Elem P α) {n : Nat} {xs : List α} {cs : Array Value} {dd : Tmp} (hi : ops[i]? = some o) (hw : Region.wanted o (yielded ops a.tmps) = true) (hrun : ∀ W : World, (execOp a.eval o).run P W = .ok (.value (.slice (some ⟨W.heap.size, 0, none⟩) n n)) (W.alloc (.cells cs E.t (0, 0)))) (hc : cs.toList = E.cells xs) (hn : (xs.length == n && Nat.ble n 1000) = true) (hm : Mem L H0 w W) (hS : CovS L S) (hd : o.dst = some dd)
    (h : ∀ b W', Mem (rowT E (.slice (some ⟨b, 0, none⟩) n n) xs :: L) H0 w W' → GK S W W' → wpS P ops S Q rest (a.put (some dd) (.slice (some ⟨b, 0, none⟩) n n)) W') : wpS P ops S Q ((i, 3) :: rest) a W := by
  rw [Bool.and_eq_true] at hn
  have hn1 : xs.length = n := by simpa using hn.1
  have hn2 : n ≤ maxLen := Nat.le_trans (Nat.le_of_ble_eq_true hn.2) (by decide)
  refine wpS_eff hi hw (R := fun u W' => u = .slice (some ⟨W.heap.size, 0, none⟩) n n ∧ W' = W.alloc (.cells cs E.t (0, 0))) ⟨_, _, hrun W, rfl, rfl⟩ (fun v W' ⟨_, e⟩ => by subst e; exact GK.of_below (ext_alloc (ext_refl W) _) (hS.lt hm)) hd fun u W' ⟨hu, hW⟩ => ?_
  subst hu hW
  exact h _ _ (Mem.rowN hc hn1 hn2 (SEnd.box (stars_owns L) hm _)) (GK.of_below (ext_alloc (ext_refl W) _) (hS.lt hm))
theorem Mem.append {v v2 : Value} {xs l2 : List α} (ty : TypeId) (h : Mem L H0 w W) (k : Nat) (hk : L[k]? = some (rowT E v xs)) (hs : SrcE E W v2 l2) (hb : (xs.length + l2.length) * E.bytes ≤ 140737488355328) (hS : CovS (L.eraseIdx k) S) :
    ∃ v' w', (Builtin.append_ #[E.sl, E.sl] ty #[v, v2]).run P W = .ok v' w' ∧ Mem (rowT E v' (xs ++ l2) :: L.eraseIdx k) H0 w w' ∧ GK S W w' := by
  have h1 : SEnd (star (rowT E v xs).p (stars (L.eraseIdx k))) H0 w W := SEnd.mono h fun _ h => stars_pick L k _ hk h
  obtain ⟨H, hst, hf, hg⟩ := h1
  obtain ⟨H1, h1, _, h3⟩ := star_frame (stars_owns _) hst
  obtain ⟨v', w', hr, h2, h4, h5⟩ := runR_append ty h1.1 hs hb
  have hstep : SEnd (rowT E v' (xs ++ l2)).p H1 W w' := by
    refine ⟨fun k => v'.ownBlock = some k, ⟨h2, fun _ => Iff.rfl⟩, Fr.of_grownBy h4 fun j hj => .inl ((h1.2 j).2 hj), fun k hk => ?_⟩
    rcases h5 k hk with h | h
    · exact .inl ((h1.2 k).2 h)
    · exact .inr h
  refine ⟨v', w', hr, ?_, (h3 _ _ hstep).2 S (hS W)⟩
  exact SEnd.trans (P := fun W1 H' => W1 = W ∧ H' = H) ⟨H, ⟨rfl, rfl⟩, hf, hg⟩ fun H' ⟨_, e⟩ => by subst e; exact (h3 _ _ hstep).1
/-- append, to a row of one's own. -/
theorem wpS_append {x y : Operand} {v v2 : Value} {xs l2 : List α} {L2 : List At} (hi : ops[i]? = some o) (hw : Region.wanted o (yielded ops a.tmps) = true) (ho : o.op = .call { callee := .builtin .append, args := #[x, y], argTypes := #[E.sl, E.sl] }) (hm : Mem L H0 w W) (k : Nat) (hk : L[k]? = some (rowT E v xs)) (hx : a.eval x = v) (hs : SrcE E W v2 l2) (hy : a.eval y = v2) (hb : (xs.length + l2.length) * E.bytes ≤ 140737488355328) (hL2 : L.eraseIdx k = L2) (hS : CovS L2 S) (hd : o.dst = d)
    (h : ∀ v' W', Mem (rowT E v' (xs ++ l2) :: L2) H0 w W' → GK S W W' → wpS P ops S Q rest (a.put d v') W') : wpS P ops S Q ((i, 3) :: rest) a W := by
  subst hL2
  obtain ⟨v', w', hr, h1, h2⟩ := hm.append o.type k hk hs hb hS
  refine wpS_eff hi hw (R := fun v' W' => Mem (rowT E v' (xs ++ l2) :: L.eraseIdx k) H0 w W' ∧ GK S W W') ⟨v', w', ?_, h1, h2⟩ (fun _ _ h => h.2) hd fun v' W' hh => h v' W' hh.1 hh.2
  unfold execOp
  simp only [ho, resolve, invoke, builtin, Sem.run_bind, Sem.run_pure, Result.andThen_ok, List.map_toArray, List.map_cons, List.map_nil, hx, hy, hr]
end
end Go.Proofs.YtcchkkdbagpgjaaGreat
namespace Go.Proofs.YtcchkkdbagpgjaaGreat
open Go Go.RowKit
section
variable {P : Program} {Q : Exit → Act → World → Prop} {c : Code} {a : Act} {w : World}
/-- A cut: what is behind it is walked once, over letters for the slots that lie ahead of it. -/
theorem wp_cut_F {K : Act → World → Prop} (slots : List Nat) (J : (Nat → Value) → World → Prop) (h1 : c.wp P (Exit.then (fun a' w' => maskF slots a' = maskF slots a ∧ J (fun s => a'.tmps.getD s undef) w') Q) a w)
    (h2 : ∀ vs w', J vs w' → Exit.then K Q .normal (putAll a (slots.map fun s => (s, vs s))) w') : c.wp P (Exit.then K Q) a w :=
  wp_mono h1 fun e a' w' he => by
    cases e with
    | normal =>
      obtain ⟨hm, hj⟩ := he
      have := h2 _ _ hj
      rw [← unmask hm] at this
      exact this
    | _ => exact he
end
end Go.Proofs.YtcchkkdbagpgjaaGreat
namespace Go.Proofs.YtcchkkdbagpgjaaGreat
open Go Go.RowKit
section
variable {P : Program} {ops : Array Oper} {S : Nat → Prop} {Q : Act → World → Prop} {rest : List (Nat × Nat)} {a : Act} {W : World} {i : Nat} {o : Oper} {d : Option Tmp}
theorem run_loadA {t : TypeId} {x : Operand} {b off : Nat} {cells : List Value} {td : TypeDesc} (ho : o.op = .load t x) (hx : a.eval x = .pointer (some ⟨b, off, none⟩)) (hc : ∀ k u, cells[k]? = some u → W.cell? ⟨b, off + k, none⟩ = some u)
    (hu : P.underlying t = some td) (hd' : (match td with | .struct _ | .array _ _ => true | _ => false) = true) (hn : (P.info? t).map (·.size) = some cells.length) : (execOp a.eval o).run P W = .ok (.value (.agg cells.toArray)) W := by
  obtain ⟨ti, hti, hsz⟩ := Option.map_eq_some_iff.1 hn
  have h1 : (isAgg t).run P W = .ok true W := by
    have hu' : (underlying t).run P W = .ok td W := by simp [underlying, hu, go_sem]
    unfold isAgg
    rw [Sem.run_bind, hu', Result.andThen_ok]
    cases td <;> simp_all [go_sem]
  have h2 : (sizeOf t).run P W = .ok cells.length W := by simp [sizeOf, typeInfo, hti, hsz, go_sem]
  have h3 : (loadCells ⟨b, off, none⟩ cells.length).run P W = .ok cells.toArray W := run_loadFrom cells.length 0 cells #[] hc (by omega) (by simp)
  have h4 : (loadVar t ⟨b, off, none⟩).run P W = .ok (.agg cells.toArray) W := by
    unfold loadVar
    rw [Sem.run_bind, h1, Result.andThen_ok]
    simp only [if_true]
    rw [Sem.run_bind, h2, Result.andThen_ok, Sem.run_bind, h3, Result.andThen_ok]
    rfl
  unfold execOp
  simp only [ho, hx, Instr.loadAt, Instr.sureAddr, Sem.run_bind, Sem.run_pure, Result.andThen_ok, h4]
theorem run_load1 {t : TypeId} {x : Operand} {b off : Nat} {u : Value} {td : TypeDesc} (ho : o.op = .load t x) (hx : a.eval x = .pointer (some ⟨b, off, none⟩)) (hc : W.cell? ⟨b, off, none⟩ = some u)
    (hu : P.underlying t = some td) (hd' : (match td with | .struct _ | .array _ _ => true | _ => false) = false) : (execOp a.eval o).run P W = .ok (.value u) W := by
  have h1 : (isAgg t).run P W = .ok false W := by
    have hu' : (underlying t).run P W = .ok td W := by simp [underlying, hu, go_sem]
    unfold isAgg
    rw [Sem.run_bind, hu', Result.andThen_ok]
    cases td <;> simp_all [go_sem]
  have h4 : (loadVar t ⟨b, off, none⟩).run P W = .ok u W := by
    unfold loadVar
    rw [Sem.run_bind, h1, Result.andThen_ok]
    simp [load, Sem.run, hc]
  unfold execOp
  simp only [ho, hx, Instr.loadAt, Instr.sureAddr, Sem.run_bind, Sem.run_pure, Result.andThen_ok, h4]
theorem wpS_read2 {v : Value} (hi : ops[i]? = some o) (hw : Region.wanted o (yielded ops a.tmps) = true) (hrun : ∀ x, GK S W x → (execOp a.eval o).run P x = .ok (.value v) x) (hd : o.dst = d) (h : wpS P ops S Q rest (a.put d v) W) : wpS P ops S Q ((i, 2) :: rest) a W := by
  subst hd
  show opS P ops S i 2 (wpS P ops S Q rest) a W
  unfold opS
  rw [hi]
  dsimp only
  rw [if_pos (by omega)]
  exact ⟨v, .inl ⟨hw, fun x hx => .inl (hrun x hx)⟩, h⟩
theorem GK.cell {x : World} (h : GK S W x) {b off : Nat} (hb : S b) : x.cell? ⟨b, off, none⟩ = W.cell? ⟨b, off, none⟩ := by
  obtain ⟨y, rfl⟩ := h
  exact y.cell _ hb
/-- A struct read out of a block that stays. -/
theorem wpS_loadA2 {t : TypeId} {x : Operand} {b off : Nat} {cells : List Value} {td : TypeDesc} (hi : ops[i]? = some o) (hw : Region.wanted o (yielded ops a.tmps) = true) (ho : o.op = .load t x) (hx : a.eval x = .pointer (some ⟨b, off, none⟩)) (hb : S b) (hc : ∀ k u, cells[k]? = some u → W.cell? ⟨b, off + k, none⟩ = some u)
    (hu : P.underlying t = some td) (hd' : (match td with | .struct _ | .array _ _ => true | _ => false) = true) (hn : (P.info? t).map (·.size) = some cells.length) (hd : o.dst = d) (h : wpS P ops S Q rest (a.put d (.agg cells.toArray)) W) : wpS P ops S Q ((i, 2) :: rest) a W :=
  wpS_read2 hi hw (fun _y hy => run_loadA ho hx (fun k u hk => (hy.cell hb).trans (hc k u hk)) hu hd' hn) hd h
theorem wpS_load12 {t : TypeId} {x : Operand} {b off : Nat} {u : Value} {td : TypeDesc} (hi : ops[i]? = some o) (hw : Region.wanted o (yielded ops a.tmps) = true) (ho : o.op = .load t x) (hx : a.eval x = .pointer (some ⟨b, off, none⟩)) (hb : S b) (hc : W.cell? ⟨b, off, none⟩ = some u)
    (hu : P.underlying t = some td) (hd' : (match td with | .struct _ | .array _ _ => true | _ => false) = false) (hd : o.dst = d) (h : wpS P ops S Q rest (a.put d u) W) : wpS P ops S Q ((i, 2) :: rest) a W :=
  wpS_read2 hi hw (fun _y hy => run_load1 ho hx ((hy.cell hb).trans hc) hu hd') hd h
end
end Go.Proofs.YtcchkkdbagpgjaaGreat
namespace Go.Proofs.YtcchkkdbagpgjaaGreat
open Go Go.RowKit

/-- The memory that a call found. -/
def OldA (w : World) : Asn := fun W H => w.heap.size ≤ W.heap.size ∧ (∀ k, k < w.heap.size → W.heap[k]? = w.heap[k]?) ∧ ∀ k, H k ↔ k < w.heap.size
theorem oldA_owns (w : World) : Owns (OldA w) := ⟨fun _ _ h k hk => Nat.lt_of_lt_of_le ((h.2.2 k).1 hk) h.1, fun _ _ _ h hs hk => ⟨Nat.le_trans h.1 hs, fun k hl => (hk k ((h.2.2 k).2 hl)).trans (h.2.1 k hl), h.2.2⟩⟩
section
variable {P : Asn} {w W : World} {H : Nat → Prop}
theorem oldA_self (w : World) : OldA w w fun k => k < w.heap.size := ⟨Nat.le_refl _, fun _ _ => rfl, fun _ => .rfl⟩
theorem OldA.row {pr : Program} {α : Type} {E : Elem pr α} {v : Value} {l : List α} (h : OldA w W H) (hv : RowAt E w v l) : RowAt E W v l := hv.kept h.1 fun _ _ _ _ hl he => h.2.1 _ (hv.lt hl he)
/-- And set aside again: nothing of it has turned. -/
theorem SEnd.noOld (h : SEnd (star (OldA w) P) (fun k => k < w.heap.size) w W) : SEnd P (fun _ => False) w W := by
  obtain ⟨H', ⟨H1, H2, ho, hp, ha, he⟩, hf, hn⟩ := h
  refine ⟨H2, hp, ⟨hf.os, hf.tape, hf.output, hf.size, fun k hk _ => ho.2.1 k hk⟩, fun k hk => .inr ?_⟩
  refine Nat.le_of_not_lt fun hlt => ha k ((ho.2.2 k).2 hlt) hk
/-- At a law's end: a later world. -/
theorem SEnd.ended (h : SEnd P (fun _ => False) w W) : Below w.heap.size w W := by
  obtain ⟨_, _, hf, _⟩ := h
  exact ⟨hf.os, hf.tape, hf.output, hf.size, fun k hk => hf.block k hk (fun h => h)⟩
end
end Go.Proofs.YtcchkkdbagpgjaaGreat
namespace Go.Proofs.YtcchkkdbagpgjaaGreat
open Go Go.RowKit Go.BigFrame

section
variable {P : Program} {l : List Oper} {S : Nat → Prop} {Q : Act → World → Prop} {w : World} {a a' : Act} {rest plan : List (Nat × Nat)} {lo : List Oper}
theorem wT (idx : List Nat) (h : wpS P l.toArray S Q rest a' w) (hp : plan = idx.map (fun i => (i, 1)) ++ rest := by exact rfl) (hB : (idx.all fun i => ((l[i]?).map noEnter).getD false) = true := by kernel_rfl) (ho : pickL l idx = lo := by simp only [pickL, nthL, List.cons_append, List.nil_append]; rfl) (hq : ∀ K : Act → Prop, K a' → wpQuiet P l.toArray (fun w' => w' = w) K lo a := by intro K hK; (repeat (go_big_quiet_step (fail))); exact wpQuiet_nil hK) : wpS P l.toArray S Q plan a w := wpS_this idx hp hB ho (hq _ h)
theorem wA (idx : List Nat) (h : wpS P l.toArray S Q rest a' w) (hp : plan = idx.map (fun i => (i, 0)) ++ rest := by exact rfl) (hB : (idx.all fun i => ((l[i]?).map noEnter).getD false) = true := by kernel_rfl) (ho : pickL l idx = lo := by simp only [pickL, nthL, List.cons_append, List.nil_append]; rfl) (hq : ∀ K : Act → Prop, K a' → wpQuiet P l.toArray (fun _ => True) K lo a := by intro K hK; (repeat (go_big_quiet_step (fail))); exact wpQuiet_nil hK) : wpS P l.toArray S Q plan a w := wpS_all idx hp hB ho (hq _ h)
theorem wS (idx : List Nat) (h : wpS P l.toArray S Q rest a' w) (hp : plan = idx.map (fun i => (i, 2)) ++ rest := by exact rfl) (hB : (idx.all fun i => ((l[i]?).map noEnter).getD false) = true := by kernel_rfl) (ho : pickL l idx = lo := by simp only [pickL, nthL, List.cons_append, List.nil_append]; rfl) (hq : ∀ K : Act → Prop, K a' → wpQuiet P l.toArray (fun w' => ∃ x : KeepS S w, w' = x.w) K lo a := by intro K hK; (repeat (go_big_quiet_step (fail))); exact wpQuiet_nil hK) : wpS P l.toArray S Q plan a w := wpS_stay idx hp hB ho (hq _ h)
end
section
variable {P : Program} {K : Act → World → Prop} {Q : Exit → Act → World → Prop} {w : World} {a a' : Act} {l : List Oper} {S : Nat → Prop} {id : Nat}
theorem wZ (h : K a w) : wpS P l.toArray S (fun a' w' => Exit.then K Q .normal a' w') [] a w := h
theorem wN (plan : List (Nat × Nat)) (h : wpS P l.toArray (fun k => k ∈ ([] : List Nat)) (fun a' w' => Q .normal a' w') plan a w) (hp : (plan.map (·.1) == List.range l.toArray.size) = true := by kernel_rfl) : (Code.region id l.toArray false).wp P Q a w := wp_region_N plan hp h
theorem pickL_range (l : List Oper) : pickL l (List.range l.length) = l := by
  have h : ∀ (m n : Nat), n + m = l.length → pickL l ((List.range m).map (n + ·)) = l.drop n := by
    intro m
    induction m with
    | zero => intro n hn; rw [List.drop_of_length_le (by omega)]; rfl
    | succ m ih =>
      intro n hn
      have hlt : n < l.length := by omega
      have h1 := ih (n + 1) (by omega)
      rw [List.range_succ_eq_map, List.map_cons, List.map_map]
      show nthL l (n + 0) ++ pickL l _ = _
      rw [show ((fun x => n + x) ∘ Nat.succ) = fun x => n + 1 + x from funext fun x => by show n + (x + 1) = _; omega, h1, Nat.add_zero, nthL_spec l n l[n] (List.getElem?_eq_getElem hlt), List.singleton_append]
      exact List.getElem_cons_drop hlt
  have h0 := h l.length 0 (by omega)
  rw [List.drop_zero] at h0
  rw [show (List.range l.length).map (0 + ·) = List.range l.length from by rw [show ((0 + ·) : Nat → Nat) = id from funext fun x => Nat.zero_add x, List.map_id]] at h0
  exact h0
theorem wQ0 (h : Q .normal a' w) (hB : ((List.range l.length).all fun i => ((l[i]?).map noEnter).getD false) = true) (hq : ∀ K : Act → Prop, K a' → wpQuiet P l.toArray (fun w' => w' = w) K l a) : (Code.region id l.toArray false).wp P Q a w := by
  refine wp_region_N ((List.range l.length).map fun i => (i, 1)) (by rw [List.map_map, show ((fun x : Nat × Nat => x.1) ∘ fun i => (i, 1)) = _root_.id from rfl, List.map_id, List.size_toArray]; exact beq_self_eq_true _) ?_
  exact wpS_this (List.range l.length) (List.append_nil _).symm hB (pickL_range l) (hq _ (wpS_nil h))
/-- A region that only reads. -/
theorem wQ (h : K a' w) (hB : ((List.range l.length).all fun i => ((l[i]?).map noEnter).getD false) = true := by kernel_rfl) (hq : ∀ K : Act → Prop, K a' → wpQuiet P l.toArray (fun w' => w' = w) K l a := by intro K hK; (repeat (go_big_quiet_step (fail))); exact wpQuiet_nil hK) : (Code.region id l.toArray false).wp P (Exit.then K Q) a w := wQ0 h hB hq
end
section
variable {P : Program} {ops : Array Oper} {S : Nat → Prop} {Q : Act → World → Prop} {a a' : Act} {af : Nat → Act} {au : Value → Act} {W w : World} {H0 : Nat → Prop} {rest : List (Nat × Nat)} {o : Oper} {L pre post : List At} {n : Nat}
theorem wK (i : Nat) {k : Nat} (h : wpS P ops S Q rest a' W) (hi : ops[i]? = some o := by exact rfl) (hw : Region.wanted o (yielded ops a.tmps) = false := by rfl) (hd : o.dst = some n := by exact rfl) (ht : a.put (some n) undef = a' := by simp only [Act.put, List.setIfInBounds_toArray, List.set_cons_succ, List.set_cons_zero]; rfl) : wpS P ops S Q ((i, k) :: rest) a W := wpS_skip hi hw hd (ht ▸ h)
theorem wR (i : Nat) {v : Value} (hrun : (execOp a.eval o).run P W = .ok (.value v) W) (h : wpS P ops S Q rest a' W) (hi : ops[i]? = some o := by exact rfl) (hw : Region.wanted o (yielded ops a.tmps) = true := by rfl) (hd : o.dst = some n := by exact rfl) (ht : a.put (some n) v = a' := by simp only [Act.put, List.setIfInBounds_toArray, List.set_cons_succ, List.set_cons_zero]; rfl) : wpS P ops S Q ((i, 1) :: rest) a W := wpS_read hi hw hrun hd (ht ▸ h)
theorem wL (i : Nat) {t : TypeId} {x : Operand} {b off : Nat} {td : TypeDesc} (cells : List Value) (hc : ∀ k u, cells[k]? = some u → W.cell? ⟨b, off + k, none⟩ = some u) (hu : P.underlying t = some td) (h : wpS P ops S Q rest a' W) (hi : ops[i]? = some o := by exact rfl) (hw : Region.wanted o (yielded ops a.tmps) = true := by rfl) (ho : o.op = .load t x := by exact rfl) (hx : a.eval x = .pointer (some ⟨b, off, none⟩) := by exact rfl) (hg : (match td with | .struct _ | .array _ _ => true | _ => false) = true := by exact rfl) (hn : (P.info? t).map (·.size) = some cells.length := by kernel_rfl) (hd : o.dst = some n := by exact rfl) (ht : a.put (some n) (.agg cells.toArray) = a' := by simp only [Act.put, List.setIfInBounds_toArray, List.set_cons_succ, List.set_cons_zero]; rfl) : wpS P ops S Q ((i, 1) :: rest) a W := wpS_loadA hi hw ho hx hc hu hg hn hd (ht ▸ h)
theorem wL2 (i : Nat) {t : TypeId} {x : Operand} {b off : Nat} {td : TypeDesc} (cells : List Value) (hc : ∀ k u, cells[k]? = some u → W.cell? ⟨b, off + k, none⟩ = some u) (hu : P.underlying t = some td) (h : wpS P ops S Q rest a' W) (hi : ops[i]? = some o := by exact rfl) (hw : Region.wanted o (yielded ops a.tmps) = true := by rfl) (ho : o.op = .load t x := by exact rfl) (hx : a.eval x = .pointer (some ⟨b, off, none⟩) := by exact rfl) (hb : S b := by simp) (hg : (match td with | .struct _ | .array _ _ => true | _ => false) = true := by exact rfl) (hn : (P.info? t).map (·.size) = some cells.length := by kernel_rfl) (hd : o.dst = some n := by exact rfl) (ht : a.put (some n) (.agg cells.toArray) = a' := by simp only [Act.put, List.setIfInBounds_toArray, List.set_cons_succ, List.set_cons_zero]; rfl) : wpS P ops S Q ((i, 2) :: rest) a W := wpS_loadA2 hi hw ho hx hb hc hu hg hn hd (ht ▸ h)
theorem wM (i : Nat) {t : TypeId} {x : Operand} {b off : Nat} {td : TypeDesc} (u : Value) (hc : W.cell? ⟨b, off, none⟩ = some u) (hu : P.underlying t = some td) (h : wpS P ops S Q rest a' W) (hi : ops[i]? = some o := by exact rfl) (hw : Region.wanted o (yielded ops a.tmps) = true := by rfl) (ho : o.op = .load t x := by exact rfl) (hx : a.eval x = .pointer (some ⟨b, off, none⟩) := by exact rfl) (hg : (match td with | .struct _ | .array _ _ => true | _ => false) = false := by exact rfl) (hd : o.dst = some n := by exact rfl) (ht : a.put (some n) u = a' := by simp only [Act.put, List.setIfInBounds_toArray, List.set_cons_succ, List.set_cons_zero]; rfl) : wpS P ops S Q ((i, 1) :: rest) a W := wpS_load1 hi hw ho hx hc hu hg hd (ht ▸ h)
theorem wM2 (i : Nat) {t : TypeId} {x : Operand} {b off : Nat} {td : TypeDesc} (u : Value) (hc : W.cell? ⟨b, off, none⟩ = some u) (hu : P.underlying t = some td) (h : wpS P ops S Q rest a' W) (hi : ops[i]? = some o := by exact rfl) (hw : Region.wanted o (yielded ops a.tmps) = true := by rfl) (ho : o.op = .load t x := by exact rfl) (hx : a.eval x = .pointer (some ⟨b, off, none⟩) := by exact rfl) (hb : S b := by simp) (hg : (match td with | .struct _ | .array _ _ => true | _ => false) = false := by exact rfl) (hd : o.dst = some n := by exact rfl) (ht : a.put (some n) u = a' := by simp only [Act.put, List.setIfInBounds_toArray, List.set_cons_succ, List.set_cons_zero]; rfl) : wpS P ops S Q ((i, 2) :: rest) a W := wpS_load12 hi hw ho hx hb hc hu hg hd (ht ▸ h)
theorem wD1 (i : Nat) (rem out : List At) {f : Nat} {x0 : Operand} {v0 : Value} {ts : Array TypeId} {v : Value} (eg : ∀ args w, (callFunc f args).run P w = .ok (.enter f args) w) (hc : Does P f #[v0] pre v post) (hm : Hid (Mem L H0 w W)) (idx : List Nat) (h : ∀ W', Mem out H0 w W' → wpS P ops S Q rest a' W') (hi : ops[i]? = some o := by exact rfl) (hw : Region.wanted o (yielded ops a.tmps) = true := by rfl) (ho : o.op = .call { callee := .value (.func f), args := #[x0], argTypes := ts } := by exact rfl) (h0 : a.eval x0 = v0 := by exact rfl) (hsel : selA L idx = (pre, rem) := by exact rfl) (hS : CovS rem S := by exact covS_nil) (hout : post ++ rem = out := by exact rfl) (hd : o.dst = some n := by exact rfl) (ht : a.put (some n) v = a' := by simp only [Act.put, List.setIfInBounds_toArray, List.set_cons_succ, List.set_cons_zero]; rfl) : wpS P ops S Q ((i, 3) :: rest) a W := wpS_does1 hi hw ho eg hc h0 hm.out idx hsel hS hout hd fun W' h1 _ => ht ▸ h W' h1
theorem wU1 (i : Nat) (rem : List At) {f : Nat} {x0 : Operand} {v0 : Value} {ts : Array TypeId} {post : Value → List At} {out : Value → List At} (eg : ∀ args w, (callFunc f args).run P w = .ok (.enter f args) w) (hc : DoesU P f #[v0] pre post) (hm : Hid (Mem L H0 w W)) (idx : List Nat) (h : ∀ u W', Mem (out u) H0 w W' → wpS P ops S Q rest (au u) W') (hi : ops[i]? = some o := by exact rfl) (hw : Region.wanted o (yielded ops a.tmps) = true := by rfl) (ho : o.op = .call { callee := .value (.func f), args := #[x0], argTypes := ts } := by exact rfl) (h0 : a.eval x0 = v0 := by exact rfl) (hsel : selA L idx = (pre, rem) := by exact rfl) (hS : CovS rem S := by exact covS_nil) (hout : ∀ u, post u ++ rem = out u := by exact fun _ => rfl) (hd : o.dst = some n := by exact rfl) (ht : ∀ u, a.put (some n) u = au u := by intro u; simp only [Act.put, List.setIfInBounds_toArray, List.set_cons_succ, List.set_cons_zero]; rfl) : wpS P ops S Q ((i, 3) :: rest) a W := wpS_doesU1 hi hw ho eg hc h0 hm.out idx hsel hS hout hd fun u W' h1 _ => ht u ▸ h u W' h1
theorem wD2 (i : Nat) (rem out : List At) {f : Nat} {x0 x1 : Operand} {v0 v1 : Value} {ts : Array TypeId} {v : Value} (eg : ∀ args w, (callFunc f args).run P w = .ok (.enter f args) w) (hc : Does P f #[v0, v1] pre v post) (hm : Hid (Mem L H0 w W)) (idx : List Nat) (h : ∀ W', Mem out H0 w W' → wpS P ops S Q rest a' W') (hi : ops[i]? = some o := by exact rfl) (hw : Region.wanted o (yielded ops a.tmps) = true := by rfl) (ho : o.op = .call { callee := .value (.func f), args := #[x0, x1], argTypes := ts } := by exact rfl) (h0 : a.eval x0 = v0 := by exact rfl) (h1 : a.eval x1 = v1 := by exact rfl) (hsel : selA L idx = (pre, rem) := by exact rfl) (hS : CovS rem S := by exact covS_nil) (hout : post ++ rem = out := by exact rfl) (hd : o.dst = some n := by exact rfl) (ht : a.put (some n) v = a' := by simp only [Act.put, List.setIfInBounds_toArray, List.set_cons_succ, List.set_cons_zero]; rfl) : wpS P ops S Q ((i, 3) :: rest) a W := wpS_does2 hi hw ho eg hc h0 h1 hm.out idx hsel hS hout hd fun W' h1 _ => ht ▸ h W' h1
theorem wU2 (i : Nat) (rem : List At) {f : Nat} {x0 x1 : Operand} {v0 v1 : Value} {ts : Array TypeId} {post : Value → List At} {out : Value → List At} (eg : ∀ args w, (callFunc f args).run P w = .ok (.enter f args) w) (hc : DoesU P f #[v0, v1] pre post) (hm : Hid (Mem L H0 w W)) (idx : List Nat) (h : ∀ u W', Mem (out u) H0 w W' → wpS P ops S Q rest (au u) W') (hi : ops[i]? = some o := by exact rfl) (hw : Region.wanted o (yielded ops a.tmps) = true := by rfl) (ho : o.op = .call { callee := .value (.func f), args := #[x0, x1], argTypes := ts } := by exact rfl) (h0 : a.eval x0 = v0 := by exact rfl) (h1 : a.eval x1 = v1 := by exact rfl) (hsel : selA L idx = (pre, rem) := by exact rfl) (hS : CovS rem S := by exact covS_nil) (hout : ∀ u, post u ++ rem = out u := by exact fun _ => rfl) (hd : o.dst = some n := by exact rfl) (ht : ∀ u, a.put (some n) u = au u := by intro u; simp only [Act.put, List.setIfInBounds_toArray, List.set_cons_succ, List.set_cons_zero]; rfl) : wpS P ops S Q ((i, 3) :: rest) a W := wpS_doesU2 hi hw ho eg hc h0 h1 hm.out idx hsel hS hout hd fun u W' h1 _ => ht u ▸ h u W' h1
theorem wD3 (i : Nat) (rem out : List At) {f : Nat} {x0 x1 x2 : Operand} {v0 v1 v2 : Value} {ts : Array TypeId} {v : Value} (eg : ∀ args w, (callFunc f args).run P w = .ok (.enter f args) w) (hc : Does P f #[v0, v1, v2] pre v post) (hm : Hid (Mem L H0 w W)) (idx : List Nat) (h : ∀ W', Mem out H0 w W' → wpS P ops S Q rest a' W') (hi : ops[i]? = some o := by exact rfl) (hw : Region.wanted o (yielded ops a.tmps) = true := by rfl) (ho : o.op = .call { callee := .value (.func f), args := #[x0, x1, x2], argTypes := ts } := by exact rfl) (h0 : a.eval x0 = v0 := by exact rfl) (h1 : a.eval x1 = v1 := by exact rfl) (h2 : a.eval x2 = v2 := by exact rfl) (hsel : selA L idx = (pre, rem) := by exact rfl) (hS : CovS rem S := by exact covS_nil) (hout : post ++ rem = out := by exact rfl) (hd : o.dst = some n := by exact rfl) (ht : a.put (some n) v = a' := by simp only [Act.put, List.setIfInBounds_toArray, List.set_cons_succ, List.set_cons_zero]; rfl) : wpS P ops S Q ((i, 3) :: rest) a W := wpS_does3 hi hw ho eg hc h0 h1 h2 hm.out idx hsel hS hout hd fun W' h1 _ => ht ▸ h W' h1
theorem wU4 (i : Nat) (rem : List At) {f : Nat} {x0 x1 x2 x3 : Operand} {v0 v1 v2 v3 : Value} {ts : Array TypeId} {post : Value → List At} {out : Value → List At} (eg : ∀ args w, (callFunc f args).run P w = .ok (.enter f args) w) (hc : DoesU P f #[v0, v1, v2, v3] pre post) (hm : Hid (Mem L H0 w W)) (idx : List Nat) (h : ∀ u W', Mem (out u) H0 w W' → wpS P ops S Q rest (au u) W') (hi : ops[i]? = some o := by exact rfl) (hw : Region.wanted o (yielded ops a.tmps) = true := by rfl) (ho : o.op = .call { callee := .value (.func f), args := #[x0, x1, x2, x3], argTypes := ts } := by exact rfl) (h0 : a.eval x0 = v0 := by exact rfl) (h1 : a.eval x1 = v1 := by exact rfl) (h2 : a.eval x2 = v2 := by exact rfl) (h3 : a.eval x3 = v3 := by exact rfl) (hsel : selA L idx = (pre, rem) := by exact rfl) (hS : CovS rem S := by exact covS_nil) (hout : ∀ u, post u ++ rem = out u := by exact fun _ => rfl) (hd : o.dst = some n := by exact rfl) (ht : ∀ u, a.put (some n) u = au u := by intro u; simp only [Act.put, List.setIfInBounds_toArray, List.set_cons_succ, List.set_cons_zero]; rfl) : wpS P ops S Q ((i, 3) :: rest) a W := wpS_doesU4 hi hw ho eg hc h0 h1 h2 h3 hm.out idx hsel hS hout hd fun u W' h1 _ => ht u ▸ h u W' h1
theorem wBh (i : Nat) {t : TypeId} {x : Operand} {cs : Array Value} (hm : Hid (Mem L H0 w W)) (h : ∀ b W', Hid (Mem (boxT b (.cells cs t (0, 0)) :: L) H0 w W') → wpS P ops S Q rest (af b) W') (hi : ops[i]? = some o := by exact rfl) (hw : Region.wanted o (yielded ops a.tmps) = true := by rfl) (ho : o.op = .box t x := by exact rfl) (hx : a.eval x = .agg cs := by exact rfl) (hS : CovS L S := by exact covS_nil) (hd : o.dst = some n := by exact rfl) (ht : ∀ b, a.put (some n) (.pointer (some ⟨b, 0, none⟩)) = af b := by intro b; simp only [Act.put, List.setIfInBounds_toArray, List.set_cons_succ, List.set_cons_zero]; rfl) : wpS P ops S Q ((i, 3) :: rest) a W := wpS_boxA hi hw ho hx hm.out hS hd fun b W' h1 _ => ht b ▸ h b W' (Lib.hid h1)
theorem wD0h (i : Nat) (rem out : List At) {f : Nat} {ts : Array TypeId} {v : Value} (eg : ∀ args w, (callFunc f args).run P w = .ok (.enter f args) w) (hc : Does P f #[] pre v post) (hm : Hid (Mem L H0 w W)) (idx : List Nat) (h : ∀ W', Hid (Mem out H0 w W') → wpS P ops S Q rest a' W') (hi : ops[i]? = some o := by exact rfl) (hw : Region.wanted o (yielded ops a.tmps) = true := by rfl) (ho : o.op = .call { callee := .value (.func f), args := #[], argTypes := ts } := by exact rfl)  (hsel : selA L idx = (pre, rem) := by exact rfl) (hS : CovS rem S := by exact covS_nil) (hout : post ++ rem = out := by exact rfl) (hd : o.dst = some n := by exact rfl) (ht : a.put (some n) v = a' := by simp only [Act.put, List.setIfInBounds_toArray, List.set_cons_succ, List.set_cons_zero]; rfl) : wpS P ops S Q ((i, 3) :: rest) a W := wpS_does0 hi hw ho eg hc  hm.out idx hsel hS hout hd fun W' h1 _ => ht ▸ h W' (Lib.hid h1)
theorem wD1h (i : Nat) (rem out : List At) {f : Nat} {x0 : Operand} {v0 : Value} {ts : Array TypeId} {v : Value} (eg : ∀ args w, (callFunc f args).run P w = .ok (.enter f args) w) (hc : Does P f #[v0] pre v post) (hm : Hid (Mem L H0 w W)) (idx : List Nat) (h : ∀ W', Hid (Mem out H0 w W') → wpS P ops S Q rest a' W') (hi : ops[i]? = some o := by exact rfl) (hw : Region.wanted o (yielded ops a.tmps) = true := by rfl) (ho : o.op = .call { callee := .value (.func f), args := #[x0], argTypes := ts } := by exact rfl) (h0 : a.eval x0 = v0 := by exact rfl) (hsel : selA L idx = (pre, rem) := by exact rfl) (hS : CovS rem S := by exact covS_nil) (hout : post ++ rem = out := by exact rfl) (hd : o.dst = some n := by exact rfl) (ht : a.put (some n) v = a' := by simp only [Act.put, List.setIfInBounds_toArray, List.set_cons_succ, List.set_cons_zero]; rfl) : wpS P ops S Q ((i, 3) :: rest) a W := wpS_does1 hi hw ho eg hc h0 hm.out idx hsel hS hout hd fun W' h1 _ => ht ▸ h W' (Lib.hid h1)
theorem wD2h (i : Nat) (rem out : List At) {f : Nat} {x0 x1 : Operand} {v0 v1 : Value} {ts : Array TypeId} {v : Value} (eg : ∀ args w, (callFunc f args).run P w = .ok (.enter f args) w) (hc : Does P f #[v0, v1] pre v post) (hm : Hid (Mem L H0 w W)) (idx : List Nat) (h : ∀ W', Hid (Mem out H0 w W') → wpS P ops S Q rest a' W') (hi : ops[i]? = some o := by exact rfl) (hw : Region.wanted o (yielded ops a.tmps) = true := by rfl) (ho : o.op = .call { callee := .value (.func f), args := #[x0, x1], argTypes := ts } := by exact rfl) (h0 : a.eval x0 = v0 := by exact rfl) (h1 : a.eval x1 = v1 := by exact rfl) (hsel : selA L idx = (pre, rem) := by exact rfl) (hS : CovS rem S := by exact covS_nil) (hout : post ++ rem = out := by exact rfl) (hd : o.dst = some n := by exact rfl) (ht : a.put (some n) v = a' := by simp only [Act.put, List.setIfInBounds_toArray, List.set_cons_succ, List.set_cons_zero]; rfl) : wpS P ops S Q ((i, 3) :: rest) a W := wpS_does2 hi hw ho eg hc h0 h1 hm.out idx hsel hS hout hd fun W' h1 _ => ht ▸ h W' (Lib.hid h1)
theorem wD3h (i : Nat) (rem out : List At) {f : Nat} {x0 x1 x2 : Operand} {v0 v1 v2 : Value} {ts : Array TypeId} {v : Value} (eg : ∀ args w, (callFunc f args).run P w = .ok (.enter f args) w) (hc : Does P f #[v0, v1, v2] pre v post) (hm : Hid (Mem L H0 w W)) (idx : List Nat) (h : ∀ W', Hid (Mem out H0 w W') → wpS P ops S Q rest a' W') (hi : ops[i]? = some o := by exact rfl) (hw : Region.wanted o (yielded ops a.tmps) = true := by rfl) (ho : o.op = .call { callee := .value (.func f), args := #[x0, x1, x2], argTypes := ts } := by exact rfl) (h0 : a.eval x0 = v0 := by exact rfl) (h1 : a.eval x1 = v1 := by exact rfl) (h2 : a.eval x2 = v2 := by exact rfl) (hsel : selA L idx = (pre, rem) := by exact rfl) (hS : CovS rem S := by exact covS_nil) (hout : post ++ rem = out := by exact rfl) (hd : o.dst = some n := by exact rfl) (ht : a.put (some n) v = a' := by simp only [Act.put, List.setIfInBounds_toArray, List.set_cons_succ, List.set_cons_zero]; rfl) : wpS P ops S Q ((i, 3) :: rest) a W := wpS_does3 hi hw ho eg hc h0 h1 h2 hm.out idx hsel hS hout hd fun W' h1 _ => ht ▸ h W' (Lib.hid h1)
theorem wD5h (i : Nat) (rem out : List At) {f : Nat} {x0 x1 x2 x3 x4 : Operand} {v0 v1 v2 v3 v4 : Value} {ts : Array TypeId} {v : Value} (eg : ∀ args w, (callFunc f args).run P w = .ok (.enter f args) w) (hc : Does P f #[v0, v1, v2, v3, v4] pre v post) (hm : Hid (Mem L H0 w W)) (idx : List Nat) (h : ∀ W', Hid (Mem out H0 w W') → wpS P ops S Q rest a' W') (hi : ops[i]? = some o := by exact rfl) (hw : Region.wanted o (yielded ops a.tmps) = true := by rfl) (ho : o.op = .call { callee := .value (.func f), args := #[x0, x1, x2, x3, x4], argTypes := ts } := by exact rfl) (h0 : a.eval x0 = v0 := by exact rfl) (h1 : a.eval x1 = v1 := by exact rfl) (h2 : a.eval x2 = v2 := by exact rfl) (h3 : a.eval x3 = v3 := by exact rfl) (h4 : a.eval x4 = v4 := by exact rfl) (hsel : selA L idx = (pre, rem) := by exact rfl) (hS : CovS rem S := by exact covS_nil) (hout : post ++ rem = out := by exact rfl) (hd : o.dst = some n := by exact rfl) (ht : a.put (some n) v = a' := by simp only [Act.put, List.setIfInBounds_toArray, List.set_cons_succ, List.set_cons_zero]; rfl) : wpS P ops S Q ((i, 3) :: rest) a W := wpS_does5 hi hw ho eg hc h0 h1 h2 h3 h4 hm.out idx hsel hS hout hd fun W' h1 _ => ht ▸ h W' (Lib.hid h1)
theorem wXh (i : Nat) {t tt : TypeId} {x y : Operand} {b off : Nat} {vs cs : List Value} (L2 : List At) (cs' : List Value) (hm : Hid (Mem L H0 w W)) (k : Nat) (h : ∀ W', Hid (Mem (boxT b (.cells cs'.toArray tt (0, 0)) :: L2) H0 w W') → wpS P ops S Q rest a W') (hi : ops[i]? = some o := by exact rfl) (hw : Region.wanted o (yielded ops a.tmps) = true := by rfl) (ho : o.op = .store t x y := by exact rfl) (hx : a.eval x = .pointer (some ⟨b, off, none⟩) := by exact rfl) (hy : a.eval y = .agg vs.toArray := by exact rfl) (hn : (P.info? t).map (fun i => i.size) = some vs.length := by kernel_rfl) (hone : (vs.all Value.oneCell') = true := by rfl) (hk : L[k]? = some (boxT b (.cells cs.toArray tt (0, 0))) := by exact rfl) (hL2 : L.eraseIdx k = L2 := by exact rfl) (hlen : Nat.ble (off + vs.length) cs.length = true := by exact rfl) (hcs : putL cs off vs = cs' := by exact rfl) (hS : CovS L2 S := by exact covS_nil) (hd : o.dst = none := by exact rfl) : wpS P ops S Q ((i, 3) :: rest) a W := wpS_storeA hi hw ho hx hy hn hone hm.out k hk hL2 hlen hcs hS hd fun W' h1 _ => h W' (Lib.hid h1)
theorem wYh (i : Nat) {t tt : TypeId} {x y : Operand} {b off : Nat} {cs : List Value} (v : Value) (L2 : List At) (cs' : List Value) (hm : Hid (Mem L H0 w W)) (k : Nat) (h : ∀ W', Hid (Mem (boxT b (.cells cs'.toArray tt (0, 0)) :: L2) H0 w W') → wpS P ops S Q rest a W') (hi : ops[i]? = some o := by exact rfl) (hw : Region.wanted o (yielded ops a.tmps) = true := by rfl) (ho : o.op = .store t x y := by exact rfl) (hx : a.eval x = .pointer (some ⟨b, off, none⟩) := by exact rfl) (hy : a.eval y = v := by exact rfl) (hv : v.cells = #[v] := by exact rfl) (hn : (P.info? t).map (fun i => i.size) = some 1 := by kernel_rfl) (hone : v.oneCell' = true := by exact rfl) (hk : L[k]? = some (boxT b (.cells cs.toArray tt (0, 0))) := by exact rfl) (hL2 : L.eraseIdx k = L2 := by exact rfl) (hlen : Nat.ble (off + 1) cs.length = true := by exact rfl) (hcs : cs.set off v = cs' := by exact rfl) (hS : CovS L2 S := by exact covS_nil) (hd : o.dst = none := by exact rfl) : wpS P ops S Q ((i, 3) :: rest) a W := wpS_store1 hi hw ho hx hy hv hn hone hm.out k hk hL2 hlen hcs hS hd fun W' h1 _ => h W' (Lib.hid h1)
theorem wXkh (i : Nat) {t tt : TypeId} {x y : Operand} {b off : Nat} {vs cs : List Value} (L2 : List At) (cs' : List Value) (hm : Hid (Mem L H0 w W)) (k : Nat) (h : ∀ W', Hid (Mem (boxT b (.cells cs'.toArray tt (0, 0)) :: L2) H0 w W') → wpS P ops S Q rest a W') (hi : ops[i]? = some o := by exact rfl) (hw : Region.wanted o (yielded ops a.tmps) = true := by rfl) (ho : o.op = .store t x y := by exact rfl) (hx : a.eval x = .pointer (some ⟨b, off, none⟩) := by exact rfl) (hy : a.eval y = .agg vs.toArray := by exact rfl) (hn : (P.info? t).map (fun i => i.size) = some vs.length := by kernel_rfl) (hone : (vs.all Value.oneCell') = true := by rfl) (hk : L[k]? = some (boxT b (.cells cs.toArray tt (0, 0))) := by exact rfl) (hL2 : L.eraseIdx k = L2 := by exact rfl) (hlen : Nat.ble (off + vs.length) cs.length = true := by kernel_rfl) (hcs : putL cs off vs = cs' := by kernel_rfl) (hS : CovS L2 S := by exact covS_nil) (hd : o.dst = none := by exact rfl) : wpS P ops S Q ((i, 3) :: rest) a W := wpS_storeA hi hw ho hx hy hn hone hm.out k hk hL2 hlen hcs hS hd fun W' h1 _ => h W' (Lib.hid h1)
theorem wYkh (i : Nat) {t tt : TypeId} {x y : Operand} {b off : Nat} {cs : List Value} (v : Value) (L2 : List At) (cs' : List Value) (hm : Hid (Mem L H0 w W)) (k : Nat) (h : ∀ W', Hid (Mem (boxT b (.cells cs'.toArray tt (0, 0)) :: L2) H0 w W') → wpS P ops S Q rest a W') (hi : ops[i]? = some o := by exact rfl) (hw : Region.wanted o (yielded ops a.tmps) = true := by rfl) (ho : o.op = .store t x y := by exact rfl) (hx : a.eval x = .pointer (some ⟨b, off, none⟩) := by exact rfl) (hy : a.eval y = v := by exact rfl) (hv : v.cells = #[v] := by exact rfl) (hn : (P.info? t).map (fun i => i.size) = some 1 := by kernel_rfl) (hone : v.oneCell' = true := by exact rfl) (hk : L[k]? = some (boxT b (.cells cs.toArray tt (0, 0))) := by exact rfl) (hL2 : L.eraseIdx k = L2 := by exact rfl) (hlen : Nat.ble (off + 1) cs.length = true := by kernel_rfl) (hcs : cs.set off v = cs' := by kernel_rfl) (hS : CovS L2 S := by exact covS_nil) (hd : o.dst = none := by exact rfl) : wpS P ops S Q ((i, 3) :: rest) a W := wpS_store1 hi hw ho hx hy hv hn hone hm.out k hk hL2 hlen hcs hS hd fun W' h1 _ => h W' (Lib.hid h1)
end
section
variable {P : Program} {ops : Array Oper} {S : Nat → Prop} {Q : Act → World → Prop} {a : Act} {af : Nat → Nat → Act} {W : World} {rest : List (Nat × Nat)} {o : Oper} {n : Nat} {α : Type}
theorem wI (E : Elem P α) (i : Nat) {x ix : Operand} {p : Option Addr} {m cap j : Nat} {xs : List α} {y : α} (hr : RowAt E W (.slice p m cap) xs) (hy : xs[j]? = some y) (h : ∀ b off, (∀ k u, (E.enc y)[k]? = some u → W.cell? ⟨b, off + k, none⟩ = some u) → wpS P ops S Q rest (af b off) W) (hi : ops[i]? = some o := by exact rfl) (hw : Region.wanted o (yielded ops a.tmps) = true := by rfl) (ho : o.op = .indexAddr E.sl x ix := by exact rfl) (hx : a.eval x = .slice p m cap := by exact rfl) (hix : a.eval ix = .int .i64 (j : Int) := by exact rfl) (hd : o.dst = some n := by exact rfl) (ht : ∀ b off, a.put (some n) (.pointer (some ⟨b, off, none⟩)) = af b off := by intro b off; simp only [Act.put, List.setIfInBounds_toArray, List.set_cons_succ, List.set_cons_zero]; rfl) : wpS P ops S Q ((i, 1) :: rest) a W := wpS_index hi hw ho hx hix hr hy hd fun b off h1 => ht b off ▸ h b off h1
end
end Go.Proofs.YtcchkkdbagpgjaaGreat
namespace Go.Proofs.YtcchkkdbagpgjaaGreat
open Go Go.RowKit Go.BigFrame
section
variable {P : Program} {a : Act} {w w0 : World} {L : List At} {H0 : Nat → Prop}
theorem results_cell_tmp {fn : Func} {p q : Tmp} {ty : TypeId} (h : fn.results = #[.cell p ty, .tmp q]) (tmps : Array Value) (w : World) (g : Nat) (t : TypeId) (cs : Array Value) (d : TypeDesc) (hp : tmps.getD p undef = .pointer (some ⟨g, 0, none⟩)) (hg : w.heap[g]? = some (.cells cs t (0, 0)))
    (hu : P.underlying ty = some d) (hd : (match d with | .struct _ | .array _ _ => true | _ => false) = true) (hi : (P.info? ty).map (·.size) = some cs.size) : (results fn tmps).run P w = .ok (.tuple #[.agg cs, tmps.getD q undef]) w := by
  have hp' : tmps[p]?.getD undef = .pointer (some ⟨g, 0, none⟩) := by simpa using hp
  have e1 := run_loadVar_row (P := P) w g t ty cs (0, 0) d hg hu hd hi
  simp [results, h, hp', asAddr, e1]
theorem ret_cell_tmp {fn : Func} {p q : Tmp} {ty tt : TypeId} {b : Nat} {cs : Array Value} {td : TypeDesc} {R : Ending → World → Prop} {v2 : Value} (h : fn.results = #[.cell p ty, .tmp q]) (hm : Mem L H0 w0 w) (k : Nat) (hk : L[k]? = some (boxT b (.cells cs tt (0, 0)))) (hp : a.tmps.getD p undef = .pointer (some ⟨b, 0, none⟩))
    (hu : P.underlying ty = some td) (hd : (match td with | .struct _ | .array _ _ => true | _ => false) = true) (hi : (P.info? ty).map (·.size) = some cs.size) (hq : a.tmps.getD q undef = v2) (hdf : a.defers = []) (hR : R (.returned (.tuple #[.agg cs, v2])) w) : bodyPost P fn R .ret a w := by
  subst hq
  exact bodyPost_ret (results_cell_tmp h a.tmps w b tt cs td hp (hm.box k hk) hu hd hi) hdf hR
end
end Go.Proofs.YtcchkkdbagpgjaaGreat
namespace Go.Proofs.YtcchkkdbagpgjaaGreat
open Go Go.RowKit
section
variable {P : Program} {md : Region.Mode} {s : List Nat} {S : Nat → Prop} {Q : Act → World → Prop} {a : Act} {w : World} {i : Nat}
theorem opT_S {ops : Array Oper} {K : Act → World → Prop} (hi : (ops[i]?).isSome = true) (h : wpS P ops S K [(i, 3)] a w) : opT P ops (GS s S) i K a w := by
  obtain ⟨o, ho⟩ := Option.isSome_iff_exists.1 hi
  have h' : opS P ops S i 3 K a w := h
  unfold opS at h'
  rw [ho] at h'
  dsimp only at h'
  rw [if_neg (by omega), if_pos rfl] at h'
  exact opG_mono (fun x hx => .inr hx) (fun _ _ h => h) h'
theorem wpT_takeS {l : List Oper} {fuel : Nat} {listed : Array Bool} (hs : Region.noSelect l.toArray = true) (hB : takeB md l.toArray s i listed = true) (h : wpS P l.toArray S (fun a' w' => wpT P md l.toArray (GS s S) Q fuel (listed.setIfInBounds i true) a' w') [(i, 2)] a w) : wpT P md l.toArray (GS s S) Q (fuel + 1) listed a w := by
  have h' : opS P l.toArray S i 2 (fun a' w' => wpT P md l.toArray (GS s S) Q fuel (listed.setIfInBounds i true) a' w') a w := h
  unfold opS at h'
  cases ho : l.toArray[i]? with
  | none => rw [ho] at h'; exact h'.elim
  | some o =>
    rw [ho] at h'
    dsimp only at h'
    rw [if_pos (by omega)] at h'
    obtain ⟨v, hv, hk⟩ := h'
    exact take_first hs ho hB (GK.refl S w) hv hk
def allT (P : Program) (md : Region.Mode) (ops : Array Oper) (G : Nat → World → World → Prop) (Q : Act → World → Prop) (fuel : Nat) (listed : Array Bool) (a : Act) (w : World) : List Nat → Prop
  | [] => True
  | j :: js => opT P ops G j (wpT P md ops G Q fuel (listed.setIfInBounds j true)) a w ∧ allT P md ops G Q fuel listed a w js
theorem allT_mem {ops : Array Oper} {G : Nat → World → World → Prop} {fuel : Nat} {listed : Array Bool} : ∀ {js : List Nat}, allT P md ops G Q fuel listed a w js → ∀ j ∈ js, opT P ops G j (wpT P md ops G Q fuel (listed.setIfInBounds j true)) a w
  | j :: js, h, k, hk => by
    rcases List.mem_cons.1 hk with rfl | hk
    · exact h.1
    · exact allT_mem h.2 k hk
theorem allT_nil {ops : Array Oper} {G : Nat → World → World → Prop} {fuel : Nat} {listed : Array Bool} : allT P md ops G Q fuel listed a w [] := trivial
theorem allT_cons {ops : Array Oper} {G : Nat → World → World → Prop} {fuel : Nat} {listed : Array Bool} {j : Nat} {js : List Nat} (h1 : opT P ops G j (wpT P md ops G Q fuel (listed.setIfInBounds j true)) a w) (h2 : allT P md ops G Q fuel listed a w js) : allT P md ops G Q fuel listed a w (j :: js) := ⟨h1, h2⟩
theorem wpT_ready {ops : Array Oper} {G : Nat → World → World → Prop} {fuel : Nat} {listed : Array Bool} (j : Nat) (js : List Nat) (hr : Region.ready md ops listed = j :: js) (h : allT P md ops G Q fuel listed a w (j :: js)) : wpT P md ops G Q (fuel + 1) listed a w :=
  ⟨fun h0 => by (rw [h0] at hr; cases hr), fun k hk => allT_mem h k (by rw [hr] at hk; exact hk)⟩
end
end Go.Proofs.YtcchkkdbagpgjaaGreat
