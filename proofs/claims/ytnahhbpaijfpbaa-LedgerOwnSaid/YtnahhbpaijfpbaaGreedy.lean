/- A region that draws its order among calls: whatever only reads is taken as soon as it may come up, then the one call that may; so one walk serves every order, though a call hands back what it likes and makes memory. -/
import Derived.Test.YtnahhbpaijfpbaaSep
import Derived.BigQuiet
import Derived.Deep.RegionLaw
namespace Go.Proofs.Ytnahhbpaijfpbaa
open Go Go.RowKit

section
variable {P : Program} {ops : Array Oper} {md : Region.Mode} {G : World → World → Prop}

/-- One operation's outcome, the world going on by G. -/
def uponG (P : Program) (G : World → World → Prop) (o : Oper) (a : Act) (w0 : World) (K : Act → World → Prop) : Result Next → Prop
  | .ok (.value u) w' => G w0 w' ∧ K (a.put o.dst u) w'
  | .ok .skip w' => G w0 w' ∧ K (a.put o.dst undef) w'
  | .ok (.enter f args) w' => Calls P f args w' fun e w'' => ∃ v, e = .returned v ∧ G w0 w'' ∧ K (a.put o.dst v) w''
  | _ => False
def opG (P : Program) (ops : Array Oper) (G : World → World → Prop) (i : Nat) (K : Act → World → Prop) (a : Act) (w : World) : Prop :=
  match ops[i]? with
  | none => K a w
  | some o => if Region.wanted o (yielded ops a.tmps) then uponG P G o a w K ((execOp a.eval o).run P w) else K (a.put o.dst undef) w
def wpAnyG (P : Program) (md : Region.Mode) (ops : Array Oper) (G : World → World → Prop) (Q : Act → World → Prop) : Nat → Array Bool → Act → World → Prop
  | 0, listed, a, w => Region.ready md ops listed = [] ∧ Q a w
  | fuel + 1, listed, a, w =>
    (Region.ready md ops listed = [] → Q a w) ∧
    ∀ i ∈ Region.ready md ops listed, opG P ops G i (wpAnyG P md ops G Q fuel (listed.setIfInBounds i true)) a w

theorem wp_of_uponG {o : Oper} {a : Act} {w : World} {K : Act → World → Prop} {K' : Act → World → Prop} {Q' : Exit → Act → World → Prop} (h : ∀ a w, K a w → K' a w) (hh : uponG P G o a w K ((execOp a.eval o).run P w)) : o.wp P a w K' Q' := by
  unfold Oper.wp
  generalize (execOp a.eval o).run P w = r at *
  cases r with
  | ok n w' =>
    cases n <;> simp only [uponG] at hh <;> simp only [Oper.upon]
    case value u => exact h _ _ hh.2
    case skip => exact h _ _ hh.2
    case enter f args => exact Calls.mono hh fun e w'' ⟨v, he, _, hk⟩ => by subst he; exact h _ _ hk
  | halt x w' => simp only [uponG] at hh
theorem wpOp_of_opG {i : Nat} {a : Act} {w : World} {K K' : Act → World → Prop} {Q' : Exit → Act → World → Prop} (h : ∀ a w, K a w → K' a w) (hh : opG P ops G i K a w) : wpOp P ops Q' i K' a w := by
  unfold opG at hh
  unfold wpOp
  split
  · rename_i ho; simp only [ho] at hh; exact h _ _ hh
  · rename_i o ho
    simp only [ho] at hh
    split
    · rename_i hw; simp only [hw, if_true] at hh; exact .inl (wp_of_uponG h hh)
    · rename_i hw; simp only [hw] at hh; exact h _ _ hh
theorem wpAny_of_G {Q : Act → World → Prop} {Q' : Exit → Act → World → Prop} (hQ : ∀ a w, Q a w → Q' .normal a w) : ∀ (fuel : Nat) (listed : Array Bool) (a : Act) (w : World), wpAnyG P md ops G Q fuel listed a w → wpAny P md ops Q' fuel listed a w
  | 0, _, _, _, h => ⟨h.1, hQ _ _ h.2⟩
  | fuel + 1, _, _, _, h => ⟨fun h0 => hQ _ _ (h.1 h0), fun i hi => wpOp_of_opG (fun a' w' => wpAny_of_G hQ fuel _ a' w') (h.2 i hi)⟩

theorem uponG_mono {G' : World → World → Prop} {o : Oper} {a : Act} {w : World} {K K' : Act → World → Prop} {r : Result Next} (hG : ∀ x, G w x → G' w x) (h : ∀ a w, K a w → K' a w) (hh : uponG P G o a w K r) : uponG P G' o a w K' r := by
  cases r with
  | ok n w' =>
    cases n <;> simp only [uponG] at hh ⊢
    case value u => exact ⟨hG _ hh.1, h _ _ hh.2⟩
    case skip => exact ⟨hG _ hh.1, h _ _ hh.2⟩
    case enter f args => exact Calls.mono hh fun e w'' ⟨v, he, hg, hk⟩ => ⟨v, he, hG _ hg, h _ _ hk⟩
  | halt x w' => simp only [uponG] at hh
theorem opG_mono {G' : World → World → Prop} {i : Nat} {a : Act} {w : World} {K K' : Act → World → Prop} (hG : ∀ x, G w x → G' w x) (h : ∀ a w, K a w → K' a w) (hh : opG P ops G i K a w) : opG P ops G' i K' a w := by
  unfold opG at *
  split
  · exact h _ _ (by simpa [*] using hh)
  · rename_i o ho
    simp only [ho] at hh
    split
    · rename_i hw; simp only [hw, if_true] at hh; exact uponG_mono hG h hh
    · rename_i hw; simp only [hw] at hh; exact h _ _ hh
/-- On by a narrower way. -/
theorem wpAnyG_narrow {G' : World → World → Prop} {Q : Act → World → Prop} (hG : ∀ w x, G' w x → G w x) : ∀ (fuel : Nat) (listed : Array Bool) (a : Act) (w : World), wpAnyG P md ops G' Q fuel listed a w → wpAnyG P md ops G Q fuel listed a w
  | 0, _, _, _, h => h
  | fuel + 1, _, _, _, h => ⟨h.1, fun i hi => opG_mono (hG _) (fun a' w' => wpAnyG_narrow hG fuel _ a' w') (h.2 i hi)⟩

/-- What an operation that only reads yields, in every world of the class. -/
def FixIn (P : Program) (ops : Array Oper) (C : World → Prop) (o : Oper) (v : Value) (a : Act) : Prop :=
  (Region.wanted o (yielded ops a.tmps) = true ∧ ∀ w, C w → ((execOp a.eval o).run P w = .ok (.value v) w ∨ ((execOp a.eval o).run P w = .ok .skip w ∧ v = undef))) ∨
  (Region.wanted o (yielded ops a.tmps) = false ∧ v = undef)
theorem FixIn.of_same {C : World → Prop} {o : Oper} {v : Value} {a a' : Act} (hy : FixIn P ops C o v a) (he : execOp a'.eval o = execOp a.eval o)
    (hw : Region.wanted o (yielded ops a'.tmps) = Region.wanted o (yielded ops a.tmps)) : FixIn P ops C o v a' := by
  unfold FixIn at *
  rw [he, hw]
  exact hy
theorem FixIn.less {C C' : World → Prop} {o : Oper} {v : Value} {a : Act} (h : FixIn P ops C o v a) (hC : ∀ x, C' x → C x) : FixIn P ops C' o v a :=
  h.imp (fun ⟨h1, h2⟩ => ⟨h1, fun x hx => h2 x (hC x hx)⟩) id
theorem FixIn.opG {C : World → Prop} {i : Nat} {o : Oper} {v : Value} {a : Act} {w : World} (hi : ops[i]? = some o) (hy : FixIn P ops C o v a) (hw : C w) (hr : G w w) {K : Act → World → Prop} (h : K (a.put o.dst v) w) : opG P ops G i K a w := by
  unfold Ytnahhbpaijfpbaa.opG
  simp only [hi]
  rcases hy with ⟨hw1, hv⟩ | ⟨hw1, rfl⟩
  · simp only [hw1, if_true]
    rcases hv w hw with h1 | ⟨h1, rfl⟩
    · rw [h1]; exact ⟨hr, h⟩
    · rw [h1]; exact ⟨hr, h⟩
  · simp only [hw1, Bool.false_eq_true, if_false]; exact h
theorem opG_put {C : World → Prop} {j : Nat} {oi oj : Oper} {v : Value} {w : World} (hrefl : G w w) (hj : ops[j]? = some oj) (hap : oi.apart ops oj = true)
    (hsi : ∀ cs b, oi.op ≠ .select cs b) (hsj : ∀ cs b, oj.op ≠ .select cs b) {K : Act → World → Prop} {a : Act}
    (hy : FixIn P ops C oi v a) (h : opG P ops G j K (a.put oi.dst v) w) :
    opG P ops G j (fun a' w' => FixIn P ops C oi v a' ∧ G w w' ∧ K (a'.put oi.dst v) w') a w := by
  obtain ⟨h1, h2, h3⟩ := Oper.apart_spec hap
  have keep : ∀ (a : Act), FixIn P ops C oi v a → ∀ u, FixIn P ops C oi v (a.put oj.dst u) := fun a hy u =>
    hy.of_same (execOp_put oi hsi a oj.dst u h3) (wanted_put oi a oj.dst u h3)
  unfold opG at *
  simp only [hj] at *
  rw [wanted_put oj a oi.dst v h1] at h
  split
  · rename_i hw
    simp only [hw, if_true] at h
    rw [execOp_put oj hsj a oi.dst v h1] at h
    generalize (execOp a.eval oj).run P w = r at *
    cases r with
    | ok n w' =>
      cases n <;> simp only [uponG] at h ⊢
      case value u => exact ⟨h.1, keep a hy u, h.1, by rw [← Act.put_comm a v u h2]; exact h.2⟩
      case skip => exact ⟨h.1, keep a hy _, h.1, by rw [← Act.put_comm a v undef h2]; exact h.2⟩
      case enter f args => exact Calls.mono h fun e w'' ⟨u, he, hg, hk⟩ => ⟨u, he, hg, keep a hy u, hg, by rw [← Act.put_comm a v u h2]; exact hk⟩
    | halt x w' => simp only [uponG] at h
  · rename_i hw
    simp only [hw] at h
    exact ⟨keep a hy _, hrefl, by rw [← Act.put_comm a v undef h2]; exact h⟩
/-- An operation that only reads, and may come up now, may be taken first. -/
theorem wpAnyG_first {Q : Act → World → Prop} {i : Nat} {oi : Oper} {v : Value} (hrefl : ∀ w, G w w) (htrans : ∀ a b c, G a b → G b c → G a c) (hi : ops[i]? = some oi) (hsel : ∀ (j : Nat) (o : Oper) cs b, ops[j]? = some o → o.op ≠ .select cs b) :
    ∀ (fuel : Nat) (listed : Array Bool) (a : Act) (w : World),
      (∀ j oj, ops[j]? = some oj → j ≠ i → listed.getD j true = false → (∀ e ∈ oj.after, Region.binds md e = true → e.on ≠ i) → oi.apart ops oj = true) →
      i ∈ Region.ready md ops listed → FixIn P ops (G w) oi v a →
      wpAnyG P md ops G Q fuel (listed.setIfInBounds i true) (a.put oi.dst v) w → wpAnyG P md ops G Q (fuel + 1) listed a w := by
  intro fuel
  induction fuel with
  | zero =>
    intro listed a w _ hr hy H
    refine ⟨fun h => (by rw [h] at hr; cases hr), fun j hj => ?_⟩
    by_cases hji : j = i
    · subst hji; exact hy.opG hi (hrefl w) (hrefl w) H
    · have := ready_mono hj hji
      rw [H.1] at this
      cases this
  | succ fuel ih =>
    intro listed a w hfree hr hy H
    refine ⟨fun h => (by rw [h] at hr; cases hr), fun j hj => ?_⟩
    by_cases hji : j = i
    · subst hji; exact hy.opG hi (hrefl w) (hrefl w) H
    · have h1 := H.2 j (ready_mono hj hji)
      obtain ⟨hjun, oj, hoj, hall⟩ := mem_ready.1 hj
      have hnot : ∀ e ∈ oj.after, Region.binds md e = true → e.on ≠ i := fun e he hb heq => by
        have h1 := hall e he hb
        have h0 := (mem_ready.1 hr).1
        rw [heq] at h1
        rcases Nat.lt_or_ge i listed.size with h' | h'
        · simp [h'] at h0 h1; rw [h0] at h1; cases h1
        · simp [Array.getElem?_eq_none h'] at h1
      have h2 := opG_put (hrefl w) hoj (hfree j oj hoj hji hjun hnot) (fun cs b => hsel i oi cs b hi) (fun cs b => hsel j oj cs b hoj) hy h1
      have hfree' : ∀ k ok, ops[k]? = some ok → k ≠ i → (listed.setIfInBounds j true).getD k true = false →
          (∀ e ∈ ok.after, Region.binds md e = true → e.on ≠ i) → oi.apart ops ok = true := fun k ok hk hki hun hno => by
        refine hfree k ok hk hki ?_ hno
        by_cases hjk : j = k
        · subst hjk; exact hjun
        · rw [getD_set_ne true hjk] at hun; exact hun
      refine opG_mono (fun _ h => h) (fun a' w' h3 => ih (listed.setIfInBounds j true) a' w' hfree' (ready_mono hr (Ne.symm hji)) (h3.1.less fun x hx => htrans _ _ _ h3.2.1 hx) ?_) h2
      rw [Array.setIfInBounds_comm _ _ hji]
      exact h3.2.2

/-- No call of a function with a text of its own. -/
def noEnter (o : Oper) : Bool :=
  match o.op with
  | .call { callee := .builtin .len, .. } | .call { callee := .builtin .cap, .. } | .call { callee := .builtin .min, .. } | .call { callee := .builtin .max, .. } => true
  | .move _ | .assign _ | .pick .. | .build .. | .load .. | .nilCheck _ | .binOp .. | .unOp .. | .convert .. | .slice .. | .fieldAddr .. | .field .. | .indexAddr .. | .index .. | .makeInterface .. | .extract .. => true
  | _ => false
theorem value_ne (s : Sem Value) (w : World) (f : FuncId) (args : Array Value) (w' : World) : ((do let x ← s; pure (Next.value x)) : Sem Next).run P w ≠ .ok (.enter f args) w' := by
  simp only [Sem.run_bind, Sem.run_pure]
  cases s.run P w with
  | ok v w1 => simp [Result.andThen]
  | halt x w1 => simp [Result.andThen]
theorem noEnter_spec {o : Oper} (h : noEnter o = true) (ρ : Operand → Value) (w : World) (f : FuncId) (args : Array Value) (w' : World) : (execOp ρ o).run P w ≠ .ok (.enter f args) w' := by
  obtain ⟨dst, op, type, pos, after, guard⟩ := o
  cases op
  case call c =>
    obtain ⟨callee, xs, ts⟩ := c
    cases callee with
    | builtin b =>
      cases b <;> first | (exfalso; simp [noEnter] at h; done) | (simp only [execOp, resolve, invoke, builtin, Sem.run_bind, Sem.run_pure, Result.andThen_ok]; generalize Sem.run P _ w = r; cases r <;> simp [Result.andThen]; done)
    | invoke _ _ => simp [noEnter] at h
    | value _ => simp [noEnter] at h
  case nilCheck x =>
    simp only [execOp]
    split
    all_goals first | (simp [runtimePanic]; done) | skip
    split
    · simp [runtimePanic]
    · simp only [Sem.run_bind]
      generalize Sem.run P program w = r0
      cases r0 with
      | halt x w1 => simp [Result.andThen]
      | ok v w1 =>
        simp only [Result.andThen]
        generalize Sem.run P (nilAhead _ _ _ _) w1 = r1
        cases r1 with
        | halt x w1 => simp
        | ok v w1 =>
          dsimp only
          split
          · simp [unsupported, Result.andThen]
          · simp
    · simp
  case pick c a b =>
    simp only [execOp, Sem.run_bind, Sem.run_pure]
    cases (asBool (ρ c)).run P w with
    | ok v w1 => simp [Result.andThen]
    | halt x w1 => simp [Result.andThen]
  all_goals first | (exfalso; simp [noEnter] at h; done) | (simp only [execOp]; exact value_ne _ _ _ _ _) | (simp [execOp]; done)

/-- So many operations, each of which only reads and may come up once those ahead of it have. -/
def batchB (md : Region.Mode) (ops : Array Oper) : List Nat → Array Bool → Bool
  | [], _ => true
  | i :: r, listed => (Region.ready md ops listed).contains i && Region.free md ops listed i && ((ops[i]?).map noEnter).getD false && batchB md ops r (listed.setIfInBounds i true)
def markAll : List Nat → Array Bool → Array Bool
  | [], listed => listed
  | i :: r, listed => markAll r (listed.setIfInBounds i true)
def nthL : List Oper → Nat → List Oper
  | [], _ => []
  | o :: _, 0 => [o]
  | _ :: r, n + 1 => nthL r n
def pickL (l : List Oper) : List Nat → List Oper
  | [] => []
  | i :: r => nthL l i ++ pickL l r
theorem nthL_spec : ∀ (l : List Oper) (i : Nat) (o : Oper), l[i]? = some o → nthL l i = [o]
  | [], _, _, h => by simp at h
  | _ :: _, 0, _, h => by simp at h; simp [nthL, h]
  | _ :: r, n + 1, o, h => by rw [nthL]; exact nthL_spec r n o (by simpa using h)
theorem wpAnyG_batch {l : List Oper} {Q : Act → World → Prop} {w : World} (hrefl : ∀ w, G w w) (htrans : ∀ a b c, G a b → G b c → G a c) (hs : Region.noSelect l.toArray = true) : ∀ (idx : List Nat) (fuel : Nat) (listed : Array Bool) (a : Act),
    batchB md l.toArray idx listed = true → wpQuiet P l.toArray (G w) (fun a' => wpAnyG P md l.toArray G Q fuel (markAll idx listed) a' w) (pickL l idx) a → wpAnyG P md l.toArray G Q (fuel + idx.length) listed a w
  | [], _, _, _, _, h => h
  | i :: r, fuel, listed, a, hB, h => by
    simp only [batchB, Bool.and_eq_true] at hB
    obtain ⟨⟨⟨hr, hf⟩, hn⟩, hB'⟩ := hB
    obtain ⟨o, hi⟩ : ∃ o, l.toArray[i]? = some o := by
      cases ho : l.toArray[i]? with
      | none => rw [ho] at hn; simp at hn
      | some o => exact ⟨o, rfl⟩
    rw [hi] at hn
    have hn' : noEnter o = true := by simpa using hn
    rw [pickL, nthL_spec l i o (by simpa using hi), List.singleton_append] at h
    have hst : qOp P l.toArray (G w) i (wpQuiet P l.toArray (G w) (fun a' => wpAnyG P md l.toArray G Q fuel (markAll (i :: r) listed) a' w) (pickL l r)) a := by unfold qOp; simp only [hi]; exact h
    obtain ⟨v, hy, hK⟩ := yieldsIn_of_qOp hi hst
    have hfix : FixIn P l.toArray (G w) o v a := by
      rcases hy with ⟨hw, hq⟩ | ⟨hw, rfl⟩
      · refine .inl ⟨hw, fun x hx => ?_⟩
        have h1 := hq x hx
        unfold Oper.quietAt at h1
        have hne := noEnter_spec (P := P) hn' a.eval x
        generalize (execOp a.eval o).run P x = res at *
        cases res with
        | ok n w' =>
          cases n <;> simp only [Oper.quietUpon] at h1
          case value u => obtain ⟨rfl, rfl⟩ := h1; exact .inl rfl
          case skip => obtain ⟨rfl, rfl⟩ := h1; exact .inr ⟨rfl, rfl⟩
          case enter f args => exact absurd rfl (hne f args w')
        | halt y w' => simp only [Oper.quietUpon] at h1
      · exact .inr ⟨hw, rfl⟩
    exact wpAnyG_first hrefl htrans hi (Region.noSelect_spec hs) (fuel + r.length) listed a w (Region.free_spec hi hf) (by simpa using hr) hfix
      (wpAnyG_batch hrefl htrans hs r fuel _ _ hB' hK)

/-- The one operation that may come up is a call: by its contract. -/
theorem wpAnyG_call {Q : Act → World → Prop} {w : World} {fuel i : Nat} {listed : Array Bool} {a : Act} (hr : Region.ready md ops listed = [i]) {o : Oper} (hi : ops[i]? = some o) (hw : Region.wanted o (yielded ops a.tmps) = true)
    {f : Nat} {xs : Array Operand} {ts : Array TypeId} (ho : o.op = .call { callee := .value (.func f), args := xs, argTypes := ts }) (eg : ∀ args w, (callFunc f args).run P w = .ok (.enter f args) w) {args : Array Value} (hargs : xs.map a.eval = args)
    {R : Value → World → Prop} (hc : Calls P f args w fun e w' => ∃ v, e = .returned v ∧ R v w') (hG : ∀ v w', R v w' → G w w') {d : Option Tmp} (hd : o.dst = d)
    (h : ∀ v w', R v w' → wpAnyG P md ops G Q fuel (listed.setIfInBounds i true) (a.put d v) w') : wpAnyG P md ops G Q (fuel + 1) listed a w := by
  refine ⟨fun h0 => by (rw [h0] at hr; cases hr), fun j hj => ?_⟩
  rw [hr] at hj
  obtain rfl : j = i := by simpa using hj
  unfold opG
  simp only [hi, hw, if_true]
  have : (execOp a.eval o).run P w = .ok (.enter f args) w := by
    simp [execOp, ho, resolve, invoke, Act.eval, Deferred.ofValue, eg, hargs, go_sem]
  rw [this]
  exact Calls.mono hc fun e w' ⟨v, he, hv⟩ => ⟨v, he, hG v w' hv, by rw [hd]; exact h v w' hv⟩
theorem wpAnyG_call0 {Q : Act → World → Prop} {w : World} {fuel i : Nat} {listed : Array Bool} {a : Act} (hr : Region.ready md ops listed = [i]) {o : Oper} (hi : ops[i]? = some o) (hw : Region.wanted o (yielded ops a.tmps) = true) {f : Nat} {ts : Array TypeId} (ho : o.op = .call { callee := .value (.func f), args := #[], argTypes := ts }) (eg : ∀ args w, (callFunc f args).run P w = .ok (.enter f args) w)
    {R : Value → World → Prop} (hc : Calls P f #[] w fun e w' => ∃ v, e = .returned v ∧ R v w') (hG : ∀ v w', R v w' → G w w') {d : Option Tmp} (hd : o.dst = d)
    (h : ∀ v w', R v w' → wpAnyG P md ops G Q fuel (listed.setIfInBounds i true) (a.put d v) w') : wpAnyG P md ops G Q (fuel + 1) listed a w :=
  wpAnyG_call hr hi hw ho eg (by simp []) hc hG hd h
theorem wpAnyG_call1 {Q : Act → World → Prop} {w : World} {fuel i : Nat} {listed : Array Bool} {a : Act} (hr : Region.ready md ops listed = [i]) {o : Oper} (hi : ops[i]? = some o) (hw : Region.wanted o (yielded ops a.tmps) = true) {f : Nat} {x : Operand} {ts : Array TypeId} (ho : o.op = .call { callee := .value (.func f), args := #[x], argTypes := ts }) (eg : ∀ args w, (callFunc f args).run P w = .ok (.enter f args) w) {v0 : Value} (hx : a.eval x = v0)
    {R : Value → World → Prop} (hc : Calls P f #[v0] w fun e w' => ∃ v, e = .returned v ∧ R v w') (hG : ∀ v w', R v w' → G w w') {d : Option Tmp} (hd : o.dst = d)
    (h : ∀ v w', R v w' → wpAnyG P md ops G Q fuel (listed.setIfInBounds i true) (a.put d v) w') : wpAnyG P md ops G Q (fuel + 1) listed a w :=
  wpAnyG_call hr hi hw ho eg (by simp [hx]) hc hG hd h
theorem wpAnyG_call2 {Q : Act → World → Prop} {w : World} {fuel i : Nat} {listed : Array Bool} {a : Act} (hr : Region.ready md ops listed = [i]) {o : Oper} (hi : ops[i]? = some o) (hw : Region.wanted o (yielded ops a.tmps) = true) {f : Nat} {x y : Operand} {ts : Array TypeId} (ho : o.op = .call { callee := .value (.func f), args := #[x, y], argTypes := ts }) (eg : ∀ args w, (callFunc f args).run P w = .ok (.enter f args) w) {v0 v1 : Value} (hx : a.eval x = v0) (hy : a.eval y = v1)
    {R : Value → World → Prop} (hc : Calls P f #[v0, v1] w fun e w' => ∃ v, e = .returned v ∧ R v w') (hG : ∀ v w', R v w' → G w w') {d : Option Tmp} (hd : o.dst = d)
    (h : ∀ v w', R v w' → wpAnyG P md ops G Q fuel (listed.setIfInBounds i true) (a.put d v) w') : wpAnyG P md ops G Q (fuel + 1) listed a w :=
  wpAnyG_call hr hi hw ho eg (by simp [hx, hy]) hc hG hd h
theorem wpAnyG_call3 {Q : Act → World → Prop} {w : World} {fuel i : Nat} {listed : Array Bool} {a : Act} (hr : Region.ready md ops listed = [i]) {o : Oper} (hi : ops[i]? = some o) (hw : Region.wanted o (yielded ops a.tmps) = true) {f : Nat} {x y z : Operand} {ts : Array TypeId} (ho : o.op = .call { callee := .value (.func f), args := #[x, y, z], argTypes := ts }) (eg : ∀ args w, (callFunc f args).run P w = .ok (.enter f args) w) {v0 v1 v2 : Value} (hx : a.eval x = v0) (hy : a.eval y = v1) (hz : a.eval z = v2)
    {R : Value → World → Prop} (hc : Calls P f #[v0, v1, v2] w fun e w' => ∃ v, e = .returned v ∧ R v w') (hG : ∀ v w', R v w' → G w w') {d : Option Tmp} (hd : o.dst = d)
    (h : ∀ v w', R v w' → wpAnyG P md ops G Q fuel (listed.setIfInBounds i true) (a.put d v) w') : wpAnyG P md ops G Q (fuel + 1) listed a w :=
  wpAnyG_call hr hi hw ho eg (by simp [hx, hy, hz]) hc hG hd h
/-- An operation whose guard does not hold. -/
theorem wpAnyG_skip {Q : Act → World → Prop} {w : World} {fuel i : Nat} {listed : Array Bool} {a : Act} (hrefl : ∀ w, G w w) (htrans : ∀ a b c, G a b → G b c → G a c) (hs : Region.noSelect ops = true) (hr : (Region.ready md ops listed).contains i = true) (hf : Region.free md ops listed i = true) {o : Oper} (hi : ops[i]? = some o)
    (hw : Region.wanted o (yielded ops a.tmps) = false) {d : Option Tmp} (hd : o.dst = d) (h : wpAnyG P md ops G Q fuel (listed.setIfInBounds i true) (a.put d undef) w) : wpAnyG P md ops G Q (fuel + 1) listed a w :=
  wpAnyG_first hrefl htrans hi (Region.noSelect_spec hs) fuel listed a w (Region.free_spec hi hf) (by simpa using hr) (.inr ⟨hw, rfl⟩) (by rw [hd]; exact h)
theorem wpAnyG_end {Q : Act → World → Prop} {w : World} {listed : Array Bool} {a : Act} (hr : Region.ready md ops listed = []) (h : Q a w) : wpAnyG P md ops G Q 0 listed a w := ⟨hr, h⟩
theorem wp_region_greedy {id : Nat} {l : List Oper} {Q : Exit → Act → World → Prop} {a : Act} {w : World} (G : World → World → Prop) (hm : P.follows .mixedOrders = true) {n : Nat} (hn : l.toArray.size = n) {fresh : Array Bool} (hl : Array.replicate n false = fresh)
    (h : wpAnyG P .any l.toArray G (fun a' w' => Q .normal a' w') n fresh a w.drew) : (Code.region id l.toArray true).wp P Q a w := by
  subst hn hl
  exact wp_region_any hm (wpAny_of_G (fun _ _ h => h) _ _ _ _ h)
end

/-- A world in which the blocks of S are as they were. -/
structure KeepS (S : Nat → Prop) (W : World) where
  w : World
  os : w.os = W.os
  tape : w.tape = W.tape
  output : w.output = W.output
  size : W.heap.size ≤ w.heap.size
  block : ∀ k, S k → w.heap[k]? = W.heap[k]?
def GK (S : Nat → Prop) (W : World) : World → Prop := fun w' => ∃ x : KeepS S W, w' = x.w
instance {S : Nat → Prop} {W : World} : Nonempty (KeepS S W) := ⟨⟨W, rfl, rfl, rfl, Nat.le_refl _, fun _ _ => rfl⟩⟩
theorem GK.refl (S : Nat → Prop) (W : World) : GK S W W := ⟨⟨W, rfl, rfl, rfl, Nat.le_refl _, fun _ _ => rfl⟩, rfl⟩
theorem GK.trans (S : Nat → Prop) (A B C : World) (h : GK S A B) (k : GK S B C) : GK S A C := by
  obtain ⟨x, rfl⟩ := h
  obtain ⟨y, rfl⟩ := k
  exact ⟨⟨y.w, y.os.trans x.os, y.tape.trans x.tape, y.output.trans x.output, Nat.le_trans x.size y.size, fun k hk => (y.block k hk).trans (x.block k hk)⟩, rfl⟩
theorem GK.of_fr {S F : Nat → Prop} {A B : World} (h : Fr F A B) (hS : ∀ k, S k → k < A.heap.size ∧ ¬ F k) : GK S A B := ⟨⟨B, h.os, h.tape, h.output, h.size, fun k hk => h.block k (hS k hk).1 (hS k hk).2⟩, rfl⟩
theorem GK.of_below {S : Nat → Prop} {A B : World} (h : Below A.heap.size A B) (hS : ∀ k, S k → k < A.heap.size) : GK S A B := ⟨⟨B, h.os, h.tape, h.output, h.size, fun k hk => h.block k (hS k hk)⟩, rfl⟩
theorem GK.of_later {S : Nat → Prop} {A : World} (x : Later A) (hS : ∀ k, S k → k < A.heap.size) : GK S A x.w := GK.of_below x.below hS
theorem GK.less {S S' : Nat → Prop} (hS : ∀ k, S k → S' k) (A B : World) (h : GK S' A B) : GK S A B := by
  obtain ⟨x, rfl⟩ := h
  exact ⟨⟨x.w, x.os, x.tape, x.output, x.size, fun k hk => x.block k (hS k hk)⟩, rfl⟩
theorem GK.size {S : Nat → Prop} {A B : World} (h : GK S A B) : A.heap.size ≤ B.heap.size := by obtain ⟨x, rfl⟩ := h; exact x.size
theorem GK.block {S : Nat → Prop} {A B : World} (h : GK S A B) {k : Nat} (hk : S k) : B.heap[k]? = A.heap[k]? := by obtain ⟨x, rfl⟩ := h; exact x.block k hk
@[simp, go_sem] theorem KeepS.cell {S : Nat → Prop} {W : World} (x : KeepS S W) (a : Addr) (h : S a.block) : x.w.cell? a = W.cell? a := by
  have := x.block _ h
  simp only [World.cell?, this]
@[simp, go_sem] theorem KeepS.frozen {S : Nat → Prop} {W : World} (x : KeepS S W) (a : Addr) (h : S a.block) : x.w.frozen? a = W.frozen? a := by
  have := x.block _ h
  simp only [World.frozen?, this]
@[simp, go_sem] theorem KeepS.lt {S : Nat → Prop} {W : World} (x : KeepS S W) (b : Nat) (h : b < W.heap.size) : (b < x.w.heap.size) = True := eq_true (Nat.lt_of_lt_of_le h x.size)
theorem wpAnyK_batch {P : Program} {md : Region.Mode} {l : List Oper} {S : Nat → Prop} {Q : Act → World → Prop} {w : World} (idx : List Nat) (fuel : Nat) {n : Nat} (hn : fuel + idx.length = n) {listed : Array Bool} {a : Act} (hs : Region.noSelect l.toArray = true) (hB : batchB md l.toArray idx listed = true) {listed' : Array Bool} (hl : markAll idx listed = listed') {lo : List Oper} (ho : pickL l idx = lo)
    (h : wpQuiet P l.toArray (fun w' => ∃ x : KeepS S w, w' = x.w) (fun a' => wpAnyG P md l.toArray (GK S) Q fuel listed' a' w) lo a) : wpAnyG P md l.toArray (GK S) Q n listed a w := by
  subst hn hl ho
  exact wpAnyG_batch (GK.refl S) (GK.trans S) hs idx fuel listed a hB h
end Go.Proofs.Ytnahhbpaijfpbaa
