/- A region that draws its order, taken greedily (XGreedy), with operations that may turn anything (s): what only reads is taken ahead of them where they wait for it. -/
import Derived.Test.YtnahhbpaijfpbaaGreedy
import Derived.Test.YtnahhbpaijfpbaaLaid
namespace Go.Proofs.Ytnahhbpaijfpbaa
open Go Go.RowKit

section
variable {P : Program} {ops : Array Oper} {md : Region.Mode} {G : Nat → World → World → Prop}

def opT (P : Program) (ops : Array Oper) (G : Nat → World → World → Prop) (i : Nat) (K : Act → World → Prop) (a : Act) (w : World) : Prop := opG P ops (G i) i K a w
def wpT (P : Program) (md : Region.Mode) (ops : Array Oper) (G : Nat → World → World → Prop) (Q : Act → World → Prop) : Nat → Array Bool → Act → World → Prop
  | 0, listed, a, w => Region.ready md ops listed = [] ∧ Q a w
  | fuel + 1, listed, a, w =>
    (Region.ready md ops listed = [] → Q a w) ∧
    ∀ i ∈ Region.ready md ops listed, opT P ops G i (wpT P md ops G Q fuel (listed.setIfInBounds i true)) a w
theorem wpAny_of_T {Q : Act → World → Prop} {Q' : Exit → Act → World → Prop} (hQ : ∀ a w, Q a w → Q' .normal a w) : ∀ (fuel : Nat) (listed : Array Bool) (a : Act) (w : World), wpT P md ops G Q fuel listed a w → wpAny P md ops Q' fuel listed a w
  | 0, _, _, _, h => ⟨h.1, hQ _ _ h.2⟩
  | fuel + 1, _, _, _, h => ⟨fun h0 => hQ _ _ (h.1 h0), fun i hi => wpOp_of_opG (fun a' w' => wpAny_of_T hQ fuel _ a' w') (h.2 i hi)⟩

theorem wpT_first {Q : Act → World → Prop} {i : Nat} {oi : Oper} {v : Value} {C : World → Prop} (D Done : List Nat)
    (hD : ∀ k ∈ D, ∃ o, ops[k]? = some o ∧ ∃ e ∈ o.after, Region.binds md e = true ∧ (e.on = i ∨ e.on ∈ D))
    (hC : ∀ j, j ∉ D → j ∉ Done → ∀ w w', C w → G j w w' → C w') (hrefl : ∀ j w, G j w w)
    (hi : ops[i]? = some oi) (hsel : ∀ (j : Nat) (o : Oper) cs b, ops[j]? = some o → o.op ≠ .select cs b) :
    ∀ (fuel : Nat) (listed : Array Bool) (a : Act) (w : World),
      (∀ j oj, ops[j]? = some oj → j ≠ i → listed.getD j true = false → (∀ e ∈ oj.after, Region.binds md e = true → e.on ≠ i) → oi.apart ops oj = true) →
      (∀ k ∈ D, listed.getD k false = false) → (∀ k ∈ Done, listed.getD k true = true) →
      i ∈ Region.ready md ops listed → C w → FixIn P ops C oi v a →
      wpT P md ops G Q fuel (listed.setIfInBounds i true) (a.put oi.dst v) w → wpT P md ops G Q (fuel + 1) listed a w := by
  intro fuel
  induction fuel with
  | zero =>
    intro listed a w _ _ _ hr hw hy H
    refine ⟨fun h => (by rw [h] at hr; cases hr), fun j hj => ?_⟩
    by_cases hji : j = i
    · subst hji; exact hy.opG hi hw (hrefl j w) H
    · have := ready_mono hj hji
      rw [H.1] at this
      cases this
  | succ fuel ih =>
    intro listed a w hfree hDu hDn hr hw hy H
    refine ⟨fun h => (by rw [h] at hr; cases hr), fun j hj => ?_⟩
    by_cases hji : j = i
    · subst hji; exact hy.opG hi hw (hrefl j w) H
    · have h1 := H.2 j (ready_mono hj hji)
      obtain ⟨hjun, oj, hoj, hall⟩ := mem_ready.1 hj
      have hiun : listed.getD i false = false := by
        have h0 := (mem_ready.1 hr).1
        rcases Nat.lt_or_ge i listed.size with h' | h'
        · simp [h'] at h0 ⊢; exact h0
        · simp [Array.getElem?_eq_none h']
      have hnot : ∀ e ∈ oj.after, Region.binds md e = true → e.on ≠ i := fun e he hb heq => by
        have h1 := hall e he hb
        rw [heq, hiun] at h1
        cases h1
      have hjD : j ∉ D := fun hjd => by
        obtain ⟨o, ho, e, he, hb, h2⟩ := hD j hjd
        rw [hoj] at ho
        obtain rfl := Option.some.inj ho
        rcases h2 with h2 | h2
        · exact hnot e he hb h2
        · have h3 := hall e he hb
          rw [hDu _ h2] at h3
          cases h3
      have hjn : j ∉ Done := fun h => by
        rw [hDn j h] at hjun
        cases hjun
      have h2 := opG_put (G := G j) (hrefl j w) hoj (hfree j oj hoj hji hjun hnot) (fun cs b => hsel i oi cs b hi) (fun cs b => hsel j oj cs b hoj) hy h1
      have hfree' : ∀ k ok, ops[k]? = some ok → k ≠ i → (listed.setIfInBounds j true).getD k true = false →
          (∀ e ∈ ok.after, Region.binds md e = true → e.on ≠ i) → oi.apart ops ok = true := fun k ok hk hki hun hno => by
        refine hfree k ok hk hki ?_ hno
        by_cases hjk : j = k
        · subst hjk; exact hjun
        · rw [getD_set_ne true hjk] at hun; exact hun
      have hDu' : ∀ k ∈ D, (listed.setIfInBounds j true).getD k false = false := fun k hk => by
        rw [getD_set_ne false (fun e => hjD (by rw [e]; exact hk))]
        exact hDu k hk
      have hDn' : ∀ k ∈ Done, (listed.setIfInBounds j true).getD k true = true := fun k hk => by
        rw [getD_set_ne true (fun e => hjn (by rw [e]; exact hk))]
        exact hDn k hk
      refine opG_mono (fun _ h => h) (fun a' w' h3 => ih (listed.setIfInBounds j true) a' w' hfree' hDu' hDn' (ready_mono hr (Ne.symm hji)) (hC j hjD hjn w w' hw h3.2.1) h3.1 ?_) h2
      rw [Array.setIfInBounds_comm _ _ hji]
      exact h3.2.2

/-- Whatever waits for operation i, by way of others, too. -/
def depsOf (md : Region.Mode) (ops : Array Oper) (i : Nat) : List Nat :=
  (List.range ops.size).foldl (fun acc k => match ops[k]? with | some o => if o.after.any (fun e => Region.binds md e && (e.on == i || acc.contains e.on)) then k :: acc else acc | none => acc) []
def depsB (md : Region.Mode) (ops : Array Oper) (i : Nat) (D : List Nat) : Bool :=
  D.all fun k => match ops[k]? with | some o => o.after.any (fun e => Region.binds md e && (e.on == i || D.contains e.on)) | none => false
theorem depsB_spec {i : Nat} {D : List Nat} (h : depsB md ops i D = true) : ∀ k ∈ D, ∃ o, ops[k]? = some o ∧ ∃ e ∈ o.after, Region.binds md e = true ∧ (e.on = i ∨ e.on ∈ D) := by
  intro k hk
  have h1 := List.all_eq_true.1 h k hk
  cases ho : ops[k]? with
  | none => rw [ho] at h1; simp at h1
  | some o =>
    rw [ho] at h1
    simp only [Array.any_eq_true', Bool.and_eq_true, Bool.or_eq_true, beq_iff_eq, List.contains_eq_mem, decide_eq_true_eq] at h1
    obtain ⟨e, he, hb, h2⟩ := h1
    exact ⟨o, rfl, e, he, hb, h2⟩
/-- Operation i may be taken now: of those that may turn anything, each has come up already or waits for it. -/
def takeB (md : Region.Mode) (ops : Array Oper) (s : List Nat) (i : Nat) (listed : Array Bool) : Bool :=
  (Region.ready md ops listed).contains i && Region.free md ops listed i && depsB md ops i (depsOf md ops i) && (depsOf md ops i).all (fun k => !listed.getD k false) && s.all (fun j => listed.getD j false || (depsOf md ops i).contains j)
def batchT (md : Region.Mode) (ops : Array Oper) (s : List Nat) : List Nat → Array Bool → Bool
  | [], _ => true
  | i :: r, listed => takeB md ops s i listed && ((ops[i]?).map noEnter).getD false && batchT md ops s r (listed.setIfInBounds i true)
/-- s: they may turn anything; all others keep S. -/
def GS (s : List Nat) (S : Nat → Prop) (j : Nat) (W W' : World) : Prop := s.contains j = true ∨ GK S W W'
theorem GS.keep {s : List Nat} {S : Nat → Prop} {j : Nat} {W W' : World} (h : GK S W W') : GS s S j W W' := .inr h
theorem GS.any {s : List Nat} {S : Nat → Prop} {j : Nat} {W W' : World} (h : s.contains j = true) : GS s S j W W' := .inl h
theorem take_first {s : List Nat} {S : Nat → Prop} {Q : Act → World → Prop} {i : Nat} {oi : Oper} {v : Value} {w0 : World} (hs : Region.noSelect ops = true) (hi : ops[i]? = some oi) {fuel : Nat} {listed : Array Bool} {a : Act} {w : World}
    (hB : takeB md ops s i listed = true) (hw : GK S w0 w) (hy : FixIn P ops (GK S w0) oi v a) (h : wpT P md ops (GS s S) Q fuel (listed.setIfInBounds i true) (a.put oi.dst v) w) : wpT P md ops (GS s S) Q (fuel + 1) listed a w := by
  simp only [takeB, Bool.and_eq_true] at hB
  obtain ⟨⟨⟨⟨hr, hf⟩, hd⟩, hu⟩, hss⟩ := hB
  refine wpT_first (C := GK S w0) (depsOf md ops i) (s.filter fun j => listed.getD j false) (depsB_spec hd) (fun j hj hn x y hx hxy => ?_) (fun j x => .inr (GK.refl S x)) hi (Region.noSelect_spec hs) fuel listed a w (Region.free_spec hi hf) (fun k hk => ?_) (fun k hk => ?_) (by simpa using hr) hw hy h
  · rcases hxy with h1 | h1
    · exfalso
      have hjs : j ∈ s := by simpa using h1
      have h2 := List.all_eq_true.1 hss j hjs
      rw [Bool.or_eq_true] at h2
      rcases h2 with h2 | h2
      · exact hn (List.mem_filter.2 ⟨hjs, h2⟩)
      · exact hj (by simpa using h2)
    · exact GK.trans S _ _ _ hx h1
  · have := List.all_eq_true.1 hu k hk
    simpa using this
  · have h2 := (List.mem_filter.1 hk).2
    rcases Nat.lt_or_ge k listed.size with h' | h'
    · simp [h'] at h2 ⊢; exact h2
    · simp [Array.getElem?_eq_none h']
theorem wpT_batch {l : List Oper} {s : List Nat} {S : Nat → Prop} {Q : Act → World → Prop} {w : World} (hs : Region.noSelect l.toArray = true) : ∀ (idx : List Nat) (fuel : Nat) (listed : Array Bool) (a : Act),
    batchT md l.toArray s idx listed = true → wpQuiet P l.toArray (GK S w) (fun a' => wpT P md l.toArray (GS s S) Q fuel (markAll idx listed) a' w) (pickL l idx) a → wpT P md l.toArray (GS s S) Q (fuel + idx.length) listed a w
  | [], _, _, _, _, h => h
  | i :: r, fuel, listed, a, hB, h => by
    simp only [batchT, Bool.and_eq_true] at hB
    obtain ⟨⟨ht, hn⟩, hB'⟩ := hB
    obtain ⟨o, hi⟩ : ∃ o, l.toArray[i]? = some o := by
      cases ho : l.toArray[i]? with
      | none => rw [ho] at hn; simp at hn
      | some o => exact ⟨o, rfl⟩
    rw [hi] at hn
    have hn' : noEnter o = true := by simpa using hn
    rw [pickL, nthL_spec l i o (by simpa using hi), List.singleton_append] at h
    have hst : qOp P l.toArray (GK S w) i (wpQuiet P l.toArray (GK S w) (fun a' => wpT P md l.toArray (GS s S) Q fuel (markAll (i :: r) listed) a' w) (pickL l r)) a := by unfold qOp; simp only [hi]; exact h
    obtain ⟨v, hy, hK⟩ := yieldsIn_of_qOp hi hst
    have hfix : FixIn P l.toArray (GK S w) o v a := by
      rcases hy with ⟨hw, hq⟩ | ⟨hw, rfl⟩
      · refine .inl ⟨hw, fun x hx => ?_⟩
        have h1 := hq x hx
        unfold Oper.quietAt at h1
        have hne := noEnter_spec (P := P) hn' a.eval x
        generalize (execOp a.eval o).run P x = res at *
        cases res with
        | ok n w' =>
          cases n <;> simp only [Oper.quietUpon] at h1
          case value u => obtain ⟨rfl, rfl⟩ := h1; exact .inl rfl
          case skip => obtain ⟨rfl, rfl⟩ := h1; exact .inr ⟨rfl, rfl⟩
          case enter f args => exact absurd rfl (hne f args w')
        | halt y w' => simp only [Oper.quietUpon] at h1
      · exact .inr ⟨hw, rfl⟩
    exact take_first hs hi ht (GK.refl S w) hfix (wpT_batch hs r fuel _ _ hB' hK)
/-- The one operation that may come up, whatever it is, by its outcome. -/
theorem wpT_one {Q : Act → World → Prop} {w : World} {fuel i : Nat} {listed : Array Bool} {a : Act} (hr : Region.ready md ops listed = [i]) {o : Oper} (hi : ops[i]? = some o) (hw : Region.wanted o (yielded ops a.tmps) = true)
    (h : uponG P (G i) o a w (wpT P md ops G Q fuel (listed.setIfInBounds i true)) ((execOp a.eval o).run P w)) : wpT P md ops G Q (fuel + 1) listed a w := by
  refine ⟨fun h0 => by (rw [h0] at hr; cases hr), fun j hj => ?_⟩
  rw [hr] at hj
  obtain rfl : j = i := by simpa using hj
  unfold opT opG
  simp only [hi, hw, if_true]
  exact h
theorem wpT_call {Q : Act → World → Prop} {w : World} {fuel i : Nat} {listed : Array Bool} {a : Act} (hr : Region.ready md ops listed = [i]) {o : Oper} (hi : ops[i]? = some o) (hw : Region.wanted o (yielded ops a.tmps) = true)
    {f : Nat} {xs : Array Operand} {ts : Array TypeId} (ho : o.op = .call { callee := .value (.func f), args := xs, argTypes := ts }) (eg : ∀ args w, (callFunc f args).run P w = .ok (.enter f args) w) {args : Array Value} (hargs : xs.map a.eval = args)
    {R : Value → World → Prop} (hc : Calls P f args w fun e w' => ∃ v, e = .returned v ∧ R v w') (hG : ∀ v w', R v w' → G i w w') {d : Option Tmp} (hd : o.dst = d)
    (h : ∀ v w', R v w' → wpT P md ops G Q fuel (listed.setIfInBounds i true) (a.put d v) w') : wpT P md ops G Q (fuel + 1) listed a w := by
  refine wpT_one hr hi hw ?_
  have : (execOp a.eval o).run P w = .ok (.enter f args) w := by
    simp [execOp, ho, resolve, invoke, Act.eval, Deferred.ofValue, eg, hargs, go_sem]
  rw [this]
  exact Calls.mono hc fun e w' ⟨v, he, hv⟩ => ⟨v, he, hG v w' hv, by rw [hd]; exact h v w' hv⟩
theorem wpT_call0 {Q : Act → World → Prop} {w : World} {fuel i : Nat} {listed : Array Bool} {a : Act} (hr : Region.ready md ops listed = [i]) {o : Oper} (hi : ops[i]? = some o) (hw : Region.wanted o (yielded ops a.tmps) = true) {f : Nat} {ts : Array TypeId} (ho : o.op = .call { callee := .value (.func f), args := #[], argTypes := ts }) (eg : ∀ args w, (callFunc f args).run P w = .ok (.enter f args) w)
    {R : Value → World → Prop} (hc : Calls P f #[] w fun e w' => ∃ v, e = .returned v ∧ R v w') (hG : ∀ v w', R v w' → G i w w') {d : Option Tmp} (hd : o.dst = d)
    (h : ∀ v w', R v w' → wpT P md ops G Q fuel (listed.setIfInBounds i true) (a.put d v) w') : wpT P md ops G Q (fuel + 1) listed a w :=
  wpT_call hr hi hw ho eg (by simp []) hc hG hd h
theorem wpT_call1 {Q : Act → World → Prop} {w : World} {fuel i : Nat} {listed : Array Bool} {a : Act} (hr : Region.ready md ops listed = [i]) {o : Oper} (hi : ops[i]? = some o) (hw : Region.wanted o (yielded ops a.tmps) = true) {f : Nat} {x : Operand} {ts : Array TypeId} (ho : o.op = .call { callee := .value (.func f), args := #[x], argTypes := ts }) (eg : ∀ args w, (callFunc f args).run P w = .ok (.enter f args) w) {v0 : Value} (hx : a.eval x = v0)
    {R : Value → World → Prop} (hc : Calls P f #[v0] w fun e w' => ∃ v, e = .returned v ∧ R v w') (hG : ∀ v w', R v w' → G i w w') {d : Option Tmp} (hd : o.dst = d)
    (h : ∀ v w', R v w' → wpT P md ops G Q fuel (listed.setIfInBounds i true) (a.put d v) w') : wpT P md ops G Q (fuel + 1) listed a w :=
  wpT_call hr hi hw ho eg (by simp [hx]) hc hG hd h
theorem wpT_call2 {Q : Act → World → Prop} {w : World} {fuel i : Nat} {listed : Array Bool} {a : Act} (hr : Region.ready md ops listed = [i]) {o : Oper} (hi : ops[i]? = some o) (hw : Region.wanted o (yielded ops a.tmps) = true) {f : Nat} {x y : Operand} {ts : Array TypeId} (ho : o.op = .call { callee := .value (.func f), args := #[x, y], argTypes := ts }) (eg : ∀ args w, (callFunc f args).run P w = .ok (.enter f args) w) {v0 v1 : Value} (hx : a.eval x = v0) (hy : a.eval y = v1)
    {R : Value → World → Prop} (hc : Calls P f #[v0, v1] w fun e w' => ∃ v, e = .returned v ∧ R v w') (hG : ∀ v w', R v w' → G i w w') {d : Option Tmp} (hd : o.dst = d)
    (h : ∀ v w', R v w' → wpT P md ops G Q fuel (listed.setIfInBounds i true) (a.put d v) w') : wpT P md ops G Q (fuel + 1) listed a w :=
  wpT_call hr hi hw ho eg (by simp [hx, hy]) hc hG hd h
theorem wpT_call3 {Q : Act → World → Prop} {w : World} {fuel i : Nat} {listed : Array Bool} {a : Act} (hr : Region.ready md ops listed = [i]) {o : Oper} (hi : ops[i]? = some o) (hw : Region.wanted o (yielded ops a.tmps) = true) {f : Nat} {x y z : Operand} {ts : Array TypeId} (ho : o.op = .call { callee := .value (.func f), args := #[x, y, z], argTypes := ts }) (eg : ∀ args w, (callFunc f args).run P w = .ok (.enter f args) w) {v0 v1 v2 : Value} (hx : a.eval x = v0) (hy : a.eval y = v1) (hz : a.eval z = v2)
    {R : Value → World → Prop} (hc : Calls P f #[v0, v1, v2] w fun e w' => ∃ v, e = .returned v ∧ R v w') (hG : ∀ v w', R v w' → G i w w') {d : Option Tmp} (hd : o.dst = d)
    (h : ∀ v w', R v w' → wpT P md ops G Q fuel (listed.setIfInBounds i true) (a.put d v) w') : wpT P md ops G Q (fuel + 1) listed a w :=
  wpT_call hr hi hw ho eg (by simp [hx, hy, hz]) hc hG hd h
/-- The one operation makes a value, and maybe memory (append, box, buildSlice). -/
theorem wpT_value {Q : Act → World → Prop} {w : World} {fuel i : Nat} {listed : Array Bool} {a : Act} (hr : Region.ready md ops listed = [i]) {o : Oper} (hi : ops[i]? = some o) (hw : Region.wanted o (yielded ops a.tmps) = true)
    {R : Value → World → Prop} (hrun : ∃ v w', (execOp a.eval o).run P w = .ok (.value v) w' ∧ R v w') (hG : ∀ v w', R v w' → G i w w') {d : Option Tmp} (hd : o.dst = d)
    (h : ∀ v w', R v w' → wpT P md ops G Q fuel (listed.setIfInBounds i true) (a.put d v) w') : wpT P md ops G Q (fuel + 1) listed a w := by
  refine wpT_one hr hi hw ?_
  obtain ⟨v, w', hrun, hR⟩ := hrun
  rw [hrun]
  exact ⟨hG v w' hR, by rw [hd]; exact h v w' hR⟩
/-- The one operation is a store (or yields nothing). -/
theorem wpT_store {Q : Act → World → Prop} {w : World} {fuel i : Nat} {listed : Array Bool} {a : Act} (hr : Region.ready md ops listed = [i]) {o : Oper} (hi : ops[i]? = some o) (hw : Region.wanted o (yielded ops a.tmps) = true)
    {w' : World} (hrun : (execOp a.eval o).run P w = .ok .skip w') (hG : G i w w') (hd : o.dst = none)
    (h : wpT P md ops G Q fuel (listed.setIfInBounds i true) a w') : wpT P md ops G Q (fuel + 1) listed a w := by
  refine wpT_one hr hi hw ?_
  rw [hrun]
  exact ⟨hG, by rw [hd]; exact h⟩
theorem wpT_end {Q : Act → World → Prop} {w : World} {listed : Array Bool} {a : Act} (hr : Region.ready md ops listed = []) (h : Q a w) : wpT P md ops G Q 0 listed a w := ⟨hr, h⟩
theorem wp_region_taken {id : Nat} {l : List Oper} {Q : Exit → Act → World → Prop} {a : Act} {w : World} (s : List Nat) (S : Nat → Prop) (hm : P.follows .mixedOrders = true) {n : Nat} (hn : l.toArray.size = n) {fresh : Array Bool} (hl : Array.replicate n false = fresh)
    (h : wpT P .any l.toArray (GS s S) (fun a' w' => Q .normal a' w') n fresh a w.drew) : (Code.region id l.toArray true).wp P Q a w := by
  subst hn hl
  exact wp_region_any hm (wpAny_of_T (fun _ _ h => h) _ _ _ _ h)
end
theorem wpT_batchK {P : Program} {md : Region.Mode} {l : List Oper} {s : List Nat} {S : Nat → Prop} {Q : Act → World → Prop} {w : World} (idx : List Nat) (fuel : Nat) {n : Nat} (hn : fuel + idx.length = n) {listed : Array Bool} {a : Act} (hs : Region.noSelect l.toArray = true) (hB : batchT md l.toArray s idx listed = true) {lo : List Oper} (ho : pickL l idx = lo)
    (h : wpQuiet P l.toArray (fun w' => ∃ x : KeepS S w, w' = x.w) (fun a' => wpT P md l.toArray (GS s S) Q fuel (markAll idx listed) a' w) lo a) : wpT P md l.toArray (GS s S) Q n listed a w := by
  subst hn ho
  exact wpT_batch hs idx fuel listed a hB h
theorem GK.of_two {S : Nat → Prop} {w0 A B : World} (hA : Below w0.heap.size w0 A) (hB : Below w0.heap.size w0 B) (hs : A.heap.size ≤ B.heap.size) (hS : ∀ k, S k → k < w0.heap.size) : GK S A B :=
  ⟨⟨B, hB.os.trans hA.os.symm, hB.tape.trans hA.tape.symm, hB.output.trans hA.output.symm, hs, fun k hk => (hB.block k (hS k hk)).trans (hA.block k (hS k hk)).symm⟩, rfl⟩
/-- The one operation is append, to a row of the call's own. -/
theorem wpT_append {P : Program} {md : Region.Mode} {ops : Array Oper} {α : Type} {E : Elem P α} {s : List Nat} {S : Nat → Prop} {Q : Act → World → Prop} {w0 w : World} {fuel i : Nat} {listed : Array Bool} {a : Act} (hr : Region.ready md ops listed = [i]) {o : Oper} (hi : ops[i]? = some o) (hw : Region.wanted o (yielded ops a.tmps) = true)
    {x y : Operand} (ho : o.op = .call { callee := .builtin .append, args := #[x, y], argTypes := #[E.sl, E.sl] }) {v v2 : Value} {xs l2 : List α} (hx : a.eval x = v) (hy : a.eval y = v2) (hm : MadeE E w0 w v xs) (hs : SrcE E w v2 l2) (hb : (xs.length + l2.length) * E.bytes ≤ 140737488355328) (hS : ∀ k, S k → k < w0.heap.size) {d : Option Tmp} (hd : o.dst = d)
    (h : ∀ v' w', MadeE E w0 w' v' (xs ++ l2) → w.heap.size ≤ w'.heap.size → wpT P md ops (GS s S) Q fuel (listed.setIfInBounds i true) (a.put d v') w') : wpT P md ops (GS s S) Q (fuel + 1) listed a w := by
  obtain ⟨v', w', hrun, h2, h3⟩ := execE_append ho hx hy hm hs hb
  exact wpT_value hr hi hw ⟨v', w', hrun, And.intro h2 h3⟩ (R := fun v' w' => MadeE E w0 w' v' (xs ++ l2) ∧ w.heap.size ≤ w'.heap.size) (fun v' w' hh => .inr (GK.of_two hm.2 hh.1.2 hh.2 hS)) hd fun v' w' hh => h v' w' hh.1 hh.2
theorem opT_append {P : Program} {ops : Array Oper} {α : Type} {E : Elem P α} {s : List Nat} {S : Nat → Prop} {K : Act → World → Prop} {w0 w : World} {i : Nat} {a : Act} {o : Oper} (hi : ops[i]? = some o) (hw : Region.wanted o (yielded ops a.tmps) = true)
    {x y : Operand} (ho : o.op = .call { callee := .builtin .append, args := #[x, y], argTypes := #[E.sl, E.sl] }) {v v2 : Value} {xs l2 : List α} (hx : a.eval x = v) (hy : a.eval y = v2) (hm : MadeE E w0 w v xs) (hs : SrcE E w v2 l2) (hb : (xs.length + l2.length) * E.bytes ≤ 140737488355328) (hS : ∀ k, S k → k < w0.heap.size) {d : Option Tmp} (hd : o.dst = d)
    (h : ∀ v' w', MadeE E w0 w' v' (xs ++ l2) → w.heap.size ≤ w'.heap.size → K (a.put d v') w') : opT P ops (GS s S) i K a w := by
  obtain ⟨v', w', hrun, h2, h3⟩ := execE_append ho hx hy hm hs hb
  unfold opT opG
  simp only [hi, hw, if_true]
  rw [hrun]
  exact ⟨.inr (GK.of_two hm.2 h2.2 h3 hS), by rw [hd]; exact h v' w' h2 h3⟩
theorem opT_value {P : Program} {ops : Array Oper} {G : Nat → World → World → Prop} {K : Act → World → Prop} {w w' : World} {v : Value} {i : Nat} {a : Act} {o : Oper} (hi : ops[i]? = some o) (hw : Region.wanted o (yielded ops a.tmps) = true)
    (hrun : (execOp a.eval o).run P w = .ok (.value v) w') (hG : G i w w') {d : Option Tmp} (hd : o.dst = d) (h : K (a.put d v) w') : opT P ops G i K a w := by
  unfold opT opG
  simp only [hi, hw, if_true]
  rw [hrun]
  exact ⟨hG, by rw [hd]; exact h⟩
theorem wpT_two {P : Program} {md : Region.Mode} {ops : Array Oper} {G : Nat → World → World → Prop} {Q : Act → World → Prop} {w : World} {fuel i j : Nat} {listed : Array Bool} {a : Act} (hr : Region.ready md ops listed = [i, j])
    (h1 : opT P ops G i (wpT P md ops G Q fuel (listed.setIfInBounds i true)) a w) (h2 : opT P ops G j (wpT P md ops G Q fuel (listed.setIfInBounds j true)) a w) : wpT P md ops G Q (fuel + 1) listed a w := by
  refine ⟨fun h0 => by (rw [h0] at hr; cases hr), fun k hk => ?_⟩
  rw [hr] at hk
  rcases List.mem_cons.1 hk with rfl | hk
  · exact h1
  · obtain rfl : k = j := by simpa using hk
    exact h2
theorem wpT_just {P : Program} {md : Region.Mode} {ops : Array Oper} {G : Nat → World → World → Prop} {Q : Act → World → Prop} {w : World} {fuel i : Nat} {listed : Array Bool} {a : Act} (hr : Region.ready md ops listed = [i])
    (h1 : opT P ops G i (wpT P md ops G Q fuel (listed.setIfInBounds i true)) a w) : wpT P md ops G Q (fuel + 1) listed a w := by
  refine ⟨fun h0 => by (rw [h0] at hr; cases hr), fun k hk => ?_⟩
  rw [hr] at hk
  obtain rfl : k = i := by simpa using hk
  exact h1
end Go.Proofs.Ytnahhbpaijfpbaa
