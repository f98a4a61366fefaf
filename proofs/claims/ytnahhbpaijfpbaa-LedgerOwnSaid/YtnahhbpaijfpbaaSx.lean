/- A region walked in one order of its operations, which serves all others: what it must hold for that is checked once. -/
import Derived.Test.YtnahhbpaijfpbaaStar
import Derived.Test.YtnahhbpaijfpbaaTaken
namespace Go.Proofs.Ytnahhbpaijfpbaa
open Go Go.RowKit

section
variable {P : Program} {ops : Array Oper} {md : Region.Mode} {S : Nat → Prop}

/-- Operations that neither read memory nor call. -/
def noMem (o : Oper) : Bool :=
  match o.op with
  | .call { callee := .builtin .len, .. } | .call { callee := .builtin .cap, .. } | .call { callee := .builtin .min, .. } | .call { callee := .builtin .max, .. } => true
  | .move _ | .assign _ | .pick .. | .build .. | .nilCheck _ | .binOp .. | .unOp .. | .convert .. | .slice .. | .fieldAddr .. | .field .. | .indexAddr .. | .index .. | .makeInterface .. | .extract .. => true
  | _ => false
/-- In which worlds an operation's value is asked for: 0 all, 1 this one, 2 those in which S stays; else it may turn memory. -/
def clsS (S : Nat → Prop) (k : Nat) (w : World) : World → Prop :=
  match k with
  | 0 => fun _ => True
  | 1 => fun w' => w' = w
  | _ => GK S w
def opS (P : Program) (ops : Array Oper) (S : Nat → Prop) (i k : Nat) (K : Act → World → Prop) (a : Act) (w : World) : Prop :=
  match ops[i]? with
  | none => False
  | some o => if k < 3 then ∃ v, FixIn P ops (clsS S k w) o v a ∧ K (a.put o.dst v) w else if k = 3 then opG P ops (GK S) i K a w else opG P ops (fun _ _ => True) i K a w
def wpS (P : Program) (ops : Array Oper) (S : Nat → Prop) (Q : Act → World → Prop) : List (Nat × Nat) → Act → World → Prop
  | [], a, w => Q a w
  | (i, k) :: r, a, w => opS P ops S i k (wpS P ops S Q r) a w

/-- A function value, made of what is at hand. -/
def makesFunc (o : Oper) : Bool := match o.op with | .makeFunc .. => true | _ => false
def effs (ops : Array Oper) : List Nat := (List.range ops.size).filter fun j => !((ops[j]?).map fun o => noEnter o || makesFunc o).getD true
def stepB (md : Region.Mode) (ops : Array Oper) (E E4 : List Nat) (i k : Nat) (listed : Array Bool) : Bool :=
  match k with
  | 0 => (Region.ready md ops listed).contains i && Region.free md ops listed i
  | 1 => takeB md ops E i listed
  | 2 => takeB md ops E4 i listed
  | 3 => (Region.ready md ops listed == [i]) && E.contains i
  | _ => (Region.ready md ops listed == [i]) && (E.contains i && E4.contains i)
def planB (md : Region.Mode) (ops : Array Oper) (E E4 : List Nat) : List (Nat × Nat) → Array Bool → Bool
  | [], listed => (Region.ready md ops listed).isEmpty
  | (i, k) :: r, listed => stepB md ops E E4 i k listed && planB md ops E E4 r (listed.setIfInBounds i true)
/-- Operations of E4 may turn anything; those of E keep S; all others leave the world as it is. -/
def GE (S : Nat → Prop) (E E4 : List Nat) (j : Nat) (w w' : World) : Prop := (E4.contains j = true ∧ E.contains j = true) ∨ (E.contains j = true ∧ GK S w w') ∨ w' = w
def fours (plan : List (Nat × Nat)) : List Nat := (plan.filter fun x => 3 < x.2).map (·.1)

theorem GE.refl (S : Nat → Prop) (E E4 : List Nat) (j : Nat) (w : World) : GE S E E4 j w w := .inr (.inr rfl)
/-- A reading operation that all of T wait for, or have come up ahead of it. -/
theorem wpT_take {T : List Nat} {G : Nat → World → World → Prop} {C : World → Prop} {Q : Act → World → Prop} {i : Nat} {o : Oper} {v : Value} (hs : Region.noSelect ops = true) (hG : ∀ j w, G j w w) (ho : ops[i]? = some o) {fuel : Nat} {listed : Array Bool} {a : Act} {w : World} (hB : takeB md ops T i listed = true)
    (hC : ∀ j, T.contains j = false → ∀ w w', C w → G j w w' → C w') (hw : C w) (hv : FixIn P ops C o v a) (h : wpT P md ops G Q fuel (listed.setIfInBounds i true) (a.put o.dst v) w) : wpT P md ops G Q (fuel + 1) listed a w := by
  simp only [takeB, Bool.and_eq_true] at hB
  obtain ⟨⟨⟨⟨hrd, hf⟩, hd⟩, hu⟩, hss⟩ := hB
  refine wpT_first (C := C) (depsOf md ops i) (T.filter fun j => listed.getD j false) (depsB_spec hd) (fun j hj hn x y hx hxy => ?_) hG ho (Region.noSelect_spec hs) fuel listed a w (Region.free_spec ho hf) (fun k hk => ?_) (fun k hk => ?_) (by simpa using hrd) hw hv h
  · cases hjs : T.contains j with
    | false => exact hC j hjs x y hx hxy
    | true =>
      exfalso
      have hjs' : j ∈ T := by simpa using hjs
      have h2 := List.all_eq_true.1 hss j hjs'
      rw [Bool.or_eq_true] at h2
      rcases h2 with h2 | h2
      · exact hn (List.mem_filter.2 ⟨hjs', h2⟩)
      · exact hj (by simpa using h2)
  · have := List.all_eq_true.1 hu k hk
    simpa using this
  · have h2 := (List.mem_filter.1 hk).2
    rcases Nat.lt_or_ge k listed.size with h' | h'
    · simp [h'] at h2 ⊢; exact h2
    · simp [Array.getElem?_eq_none h']
theorem wpT_of_S {Q : Act → World → Prop} {E E4 : List Nat} (hs : Region.noSelect ops = true) : ∀ (plan : List (Nat × Nat)) (listed : Array Bool) (a : Act) (w : World),
    planB md ops E E4 plan listed = true → wpS P ops S Q plan a w → wpT P md ops (GE S E E4) Q plan.length listed a w
  | [], listed, a, w, hp, h => ⟨by simpa [planB] using hp, h⟩
  | (i, k) :: r, listed, a, w, hp, h => by
    simp only [planB, Bool.and_eq_true] at hp
    obtain ⟨hst, hr⟩ := hp
    unfold wpS opS at h
    cases ho : ops[i]? with
    | none => rw [ho] at h; exact h.elim
    | some o =>
      rw [ho] at h
      dsimp only at h
      have ih := fun a' w' (hh : wpS P ops S Q r a' w') => wpT_of_S hs r (listed.setIfInBounds i true) a' w' hr hh
      by_cases hk : k < 3
      · rw [if_pos hk] at h
        obtain ⟨v, hv, hK⟩ := h
        match k, hk with
        | 0, _ =>
          simp only [stepB, Bool.and_eq_true] at hst
          exact wpT_first (C := fun _ => True) [] [] (fun k hk => nomatch hk) (fun _ _ _ _ _ _ _ => trivial) (GE.refl S E E4) ho (Region.noSelect_spec hs) r.length listed a w (Region.free_spec ho hst.2) (fun k hk => nomatch hk) (fun k hk => nomatch hk) (by simpa using hst.1) trivial hv (ih _ _ hK)
        | 2, _ =>
          refine wpT_take (C := GK S w) hs (GE.refl S E E4) ho (show takeB md ops E4 i listed = true from hst) (fun j hj x y hx hxy => ?_) (GK.refl S w) hv (ih _ _ hK)
          rcases hxy with h1 | h1 | h1
          · rw [hj] at h1; exact absurd h1.1 (by decide)
          · exact GK.trans S _ _ _ hx h1.2
          · exact h1 ▸ hx
        | 1, _ =>
          refine wpT_take (C := fun w' => w' = w) hs (GE.refl S E E4) ho (show takeB md ops E i listed = true from hst) (fun j hj x y hx hxy => ?_) rfl hv (ih _ _ hK)
          rcases hxy with h1 | h1 | h1
          · rw [hj] at h1; exact absurd h1.2 (by decide)
          · rw [hj] at h1; exact absurd h1.1 (by decide)
          · exact h1.trans hx
      · rw [if_neg hk] at h
        by_cases h3 : k = 3
        · rw [if_pos h3] at h
          subst h3
          have hst' : (Region.ready md ops listed == [i] && E.contains i) = true := hst
          rw [Bool.and_eq_true] at hst'
          have hrd : Region.ready md ops listed = [i] := by simpa using hst'.1
          exact wpT_just hrd (opG_mono (fun x hx => .inr (.inl ⟨hst'.2, hx⟩)) (fun a' w' hh => ih a' w' hh) h)
        · rw [if_neg h3] at h
          have hst' : (Region.ready md ops listed == [i] && (E.contains i && E4.contains i)) = true := by
            match k, hk, h3 with
            | k + 4, _, _ => exact hst
          rw [Bool.and_eq_true, Bool.and_eq_true] at hst'
          have hrd : Region.ready md ops listed = [i] := by simpa using hst'.1
          exact wpT_just hrd (opG_mono (fun x _ => .inl ⟨hst'.2.2, hst'.2.1⟩) (fun a' w' hh => ih a' w' hh) h)
/-- A region that draws its order. -/
theorem wp_region_S {id : Nat} {l : List Oper} {Q : Exit → Act → World → Prop} {a : Act} {w : World} (S : Nat → Prop) (plan : List (Nat × Nat)) (hm : P.follows .mixedOrders = true)
    (hp : (Region.noSelect l.toArray && (plan.length == l.toArray.size) && planB .any l.toArray (effs l.toArray) (fours plan) plan (Array.replicate l.toArray.size false)) = true)
    (h : wpS P l.toArray S (fun a' w' => Q .normal a' w') plan a w.drew) : (Code.region id l.toArray true).wp P Q a w := by
  rw [Bool.and_eq_true, Bool.and_eq_true] at hp
  obtain ⟨⟨h1, h2⟩, h3⟩ := hp
  have h4 := wpT_of_S h1 plan _ a w.drew h3 h
  have h5 : plan.length = l.toArray.size := by simpa using h2
  rw [h5] at h4
  exact wp_region_any hm (wpAny_of_T (fun _ _ h => h) _ _ _ _ h4)
theorem wpOps_of_S {Q : Exit → Act → World → Prop} : ∀ (plan : List (Nat × Nat)) (a : Act) (w : World), wpS P ops S (fun a' w' => Q .normal a' w') plan a w → wpOps P ops Q (plan.map (·.1)) a w
  | [], _, _, h => h
  | (i, k) :: r, a, w, h => by
    rw [List.map_cons, wpOps_cons]
    unfold wpS opS at h
    cases ho : ops[i]? with
    | none => rw [ho] at h; exact h.elim
    | some o =>
      rw [ho] at h
      dsimp only at h
      by_cases hk : k < 3
      · rw [if_pos hk] at h
        obtain ⟨v, hv, hK⟩ := h
        have hw : clsS S k w w := by
          match k, hk with
          | 0, _ => exact trivial
          | 1, _ => exact rfl
          | 2, _ => exact GK.refl S w
        exact wpOp_of_opG (fun a' w' hh => wpOps_of_S r a' w' hh) (FixIn.opG (G := fun _ _ => True) ho hv hw trivial hK)
      · rw [if_neg hk] at h
        split at h
        · exact wpOp_of_opG (fun a' w' hh => wpOps_of_S r a' w' hh) h
        · exact wpOp_of_opG (fun a' w' hh => wpOps_of_S r a' w' hh) h
/-- A region in the text's order. -/
theorem wp_region_T {id : Nat} {l : List Oper} {Q : Exit → Act → World → Prop} {a : Act} {w : World} (plan : List (Nat × Nat)) (hp : (plan.map (·.1) == List.range l.toArray.size) = true)
    (h : wpS P l.toArray (fun _ => False) (fun a' w' => Q .normal a' w') plan a w) : (Code.region id l.toArray false).wp P Q a w :=
  wp_region (by rw [← (by simpa using hp : plan.map (·.1) = List.range l.toArray.size)]; exact wpOps_of_S plan a w h)

/-- So many operations that read, by the kit's own steps. -/
theorem wpS_batch {l : List Oper} {Q : Act → World → Prop} {w : World} {k : Nat} {rest : List (Nat × Nat)} (hk : k < 3) : ∀ (idx : List Nat) (a : Act),
    (idx.all fun i => ((l[i]?).map noEnter).getD false) = true → wpQuiet P l.toArray (clsS S k w) (fun a' => wpS P l.toArray S Q rest a' w) (pickL l idx) a → wpS P l.toArray S Q (idx.map (fun i => (i, k)) ++ rest) a w
  | [], _, _, h => h
  | i :: r, a, hB, h => by
    simp only [List.all_cons, Bool.and_eq_true] at hB
    obtain ⟨hn, hB'⟩ := hB
    obtain ⟨o, hi⟩ : ∃ o, l[i]? = some o := by
      cases ho : l[i]? with
      | none => rw [ho] at hn; simp at hn
      | some o => exact ⟨o, rfl⟩
    rw [hi] at hn
    have hn' : noEnter o = true := by simpa using hn
    have hi' : l.toArray[i]? = some o := by simpa using hi
    rw [pickL, nthL_spec l i o hi, List.singleton_append] at h
    have hst : qOp P l.toArray (clsS S k w) i (wpQuiet P l.toArray (clsS S k w) (fun a' => wpS P l.toArray S Q rest a' w) (pickL l r)) a := by unfold qOp; simp only [hi']; exact h
    obtain ⟨v, hy, hK⟩ := yieldsIn_of_qOp hi' hst
    have hfix : FixIn P l.toArray (clsS S k w) o v a := by
      rcases hy with ⟨hw, hq⟩ | ⟨hw, rfl⟩
      · refine .inl ⟨hw, fun x hx => ?_⟩
        have h1 := hq x hx
        unfold Oper.quietAt at h1
        have hne := noEnter_spec (P := P) hn' a.eval x
        generalize (execOp a.eval o).run P x = res at *
        cases res with
        | ok n w' =>
          cases n <;> simp only [Oper.quietUpon] at h1
          case value u => obtain ⟨rfl, rfl⟩ := h1; exact .inl rfl
          case skip => obtain ⟨rfl, rfl⟩ := h1; exact .inr ⟨rfl, rfl⟩
          case enter f args => exact absurd rfl (hne f args w')
        | halt y w' => simp only [Oper.quietUpon] at h1
      · exact .inr ⟨hw, rfl⟩
    show opS P l.toArray S i k (wpS P l.toArray S Q (r.map (fun i => (i, k)) ++ rest)) a w
    unfold opS
    rw [hi']
    dsimp only
    rw [if_pos hk]
    exact ⟨v, hfix, wpS_batch hk r _ hB' hK⟩
end
section
variable {P : Program} {l : List Oper} {S : Nat → Prop} {Q : Act → World → Prop} {w : World} {a : Act} {rest : List (Nat × Nat)}
/-- Reading operations, by the kit's steps: in all worlds; in this one; in those where S stays. -/
theorem wpS_all (idx : List Nat) {plan : List (Nat × Nat)} (hp : plan = idx.map (fun i => (i, 0)) ++ rest) (hB : (idx.all fun i => ((l[i]?).map noEnter).getD false) = true) {lo : List Oper} (ho : pickL l idx = lo) (h : wpQuiet P l.toArray (fun _ => True) (fun a' => wpS P l.toArray S Q rest a' w) lo a) : wpS P l.toArray S Q plan a w := by
  subst hp ho
  exact wpS_batch (by omega) idx a hB h
theorem wpS_this (idx : List Nat) {plan : List (Nat × Nat)} (hp : plan = idx.map (fun i => (i, 1)) ++ rest) (hB : (idx.all fun i => ((l[i]?).map noEnter).getD false) = true) {lo : List Oper} (ho : pickL l idx = lo) (h : wpQuiet P l.toArray (fun w' => w' = w) (fun a' => wpS P l.toArray S Q rest a' w) lo a) : wpS P l.toArray S Q plan a w := by
  subst hp ho
  exact wpS_batch (by omega) idx a hB h
theorem wpS_stay (idx : List Nat) {plan : List (Nat × Nat)} (hp : plan = idx.map (fun i => (i, 2)) ++ rest) (hB : (idx.all fun i => ((l[i]?).map noEnter).getD false) = true) {lo : List Oper} (ho : pickL l idx = lo) (h : wpQuiet P l.toArray (fun w' => ∃ x : KeepS S w, w' = x.w) (fun a' => wpS P l.toArray S Q rest a' w) lo a) : wpS P l.toArray S Q plan a w := by
  subst hp ho
  exact wpS_batch (by omega) idx a hB h
theorem wpS_nil (h : Q a w) : wpS P l.toArray S Q [] a w := h
end
end Go.Proofs.Ytnahhbpaijfpbaa
