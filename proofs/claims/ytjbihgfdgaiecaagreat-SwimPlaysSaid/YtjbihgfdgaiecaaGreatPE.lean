/- A region walked in one order of its operations, which serves all others: what it must hold for that is checked once. -/
import Derived.Test.YtjbihgfdgaiecaaGreatPA
namespace Go.Proofs.YtjbihgfdgaiecaaGreat
open Go Go.RowKit
section
variable {P : Program} {ops : Array Oper} {md : Region.Mode} {S : Nat → Prop}
def clsS (S : Nat → Prop) (k : Nat) (w : World) : World → Prop :=
 match k with
 | 0 => fun _ => True
 | 1 => fun w' => w' = w
 | _ => GK S w
def opS (P : Program) (ops : Array Oper) (S : Nat → Prop) (i k : Nat) (K : Act → World → Prop) (a : Act) (w : World) : Prop :=
 match ops[i]? with
 | none => False
 | some o => if k < 3 then ∃ v, FixIn P ops (clsS S k w) o v a ∧ K (a.put o.dst v) w else if k = 3 then opG P ops (GK S) i K a w else opG P ops (fun _ _ => True) i K a w
def wpS (P : Program) (ops : Array Oper) (S : Nat → Prop) (Q : Act → World → Prop) : List (Nat × Nat) → Act → World → Prop
 | [], a, w => Q a w
 | (i, k) :: r, a, w => opS P ops S i k (wpS P ops S Q r) a w
def makesFunc (o : Oper) : Bool := match o.op with | .makeFunc .. => true | _ => false
def effs (ops : Array Oper) : List Nat := (List.range ops.size).filter fun j => !((ops[j]?).map fun o => noEnter o || makesFunc o).getD true
def stepB (md : Region.Mode) (ops : Array Oper) (E E4 : List Nat) (i k : Nat) (listed : Array Bool) : Bool :=
 match k with
 | 0 => (Region.ready md ops listed).contains i && Region.free md ops listed i
 | 1 => takeB md ops E i listed
 | 2 => takeB md ops E4 i listed
 | 3 => (Region.ready md ops listed == [i]) && E.contains i
 | _ => (Region.ready md ops listed == [i]) && (E.contains i && E4.contains i)
def planB (md : Region.Mode) (ops : Array Oper) (E E4 : List Nat) : List (Nat × Nat) → Array Bool → Bool
 | [], listed => (Region.ready md ops listed).isEmpty
 | (i, k) :: r, listed => stepB md ops E E4 i k listed && planB md ops E E4 r (listed.setIfInBounds i true)
def GE (S : Nat → Prop) (E E4 : List Nat) (j : Nat) (w w' : World) : Prop := (E4.contains j = true ∧ E.contains j = true) ∨ (E.contains j = true ∧ GK S w w') ∨ w' = w
def fours (plan : List (Nat × Nat)) : List Nat := (plan.filter fun x => 3 < x.2).map (·.1)
theorem GE.refl (S : Nat → Prop) (E E4 : List Nat) (j : Nat) (w : World) : GE S E E4 j w w := .inr (.inr rfl)
theorem wpT_take {T : List Nat} {G : Nat → World → World → Prop} {C : World → Prop} {Q : Act → World → Prop} {i : Nat} {o : Oper} {v : Value} (hs : Region.noSelect ops = true) (hG : ∀ j w, G j w w) (ho : ops[i]? = some o) {fuel : Nat} {listed : Array Bool} {a : Act} {w : World} (hB : takeB md ops T i listed = true)
  (hC : ∀ j, T.contains j = false → ∀ w w', C w → G j w w' → C w') (hw : C w) (hv : FixIn P ops C o v a) (h : wpT P md ops G Q fuel (listed.setIfInBounds i true) (a.put o.dst v) w) : wpT P md ops G Q (fuel + 1) listed a w := by
 simp only [takeB, Bool.and_eq_true] at hB
 obtain ⟨⟨⟨⟨hrd, hf⟩, hd⟩, hu⟩, hss⟩ := hB
 refine wpT_first (C := C) (depsOf md ops i) (T.filter fun j => listed.getD j false) (depsB_spec hd) (fun j hj hn x y hx hxy => ?_) hG ho (Region.noSelect_spec hs) fuel listed a w (Region.free_spec ho hf) (fun k hk => ?_) (fun k hk => ?_) (by simpa using hrd) hw hv h
 ·cases hjs : T.contains j with
  | false => exact hC j hjs x y hx hxy
  | true =>
   exfalso
   have hjs' : j ∈ T := by simpa using hjs
   have h2 := List.all_eq_true.1 hss j hjs'
   rw [Bool.or_eq_true] at h2
   rcases h2 with h2 | h2
   ·exact hn (List.mem_filter.2 ⟨hjs', h2⟩)
   ·exact hj (by simpa using h2)
 ·have := List.all_eq_true.1 hu k hk
  simpa using this
 ·have h2 := (List.mem_filter.1 hk).2
  rcases Nat.lt_or_ge k listed.size with h' | h'
  ·simp [h'] at h2 ⊢; exact h2
  ·simp [Array.getElem?_eq_none h']
theorem wpT_of_S {Q : Act → World → Prop} {E E4 : List Nat} (hs : Region.noSelect ops = true) : ∀ (plan : List (Nat × Nat)) (listed : Array Bool) (a : Act) (w : World),
  planB md ops E E4 plan listed = true → wpS P ops S Q plan a w → wpT P md ops (GE S E E4) Q plan.length listed a w
 | [], listed, a, w, hp, h => ⟨by simpa [planB] using hp, h⟩
 | (i, k) :: r, listed, a, w, hp, h => by
  simp only [planB, Bool.and_eq_true] at hp
  obtain ⟨hst, hr⟩ := hp
  unfold wpS opS at h
  cases ho : ops[i]? with
  | none => rw [ho] at h; exact h.elim
  | some o =>
   rw [ho] at h
   dsimp only at h
   have ih := fun a' w' (hh : wpS P ops S Q r a' w') => wpT_of_S hs r (listed.setIfInBounds i true) a' w' hr hh
   by_cases hk : k < 3
   ·rw [if_pos hk] at h
    obtain ⟨v, hv, hK⟩ := h
    match k, hk with
    | 0, _ =>
     simp only [stepB, Bool.and_eq_true] at hst
     exact wpT_first (C := fun _ => True) [] [] (fun k hk => nomatch hk) (fun _ _ _ _ _ _ _ => trivial) (GE.refl S E E4) ho (Region.noSelect_spec hs) r.length listed a w (Region.free_spec ho hst.2) (fun k hk => nomatch hk) (fun k hk => nomatch hk) (by simpa using hst.1) trivial hv (ih _ _ hK)
    | 2, _ =>
     refine wpT_take (C := GK S w) hs (GE.refl S E E4) ho (show takeB md ops E4 i listed = true from hst) (fun j hj x y hx hxy => ?_) (GK.refl S w) hv (ih _ _ hK)
     rcases hxy with h1 | h1 | h1
     ·rw [hj] at h1; exact absurd h1.1 (by decide)
     ·exact GK.trans S _ _ _ hx h1.2
     ·exact h1 ▸ hx
    | 1, _ =>
     refine wpT_take (C := fun w' => w' = w) hs (GE.refl S E E4) ho (show takeB md ops E i listed = true from hst) (fun j hj x y hx hxy => ?_) rfl hv (ih _ _ hK)
     rcases hxy with h1 | h1 | h1
     ·rw [hj] at h1; exact absurd h1.2 (by decide)
     ·rw [hj] at h1; exact absurd h1.1 (by decide)
     ·exact h1.trans hx
   ·rw [if_neg hk] at h
    by_cases h3 : k = 3
    ·rw [if_pos h3] at h
     subst h3
     have hst' : (Region.ready md ops listed == [i] && E.contains i) = true := hst
     rw [Bool.and_eq_true] at hst'
     have hrd : Region.ready md ops listed = [i] := by simpa using hst'.1
     exact wpT_just hrd (opG_mono (fun x hx => .inr (.inl ⟨hst'.2, hx⟩)) (fun a' w' hh => ih a' w' hh) h)
    ·rw [if_neg h3] at h
     have hst' : (Region.ready md ops listed == [i] && (E.contains i && E4.contains i)) = true := by
      match k, hk, h3 with
      | k + 4, _, _ => exact hst
     rw [Bool.and_eq_true, Bool.and_eq_true] at hst'
     have hrd : Region.ready md ops listed = [i] := by simpa using hst'.1
     exact wpT_just hrd (opG_mono (fun x _ => .inl ⟨hst'.2.2, hst'.2.1⟩) (fun a' w' hh => ih a' w' hh) h)
theorem wp_region_S {id : Nat} {l : List Oper} {Q : Exit → Act → World → Prop} {a : Act} {w : World} (S : Nat → Prop) (plan : List (Nat × Nat)) (hm : P.follows .mixedOrders = true)
  (hp : (Region.noSelect l.toArray && (plan.length == l.toArray.size) && planB .any l.toArray (effs l.toArray) (fours plan) plan (Array.replicate l.toArray.size false)) = true)
  (h : wpS P l.toArray S (fun a' w' => Q .normal a' w') plan a w.drew) : (Code.region id l.toArray true).wp P Q a w := by
 rw [Bool.and_eq_true, Bool.and_eq_true] at hp
 obtain ⟨⟨h1, h2⟩, h3⟩ := hp
 have h4 := wpT_of_S h1 plan _ a w.drew h3 h
 have h5 : plan.length = l.toArray.size := by simpa using h2
 rw [h5] at h4
 exact wp_region_any hm (wpAny_of_T (fun _ _ h => h) _ _ _ _ h4)
theorem wpOps_of_S {Q : Exit → Act → World → Prop} : ∀ (plan : List (Nat × Nat)) (a : Act) (w : World), wpS P ops S (fun a' w' => Q .normal a' w') plan a w → wpOps P ops Q (plan.map (·.1)) a w
 | [], _, _, h => h
 | (i, k) :: r, a, w, h => by
  rw [List.map_cons, wpOps_cons]
  unfold wpS opS at h
  cases ho : ops[i]? with
  | none => rw [ho] at h; exact h.elim
  | some o =>
   rw [ho] at h
   dsimp only at h
   by_cases hk : k < 3
   ·rw [if_pos hk] at h
    obtain ⟨v, hv, hK⟩ := h
    have hw : clsS S k w w := by
     match k, hk with
     | 0, _ => exact trivial
     | 1, _ => exact rfl
     | 2, _ => exact GK.refl S w
    exact wpOp_of_opG (fun a' w' hh => wpOps_of_S r a' w' hh) (FixIn.opG (G := fun _ _ => True) ho hv hw trivial hK)
   ·rw [if_neg hk] at h
    split at h
    ·exact wpOp_of_opG (fun a' w' hh => wpOps_of_S r a' w' hh) h
    ·exact wpOp_of_opG (fun a' w' hh => wpOps_of_S r a' w' hh) h
theorem wpS_batch {l : List Oper} {Q : Act → World → Prop} {w : World} {k : Nat} {rest : List (Nat × Nat)} (hk : k < 3) : ∀ (idx : List Nat) (a : Act),
  (idx.all fun i => ((l[i]?).map noEnter).getD false) = true → wpQuiet P l.toArray (clsS S k w) (fun a' => wpS P l.toArray S Q rest a' w) (pickL l idx) a → wpS P l.toArray S Q (idx.map (fun i => (i, k)) ++ rest) a w
 | [], _, _, h => h
 | i :: r, a, hB, h => by
  simp only [List.all_cons, Bool.and_eq_true] at hB
  obtain ⟨hn, hB'⟩ := hB
  obtain ⟨o, hi⟩ : ∃ o, l[i]? = some o := by
   cases ho : l[i]? with
   | none => rw [ho] at hn; simp at hn
   | some o => exact ⟨o, rfl⟩
  rw [hi] at hn
  have hn' : noEnter o = true := by simpa using hn
  have hi' : l.toArray[i]? = some o := by simpa using hi
  rw [pickL, nthL_spec l i o hi, List.singleton_append] at h
  have hst : qOp P l.toArray (clsS S k w) i (wpQuiet P l.toArray (clsS S k w) (fun a' => wpS P l.toArray S Q rest a' w) (pickL l r)) a := by unfold qOp; simp only [hi']; exact h
  obtain ⟨v, hy, hK⟩ := yieldsIn_of_qOp hi' hst
  have hfix : FixIn P l.toArray (clsS S k w) o v a := by
   rcases hy with ⟨hw, hq⟩ | ⟨hw, rfl⟩
   ·refine .inl ⟨hw, fun x hx => ?_⟩
    have h1 := hq x hx
    unfold Oper.quietAt at h1
    have hne := noEnter_spec (P := P) hn' a.eval x
    generalize (execOp a.eval o).run P x = res at *
    cases res with
    | ok n w' =>
     cases n <;> simp only [Oper.quietUpon] at h1
     case value u => obtain ⟨rfl, rfl⟩ := h1; exact .inl rfl
     case skip => obtain ⟨rfl, rfl⟩ := h1; exact .inr ⟨rfl, rfl⟩
     case enter f args => exact absurd rfl (hne f args w')
    | halt y w' => simp only [Oper.quietUpon] at h1
   ·exact .inr ⟨hw, rfl⟩
  show opS P l.toArray S i k (wpS P l.toArray S Q (r.map (fun i => (i, k)) ++ rest)) a w
  unfold opS
  rw [hi']
  dsimp only
  rw [if_pos hk]
  exact ⟨v, hfix, wpS_batch hk r _ hB' hK⟩
end
section
variable {P : Program} {l : List Oper} {S : Nat → Prop} {Q : Act → World → Prop} {w : World} {a : Act} {rest : List (Nat × Nat)}
theorem wpS_all (idx : List Nat) {plan : List (Nat × Nat)} (hp : plan = idx.map (fun i => (i, 0)) ++ rest) (hB : (idx.all fun i => ((l[i]?).map noEnter).getD false) = true) {lo : List Oper} (ho : pickL l idx = lo) (h : wpQuiet P l.toArray (fun _ => True) (fun a' => wpS P l.toArray S Q rest a' w) lo a) : wpS P l.toArray S Q plan a w := by
 subst hp ho
 exact wpS_batch (by omega) idx a hB h
theorem wpS_this (idx : List Nat) {plan : List (Nat × Nat)} (hp : plan = idx.map (fun i => (i, 1)) ++ rest) (hB : (idx.all fun i => ((l[i]?).map noEnter).getD false) = true) {lo : List Oper} (ho : pickL l idx = lo) (h : wpQuiet P l.toArray (fun w' => w' = w) (fun a' => wpS P l.toArray S Q rest a' w) lo a) : wpS P l.toArray S Q plan a w := by
 subst hp ho
 exact wpS_batch (by omega) idx a hB h
theorem wpS_stay (idx : List Nat) {plan : List (Nat × Nat)} (hp : plan = idx.map (fun i => (i, 2)) ++ rest) (hB : (idx.all fun i => ((l[i]?).map noEnter).getD false) = true) {lo : List Oper} (ho : pickL l idx = lo) (h : wpQuiet P l.toArray (fun w' => ∃ x : KeepS S w, w' = x.w) (fun a' => wpS P l.toArray S Q rest a' w) lo a) : wpS P l.toArray S Q plan a w := by
 subst hp ho
 exact wpS_batch (by omega) idx a hB h
theorem wpS_nil (h : Q a w) : wpS P l.toArray S Q [] a w := h
end
end Go.Proofs.YtjbihgfdgaiecaaGreat

/- Memory as a list of objects side by side; what each operation, and each call, makes of it. -/
namespace Go.Proofs.YtjbihgfdgaiecaaGreat
open Go Go.RowKit
structure At where
 p : Asn
 owns : Owns p
def stars : List At → Asn
 | [] => emp
 | A :: l => star A.p (stars l)
theorem stars_owns : ∀ l, Owns (stars l)
 | [] => emp_owns
 | A :: l => star_owns A.owns (stars_owns l)
def boxT (b : Nat) (o : Obj) : At := ⟨BoxA b o, box_owns b o⟩
def prT (p : Prop) : At := ⟨pureA p emp, pureA_owns emp_owns⟩
def exT {α : Type} (f : α → List At) : At := ⟨exA fun x => stars (f x), exA_owns fun _ => stars_owns _⟩
def Mem (l : List At) (H0 : Nat → Prop) (w W : World) : Prop := SEnd (stars l) H0 w W
def selA (l : List At) : List Nat → List At × List At
 | [] => ([], l)
 | i :: r =>
  match l[i]? with
  | none => ([], l)
  | some A => (A :: (selA (l.eraseIdx i) r).1, (selA (l.eraseIdx i) r).2)
section
variable {W W' w : World} {H H0 : Nat → Prop} {L L' M pre post rem : List At} {S : Nat → Prop}
theorem starl_emp {Q : Asn} (h : Q W H) : star emp Q W H := ⟨fun _ => False, H, fun _ h => h, h, fun _ h => h.elim, fun _ => ⟨.inr, fun h => h.elim (fun h => h.elim) id⟩⟩
theorem starl_emp' {Q : Asn} (h : star emp Q W H) : Q W H := emp_right (star_comm h)
theorem stars_pick : ∀ (l : List At) (i : Nat) (A : At) {W : World} {H : Nat → Prop}, l[i]? = some A → stars l W H → star A.p (stars (l.eraseIdx i)) W H
 | [], i, A, _, _, hi, _ => by simp at hi
 | B :: l, 0, A, _, _, hi, h => by
  simp only [List.getElem?_cons_zero, Option.some.injEq] at hi
  subst hi
  exact h
 | B :: l, i + 1, A, _, _, hi, h => by
  simp only [List.getElem?_cons_succ] at hi
  exact star_swap (star_mono (fun _ h => h) (fun _ h => stars_pick l i A hi h) h)
theorem stars_sel : ∀ (idx : List Nat) (l : List At) {W : World} {H : Nat → Prop}, stars l W H → star (stars (selA l idx).1) (stars (selA l idx).2) W H
 | [], l, _, _, h => starl_emp h
 | i :: r, l, _, _, h => by
  unfold selA
  split
  ·exact starl_emp h
  ·rename_i A hA
   exact star_assoc' (star_mono (fun _ h => h) (fun _ h => stars_sel r _ h) (stars_pick l i A hA h))
theorem stars_append : ∀ {l m : List At} {W : World} {H : Nat → Prop}, star (stars l) (stars m) W H → stars (l ++ m) W H
 | [], _, _, _, h => starl_emp' h
 | _ :: _, _, _, _, h => star_mono (fun _ h => h) (fun _ h => stars_append h) (star_assoc h)
theorem stars_split : ∀ {l m : List At} {W : World} {H : Nat → Prop}, stars (l ++ m) W H → star (stars l) (stars m) W H
 | [], _, _, _, h => starl_emp h
 | _ :: _, _, _, _, h => star_assoc' (star_mono (fun _ h => h) (fun _ h => stars_split h) h)
theorem mem_refl (h : stars L W H) : Mem L H W W := sEnd_refl h
theorem Mem.below (h : Mem L H0 w W) (hb : Below W.heap.size W W') : Mem L H0 w W' := SEnd.below (stars_owns L) h hb
theorem Mem.drew (h : Mem L H0 w W) : Mem L H0 w W.drew := h.below (ext_drew (ext_refl W))
theorem Mem.only (h : Mem L H0 w W) (idx : List Nat) (hs : (selA L idx).1 = M) : Mem M H0 w W := by
 subst hs
 exact (SEnd.mono h fun _ h => star_comm (stars_sel idx L h)).drop
theorem Mem.sel (h : Mem L H0 w W) (idx : List Nat) (hs : selA L idx = (pre, rem)) : SEnd (star (stars pre) (stars rem)) H0 w W := by
 have h1 := SEnd.mono h fun _ h => stars_sel idx L h
 rw [hs] at h1
 exact h1
theorem Mem.front (h : Mem L H0 w W) (idx : List Nat) (hs : selA L idx = (pre, rem)) : Mem (pre ++ rem) H0 w W := SEnd.mono (h.sel idx hs) fun _ h => stars_append h
theorem Mem.pr {p : Prop} (h : Mem (prT p :: L) H0 w W) : p ∧ Mem L H0 w W := by
 obtain ⟨H', ⟨H1, H2, ⟨hp, h1⟩, h2, ha, he⟩, hf, hg⟩ := h
 refine ⟨hp, H2, h2, hf, fun k hk => hg k ((he k).2 (.inr hk))⟩
theorem Mem.addPr {p : Prop} (hp : p) (h : Mem L H0 w W) : Mem (prT p :: L) H0 w W := SEnd.mono h fun H h => ⟨fun _ => False, H, ⟨hp, fun _ h => h⟩, h, fun _ h => h.elim, fun _ => ⟨.inr, fun h => h.elim (fun h => h.elim) id⟩⟩
theorem Mem.ex {α : Type} {f : α → List At} (h : Mem (exT f :: L) H0 w W) : ∃ x, Mem (f x ++ L) H0 w W := by
 obtain ⟨H', ⟨H1, H2, ⟨x, h1⟩, h2, ha, he⟩, hf, hg⟩ := h
 exact ⟨x, H', stars_append ⟨H1, H2, h1, h2, ha, he⟩, hf, hg⟩
theorem Mem.addEx {α : Type} {f : α → List At} (x : α) (h : Mem (f x ++ L) H0 w W) : Mem (exT f :: L) H0 w W := SEnd.mono h fun _ h => star_mono (fun _ h => ⟨x, h⟩) (fun _ h => h) (stars_split h)
theorem Mem.have {p : Prop} (h : Mem L H0 w W) (i : Nat) {A : At} (hi : L[i]? = some A) (hp : ∀ H, A.p W H → p) : p := by
 obtain ⟨H, hs, _⟩ := h
 obtain ⟨H1, _, h1, _⟩ := stars_pick L i A hi hs
 exact hp H1 h1
theorem Mem.box {b : Nat} {o : Obj} (h : Mem L H0 w W) (i : Nat) (hi : L[i]? = some (boxT b o)) : W.heap[b]? = some o := h.have i hi fun _ h => h.1
theorem Mem.cell {b : Nat} {cs : Array Value} {t : TypeId} (h : Mem L H0 w W) (i : Nat) (hi : L[i]? = some (boxT b (.cells cs t (0, 0)))) : ∀ j, W.cell? ⟨b, j, none⟩ = cs[j]? := fun j => by
 have := h.box i hi
 simp [World.cell?, this]
theorem Mem.cellL {b : Nat} {cs : List Value} {t : TypeId} (h : Mem L H0 w W) (i : Nat) (hi : L[i]? = some (boxT b (.cells cs.toArray t (0, 0)))) : ∀ j, W.cell? ⟨b, j, none⟩ = cs[j]? := fun j => by
 have := h.box i hi
 simp [World.cell?, this]
theorem Mem.cells0 {b : Nat} {cs : List Value} {t : TypeId} (h : Mem L H0 w W) (i : Nat) (hi : L[i]? = some (boxT b (.cells cs.toArray t (0, 0)))) : ∀ k u, cs[k]? = some u → W.cell? ⟨b, 0 + k, none⟩ = some u := fun k u hu => by
 rw [Nat.zero_add, h.cellL i hi k, hu]
theorem Mem.as {A B : At} (h : Mem (A :: L) H0 w W) (hp : ∀ H, A.p W H → B.p W H) : Mem (B :: L) H0 w W := SEnd.mono h fun _ h => star_mono hp (fun _ h => h) h
def CovS (L : List At) (S : Nat → Prop) : Prop := ∀ W H, stars L W H → ∀ k, S k → H k
theorem covS_nil : CovS L fun k => k ∈ ([] : List Nat) := fun _ _ _ k hk => by simp at hk
theorem covS_of (i : Nat) {A : At} (hi : L[i]? = some A) {b : Nat} (hb : ∀ W H, A.p W H → H b) {bs : List Nat} (h : CovS L fun k => k ∈ bs) : CovS L fun k => k ∈ b :: bs := fun W H hs k hk => by
 rcases List.mem_cons.1 hk with rfl | hk
 ·obtain ⟨H1, _, h1, _, _, he⟩ := stars_pick L i A hi hs
  exact (he k).2 (.inl (hb W H1 h1))
 ·exact h W H hs k hk
theorem covS_box (i : Nat) {b : Nat} {o : Obj} (hi : L[i]? = some (boxT b o)) {bs : List Nat} (h : CovS L fun k => k ∈ bs) : CovS L fun k => k ∈ b :: bs := covS_of i hi (fun _ H h => (h.2 b).2 rfl) h
theorem CovS.lt (h : CovS L S) (hm : Mem L H0 w W) : ∀ k, S k → k < W.heap.size := fun k hk => by
 obtain ⟨H, hs, _⟩ := hm
 exact (stars_owns L).lt W H hs k (h W H hs k hk)
def Does (pr : Program) (f : FuncId) (args : Array Value) (pre : List At) (v : Value) (post : List At) : Prop := ∀ W H, stars pre W H → Calls pr f args W fun e W' => e = .returned v ∧ SEnd (stars post) H W W'
def DoesU (pr : Program) (f : FuncId) (args : Array Value) (pre : List At) (post : Value → List At) : Prop := ∀ W H, stars pre W H → Calls pr f args W fun e W' => ∃ u, e = .returned u ∧ SEnd (stars (post u)) H W W'
variable {pr : Program} {f : FuncId} {args : Array Value} {v : Value}
theorem Does.of_gives (h : ∀ W H, stars pre W H → Gives pr f args W v) : Does pr f args pre v pre := fun W H hs => (h W H hs).mono fun e W' ⟨he, x, hx⟩ => ⟨he, by subst hx; exact SEnd.later (stars_owns pre) (sEnd_refl hs) x⟩
theorem Does.of_any (h : ∀ W, Gives pr f args W v) : Does pr f args [] v [] := .of_gives fun W _ _ => h W
theorem Does.of_trip {A B : At} (h : Trip pr f args A.p fun u => pureA (u = v) B.p) : Does pr f args [A] v [B] := fun W H hs => (h W H (emp_right hs)).mono fun e W' ⟨u, he, hr⟩ => by
 have hr' : SEnd (pureA (u = v) B.p) H W W' := hr
 obtain ⟨hu, hr2⟩ := SEnd.pure hr'
 subst hu
 exact ⟨he, SEnd.mono hr2 fun H h => star_comm (starl_emp (Q := B.p) h)⟩
theorem DoesU.of_trip {A : At} {p : Value → Asn} (h : Trip pr f args A.p p) {q : Value → List At} (hq : ∀ u W H, p u W H → stars (q u) W H) : DoesU pr f args [A] q := fun W H hs => (h W H (emp_right hs)).mono fun e W' ⟨u, he, hr⟩ => ⟨u, he, hr.mono fun H h => hq u W' H h⟩
theorem Does.to_u (h : Does pr f args pre v post) : DoesU pr f args pre fun u => prT (u = v) :: post := fun W H hs => (h W H hs).mono fun e W' ⟨he, hr⟩ => ⟨v, he, Mem.addPr rfl hr⟩
theorem Does.mem (hc : Does pr f args pre v post) (h : Mem L H0 w W) (idx : List Nat) (hsel : selA L idx = (pre, rem)) (hS : CovS rem S) : Calls pr f args W fun e W' => e = .returned v ∧ Mem (post ++ rem) H0 w W' ∧ GK S W W' := by
 have hs := h.sel idx hsel
 have ht : Trip pr f args (stars pre) fun u => pureA (u = v) (stars post) := fun W H hs => (hc W H hs).mono fun e W' ⟨he, hr⟩ => ⟨v, he, hr.mono fun _ h => ⟨rfl, h⟩⟩
 refine (SEnd.call hs (stars_owns rem) ht S (hS W)).mono fun e W' ⟨u, he, h1, h2⟩ => ?_
 obtain ⟨H, ⟨H1, H2, ⟨hu, k1⟩, k2, k3, k4⟩, hf, hg⟩ := h1
 subst hu
 exact ⟨he, ⟨H, stars_append ⟨H1, H2, k1, k2, k3, k4⟩, hf, hg⟩, h2⟩
theorem DoesU.mem {post : Value → List At} (hc : DoesU pr f args pre post) (h : Mem L H0 w W) (idx : List Nat) (hsel : selA L idx = (pre, rem)) (hS : CovS rem S) : Calls pr f args W fun e W' => ∃ u, e = .returned u ∧ Mem (post u ++ rem) H0 w W' ∧ GK S W W' := by
 have hs := h.sel idx hsel
 exact (SEnd.call hs (stars_owns rem) (R := fun u => stars (post u)) hc S (hS W)).mono fun e W' ⟨u, he, h1, h2⟩ => ⟨u, he, h1.mono fun _ h => stars_append h, h2⟩
end
section
variable {P : Program} {ops : Array Oper} {S : Nat → Prop} {Q : Act → World → Prop} {a : Act} {W w : World} {H0 : Nat → Prop} {rest : List (Nat × Nat)} {i : Nat} {o : Oper} {L pre post rem : List At} {d : Option Tmp}
theorem wpS_eff (hi : ops[i]? = some o) (hw : Region.wanted o (yielded ops a.tmps) = true) {R : Value → World → Prop} (hrun : ∃ v W', (execOp a.eval o).run P W = .ok (.value v) W' ∧ R v W') (hG : ∀ v W', R v W' → GK S W W') (hd : o.dst = d)
  (h : ∀ v W', R v W' → wpS P ops S Q rest (a.put d v) W') : wpS P ops S Q ((i, 3) :: rest) a W := by
 subst hd
 show opS P ops S i 3 (wpS P ops S Q rest) a W
 unfold opS
 rw [hi]
 dsimp only
 rw [if_neg (by omega), if_pos rfl]
 unfold opG
 simp only [hi, hw, if_true]
 obtain ⟨v, W', hrun, hR⟩ := hrun
 rw [hrun]
 exact ⟨hG v W' hR, h v W' hR⟩
theorem wpS_unit (hi : ops[i]? = some o) (hw : Region.wanted o (yielded ops a.tmps) = true) {W' : World} (hrun : (execOp a.eval o).run P W = .ok .skip W') (hG : GK S W W') (hd : o.dst = none)
  (h : wpS P ops S Q rest a W') : wpS P ops S Q ((i, 3) :: rest) a W := by
 show opS P ops S i 3 (wpS P ops S Q rest) a W
 unfold opS
 rw [hi]
 dsimp only
 rw [if_neg (by omega), if_pos rfl]
 unfold opG
 simp only [hi, hw, if_true]
 rw [hrun]
 refine ⟨hG, ?_⟩
 rw [hd]
 exact h
theorem wpS_unit4 (hi : ops[i]? = some o) (hw : Region.wanted o (yielded ops a.tmps) = true) {W' : World} (hrun : (execOp a.eval o).run P W = .ok .skip W') (hd : o.dst = none)
  (h : wpS P ops S Q rest a W') : wpS P ops S Q ((i, 4) :: rest) a W := by
 show opS P ops S i 4 (wpS P ops S Q rest) a W
 unfold opS
 rw [hi]
 dsimp only
 rw [if_neg (by omega), if_neg (by omega)]
 unfold opG
 simp only [hi, hw, if_true]
 rw [hrun]
 refine ⟨trivial, ?_⟩
 rw [hd]
 exact h
theorem wpS_skip (hi : ops[i]? = some o) (hw : Region.wanted o (yielded ops a.tmps) = false) {k : Nat} (hd : o.dst = d) (h : wpS P ops S Q rest (a.put d undef) W) : wpS P ops S Q ((i, k) :: rest) a W := by
 subst hd
 show opS P ops S i k (wpS P ops S Q rest) a W
 unfold opS
 rw [hi]
 dsimp only
 split
 ·exact ⟨undef, .inr ⟨hw, rfl⟩, h⟩
 ·split
  ·unfold opG
   simp only [hi, hw]
   exact h
  ·unfold opG
   simp only [hi, hw]
   exact h
theorem wpS_enter (hi : ops[i]? = some o) (hw : Region.wanted o (yielded ops a.tmps) = true) {f : FuncId} {args : Array Value} (hrun : (execOp a.eval o).run P W = .ok (.enter f args) W) {R : Value → World → Prop} (hc : Calls P f args W fun e w' => ∃ v, e = .returned v ∧ R v w') (hG : ∀ v W', R v W' → GK S W W') (hd : o.dst = d)
  (h : ∀ v W', R v W' → wpS P ops S Q rest (a.put d v) W') : wpS P ops S Q ((i, 3) :: rest) a W := by
 subst hd
 show opS P ops S i 3 (wpS P ops S Q rest) a W
 unfold opS
 rw [hi]
 dsimp only
 rw [if_neg (by omega), if_pos rfl]
 unfold opG
 simp only [hi, hw, if_true]
 rw [hrun]
 exact Calls.mono hc fun e w'' ⟨v, he, hv⟩ => ⟨v, he, hG v w'' hv, h v w'' hv⟩
theorem run_call {f : Nat} {xs : Array Operand} {ts : Array TypeId} (ho : o.op = .call { callee := .value (.func f), args := xs, argTypes := ts }) (eg : ∀ args w, (callFunc f args).run P w = .ok (.enter f args) w) {args : Array Value} (hx : xs.map a.eval = args) : (execOp a.eval o).run P W = .ok (.enter f args) W := by
 simp [execOp, ho, resolve, invoke, Act.eval, Deferred.ofValue, eg, hx, go_sem]
 done
theorem wpS_does {f : Nat} {xs : Array Operand} {ts : Array TypeId} (hi : ops[i]? = some o) (hw : Region.wanted o (yielded ops a.tmps) = true) (ho : o.op = .call { callee := .value (.func f), args := xs, argTypes := ts }) (eg : ∀ args w, (callFunc f args).run P w = .ok (.enter f args) w) {args : Array Value} {v : Value}
  (hc : Does P f args pre v post) (hx : xs.map a.eval = args) (hm : Mem L H0 w W) (idx : List Nat) (hsel : selA L idx = (pre, rem)) (hS : CovS rem S) (hd : o.dst = d) (h : ∀ W', Mem (post ++ rem) H0 w W' → GK S W W' → wpS P ops S Q rest (a.put d v) W') : wpS P ops S Q ((i, 3) :: rest) a W :=
 wpS_enter hi hw (run_call ho eg hx) (R := fun u W' => u = v ∧ Mem (post ++ rem) H0 w W' ∧ GK S W W') ((hc.mem hm idx hsel hS).mono fun e W' ⟨he, h⟩ => ⟨v, he, rfl, h⟩) (fun _ _ h => h.2.2) hd fun u W' ⟨hu, h1, h2⟩ => by subst hu; exact h W' h1 h2
theorem wpS_doesU {f : Nat} {xs : Array Operand} {ts : Array TypeId} {post : Value → List At} (hi : ops[i]? = some o) (hw : Region.wanted o (yielded ops a.tmps) = true) (ho : o.op = .call { callee := .value (.func f), args := xs, argTypes := ts }) (eg : ∀ args w, (callFunc f args).run P w = .ok (.enter f args) w) {args : Array Value}
  (hc : DoesU P f args pre post) (hx : xs.map a.eval = args) (hm : Mem L H0 w W) (idx : List Nat) (hsel : selA L idx = (pre, rem)) (hS : CovS rem S) (hd : o.dst = d) (h : ∀ u W', Mem (post u ++ rem) H0 w W' → GK S W W' → wpS P ops S Q rest (a.put d u) W') : wpS P ops S Q ((i, 3) :: rest) a W :=
 wpS_enter hi hw (run_call ho eg hx) (R := fun u W' => Mem (post u ++ rem) H0 w W' ∧ GK S W W') (hc.mem hm idx hsel hS) (fun _ _ h => h.2) hd fun u W' h1 => h u W' h1.1 h1.2
theorem wpS_does0 {f : Nat} {ts : Array TypeId} {v : Value} {out : List At} (hi : ops[i]? = some o) (hw : Region.wanted o (yielded ops a.tmps) = true) (ho : o.op = .call { callee := .value (.func f), args := #[], argTypes := ts }) (eg : ∀ args w, (callFunc f args).run P w = .ok (.enter f args) w)
  (hc : Does P f #[] pre v post)  (hm : Mem L H0 w W) (idx : List Nat) (hsel : selA L idx = (pre, rem)) (hS : CovS rem S) (hout : post ++ rem = out) (hd : o.dst = d) (h : ∀ W', Mem out H0 w W' → GK S W W' → wpS P ops S Q rest (a.put d v) W') : wpS P ops S Q ((i, 3) :: rest) a W :=
 wpS_does hi hw ho eg hc (by simp []) hm idx hsel hS hd fun W' h1 h2 => h W' (hout ▸ h1) h2
theorem wpS_doesU0 {f : Nat} {ts : Array TypeId} {post : Value → List At} {out : Value → List At} (hi : ops[i]? = some o) (hw : Region.wanted o (yielded ops a.tmps) = true) (ho : o.op = .call { callee := .value (.func f), args := #[], argTypes := ts }) (eg : ∀ args w, (callFunc f args).run P w = .ok (.enter f args) w)
  (hc : DoesU P f #[] pre post)  (hm : Mem L H0 w W) (idx : List Nat) (hsel : selA L idx = (pre, rem)) (hS : CovS rem S) (hout : ∀ u, post u ++ rem = out u) (hd : o.dst = d) (h : ∀ u W', Mem (out u) H0 w W' → GK S W W' → wpS P ops S Q rest (a.put d u) W') : wpS P ops S Q ((i, 3) :: rest) a W :=
 wpS_doesU hi hw ho eg hc (by simp []) hm idx hsel hS hd fun u W' h1 h2 => h u W' (hout u ▸ h1) h2
theorem wpS_does1 {f : Nat} {x0 : Operand} {v0 : Value} {ts : Array TypeId} {v : Value} {out : List At} (hi : ops[i]? = some o) (hw : Region.wanted o (yielded ops a.tmps) = true) (ho : o.op = .call { callee := .value (.func f), args := #[x0], argTypes := ts }) (eg : ∀ args w, (callFunc f args).run P w = .ok (.enter f args) w)
  (hc : Does P f #[v0] pre v post) (h0 : a.eval x0 = v0) (hm : Mem L H0 w W) (idx : List Nat) (hsel : selA L idx = (pre, rem)) (hS : CovS rem S) (hout : post ++ rem = out) (hd : o.dst = d) (h : ∀ W', Mem out H0 w W' → GK S W W' → wpS P ops S Q rest (a.put d v) W') : wpS P ops S Q ((i, 3) :: rest) a W :=
 wpS_does hi hw ho eg hc (by simp [h0]) hm idx hsel hS hd fun W' h1 h2 => h W' (hout ▸ h1) h2
theorem wpS_doesU1 {f : Nat} {x0 : Operand} {v0 : Value} {ts : Array TypeId} {post : Value → List At} {out : Value → List At} (hi : ops[i]? = some o) (hw : Region.wanted o (yielded ops a.tmps) = true) (ho : o.op = .call { callee := .value (.func f), args := #[x0], argTypes := ts }) (eg : ∀ args w, (callFunc f args).run P w = .ok (.enter f args) w)
  (hc : DoesU P f #[v0] pre post) (h0 : a.eval x0 = v0) (hm : Mem L H0 w W) (idx : List Nat) (hsel : selA L idx = (pre, rem)) (hS : CovS rem S) (hout : ∀ u, post u ++ rem = out u) (hd : o.dst = d) (h : ∀ u W', Mem (out u) H0 w W' → GK S W W' → wpS P ops S Q rest (a.put d u) W') : wpS P ops S Q ((i, 3) :: rest) a W :=
 wpS_doesU hi hw ho eg hc (by simp [h0]) hm idx hsel hS hd fun u W' h1 h2 => h u W' (hout u ▸ h1) h2
theorem wpS_does2 {f : Nat} {x0 x1 : Operand} {v0 v1 : Value} {ts : Array TypeId} {v : Value} {out : List At} (hi : ops[i]? = some o) (hw : Region.wanted o (yielded ops a.tmps) = true) (ho : o.op = .call { callee := .value (.func f), args := #[x0, x1], argTypes := ts }) (eg : ∀ args w, (callFunc f args).run P w = .ok (.enter f args) w)
  (hc : Does P f #[v0, v1] pre v post) (h0 : a.eval x0 = v0) (h1 : a.eval x1 = v1) (hm : Mem L H0 w W) (idx : List Nat) (hsel : selA L idx = (pre, rem)) (hS : CovS rem S) (hout : post ++ rem = out) (hd : o.dst = d) (h : ∀ W', Mem out H0 w W' → GK S W W' → wpS P ops S Q rest (a.put d v) W') : wpS P ops S Q ((i, 3) :: rest) a W :=
 wpS_does hi hw ho eg hc (by simp [h0, h1]) hm idx hsel hS hd fun W' h1 h2 => h W' (hout ▸ h1) h2
theorem wpS_doesU2 {f : Nat} {x0 x1 : Operand} {v0 v1 : Value} {ts : Array TypeId} {post : Value → List At} {out : Value → List At} (hi : ops[i]? = some o) (hw : Region.wanted o (yielded ops a.tmps) = true) (ho : o.op = .call { callee := .value (.func f), args := #[x0, x1], argTypes := ts }) (eg : ∀ args w, (callFunc f args).run P w = .ok (.enter f args) w)
  (hc : DoesU P f #[v0, v1] pre post) (h0 : a.eval x0 = v0) (h1 : a.eval x1 = v1) (hm : Mem L H0 w W) (idx : List Nat) (hsel : selA L idx = (pre, rem)) (hS : CovS rem S) (hout : ∀ u, post u ++ rem = out u) (hd : o.dst = d) (h : ∀ u W', Mem (out u) H0 w W' → GK S W W' → wpS P ops S Q rest (a.put d u) W') : wpS P ops S Q ((i, 3) :: rest) a W :=
 wpS_doesU hi hw ho eg hc (by simp [h0, h1]) hm idx hsel hS hd fun u W' h1 h2 => h u W' (hout u ▸ h1) h2
theorem wpS_does3 {f : Nat} {x0 x1 x2 : Operand} {v0 v1 v2 : Value} {ts : Array TypeId} {v : Value} {out : List At} (hi : ops[i]? = some o) (hw : Region.wanted o (yielded ops a.tmps) = true) (ho : o.op = .call { callee := .value (.func f), args := #[x0, x1, x2], argTypes := ts }) (eg : ∀ args w, (callFunc f args).run P w = .ok (.enter f args) w)
  (hc : Does P f #[v0, v1, v2] pre v post) (h0 : a.eval x0 = v0) (h1 : a.eval x1 = v1) (h2 : a.eval x2 = v2) (hm : Mem L H0 w W) (idx : List Nat) (hsel : selA L idx = (pre, rem)) (hS : CovS rem S) (hout : post ++ rem = out) (hd : o.dst = d) (h : ∀ W', Mem out H0 w W' → GK S W W' → wpS P ops S Q rest (a.put d v) W') : wpS P ops S Q ((i, 3) :: rest) a W :=
 wpS_does hi hw ho eg hc (by simp [h0, h1, h2]) hm idx hsel hS hd fun W' h1 h2 => h W' (hout ▸ h1) h2
theorem wpS_doesU3 {f : Nat} {x0 x1 x2 : Operand} {v0 v1 v2 : Value} {ts : Array TypeId} {post : Value → List At} {out : Value → List At} (hi : ops[i]? = some o) (hw : Region.wanted o (yielded ops a.tmps) = true) (ho : o.op = .call { callee := .value (.func f), args := #[x0, x1, x2], argTypes := ts }) (eg : ∀ args w, (callFunc f args).run P w = .ok (.enter f args) w)
  (hc : DoesU P f #[v0, v1, v2] pre post) (h0 : a.eval x0 = v0) (h1 : a.eval x1 = v1) (h2 : a.eval x2 = v2) (hm : Mem L H0 w W) (idx : List Nat) (hsel : selA L idx = (pre, rem)) (hS : CovS rem S) (hout : ∀ u, post u ++ rem = out u) (hd : o.dst = d) (h : ∀ u W', Mem (out u) H0 w W' → GK S W W' → wpS P ops S Q rest (a.put d u) W') : wpS P ops S Q ((i, 3) :: rest) a W :=
 wpS_doesU hi hw ho eg hc (by simp [h0, h1, h2]) hm idx hsel hS hd fun u W' h1 h2 => h u W' (hout u ▸ h1) h2
theorem wpS_does4 {f : Nat} {x0 x1 x2 x3 : Operand} {v0 v1 v2 v3 : Value} {ts : Array TypeId} {v : Value} {out : List At} (hi : ops[i]? = some o) (hw : Region.wanted o (yielded ops a.tmps) = true) (ho : o.op = .call { callee := .value (.func f), args := #[x0, x1, x2, x3], argTypes := ts }) (eg : ∀ args w, (callFunc f args).run P w = .ok (.enter f args) w)
  (hc : Does P f #[v0, v1, v2, v3] pre v post) (h0 : a.eval x0 = v0) (h1 : a.eval x1 = v1) (h2 : a.eval x2 = v2) (h3 : a.eval x3 = v3) (hm : Mem L H0 w W) (idx : List Nat) (hsel : selA L idx = (pre, rem)) (hS : CovS rem S) (hout : post ++ rem = out) (hd : o.dst = d) (h : ∀ W', Mem out H0 w W' → GK S W W' → wpS P ops S Q rest (a.put d v) W') : wpS P ops S Q ((i, 3) :: rest) a W :=
 wpS_does hi hw ho eg hc (by simp [h0, h1, h2, h3]) hm idx hsel hS hd fun W' h1 h2 => h W' (hout ▸ h1) h2
theorem gk_box {b : Nat} {ob : Obj} {W W' : World} {bs : List Nat} (h1 : W.heap[b]? = some ob) (h2 : W'.heap[b]? = some ob) (h : GK (fun k => k ∈ bs) W W') : GK (fun k => k ∈ b :: bs) W W' := by
 obtain ⟨x, rfl⟩ := h
 exact ⟨⟨x.w, x.os, x.tape, x.output, x.size, fun k hk => by
  rcases List.mem_cons.1 hk with rfl | hk
  ·exact h2.trans h1.symm
  ·exact x.block k hk⟩, rfl⟩
theorem wpS_doesUB0 {b : Nat} {ob : Obj} {f : Nat} {ts : Array TypeId} {post : Value → List At} {out : Value → List At} (hi : ops[i]? = some o) (hw : Region.wanted o (yielded ops a.tmps) = true) (ho : o.op = .call { callee := .value (.func f), args := #[], argTypes := ts }) (eg : ∀ args w, (callFunc f args).run P w = .ok (.enter f args) w)
  (hc : DoesU P f #[] pre post)  (hm : Mem L H0 w W) (idx : List Nat) (hsel : selA L idx = (pre, rem)) (hout : ∀ u, post u ++ rem = out u) (i1 i2 : Nat) (hb1 : L[i1]? = some (boxT b ob)) (hb2 : ∀ u, (out u)[i2]? = some (boxT b ob)) (hd : o.dst = d) (h : ∀ u W', Mem (out u) H0 w W' → GK (fun k => k ∈ [b]) W W' → wpS P ops (fun k => k ∈ [b]) Q rest (a.put d u) W') : wpS P ops (fun k => k ∈ [b]) Q ((i, 3) :: rest) a W :=
 wpS_enter hi hw (run_call ho eg (by simp [])) (R := fun u W' => Mem (out u) H0 w W' ∧ GK (fun k => k ∈ [b]) W W') ((hc.mem hm idx hsel covS_nil).mono fun e W' ⟨u, he, h1, h2⟩ => ⟨u, he, hout u ▸ h1, gk_box (hm.box i1 hb1) (Mem.box (hout u ▸ h1) i2 (hb2 u)) h2⟩) (fun _ _ h => h.2) hd fun u W' h1 => h u W' h1.1 h1.2
theorem wpS_doesUB2 {b : Nat} {ob : Obj} {f : Nat} {x0 x1 : Operand} {v0 v1 : Value} {ts : Array TypeId} {post : Value → List At} {out : Value → List At} (hi : ops[i]? = some o) (hw : Region.wanted o (yielded ops a.tmps) = true) (ho : o.op = .call { callee := .value (.func f), args := #[x0, x1], argTypes := ts }) (eg : ∀ args w, (callFunc f args).run P w = .ok (.enter f args) w)
  (hc : DoesU P f #[v0, v1] pre post) (h0 : a.eval x0 = v0) (h1 : a.eval x1 = v1) (hm : Mem L H0 w W) (idx : List Nat) (hsel : selA L idx = (pre, rem)) (hout : ∀ u, post u ++ rem = out u) (i1 i2 : Nat) (hb1 : L[i1]? = some (boxT b ob)) (hb2 : ∀ u, (out u)[i2]? = some (boxT b ob)) (hd : o.dst = d) (h : ∀ u W', Mem (out u) H0 w W' → GK (fun k => k ∈ [b]) W W' → wpS P ops (fun k => k ∈ [b]) Q rest (a.put d u) W') : wpS P ops (fun k => k ∈ [b]) Q ((i, 3) :: rest) a W :=
 wpS_enter hi hw (run_call ho eg (by simp [h0, h1])) (R := fun u W' => Mem (out u) H0 w W' ∧ GK (fun k => k ∈ [b]) W W') ((hc.mem hm idx hsel covS_nil).mono fun e W' ⟨u, he, h1, h2⟩ => ⟨u, he, hout u ▸ h1, gk_box (hm.box i1 hb1) (Mem.box (hout u ▸ h1) i2 (hb2 u)) h2⟩) (fun _ _ h => h.2) hd fun u W' h1 => h u W' h1.1 h1.2
theorem wpS_doesB0 {b : Nat} {ob : Obj} {f : Nat} {ts : Array TypeId} {v : Value} {out : List At} (hi : ops[i]? = some o) (hw : Region.wanted o (yielded ops a.tmps) = true) (ho : o.op = .call { callee := .value (.func f), args := #[], argTypes := ts }) (eg : ∀ args w, (callFunc f args).run P w = .ok (.enter f args) w)
  (hc : Does P f #[] pre v post)  (hm : Mem L H0 w W) (idx : List Nat) (hsel : selA L idx = (pre, rem)) (hout : post ++ rem = out) (i1 i2 : Nat) (hb1 : L[i1]? = some (boxT b ob)) (hb2 : out[i2]? = some (boxT b ob)) (hd : o.dst = d) (h : ∀ W', Mem out H0 w W' → GK (fun k => k ∈ [b]) W W' → wpS P ops (fun k => k ∈ [b]) Q rest (a.put d v) W') : wpS P ops (fun k => k ∈ [b]) Q ((i, 3) :: rest) a W :=
 wpS_enter hi hw (run_call ho eg (by simp [])) (R := fun u W' => u = v ∧ Mem out H0 w W' ∧ GK (fun k => k ∈ [b]) W W') ((hc.mem hm idx hsel covS_nil).mono fun e W' ⟨he, h1, h2⟩ => ⟨v, he, rfl, hout ▸ h1, gk_box (hm.box i1 hb1) (Mem.box (hout ▸ h1) i2 hb2) h2⟩) (fun _ _ h => h.2.2) hd fun u W' ⟨hu, h1, h2⟩ => by subst hu; exact h W' h1 h2
theorem wpS_doesB2 {b : Nat} {ob : Obj} {f : Nat} {x0 x1 : Operand} {v0 v1 : Value} {ts : Array TypeId} {v : Value} {out : List At} (hi : ops[i]? = some o) (hw : Region.wanted o (yielded ops a.tmps) = true) (ho : o.op = .call { callee := .value (.func f), args := #[x0, x1], argTypes := ts }) (eg : ∀ args w, (callFunc f args).run P w = .ok (.enter f args) w)
  (hc : Does P f #[v0, v1] pre v post) (h0 : a.eval x0 = v0) (h1 : a.eval x1 = v1) (hm : Mem L H0 w W) (idx : List Nat) (hsel : selA L idx = (pre, rem)) (hout : post ++ rem = out) (i1 i2 : Nat) (hb1 : L[i1]? = some (boxT b ob)) (hb2 : out[i2]? = some (boxT b ob)) (hd : o.dst = d) (h : ∀ W', Mem out H0 w W' → GK (fun k => k ∈ [b]) W W' → wpS P ops (fun k => k ∈ [b]) Q rest (a.put d v) W') : wpS P ops (fun k => k ∈ [b]) Q ((i, 3) :: rest) a W :=
 wpS_enter hi hw (run_call ho eg (by simp [h0, h1])) (R := fun u W' => u = v ∧ Mem out H0 w W' ∧ GK (fun k => k ∈ [b]) W W') ((hc.mem hm idx hsel covS_nil).mono fun e W' ⟨he, h1, h2⟩ => ⟨v, he, rfl, hout ▸ h1, gk_box (hm.box i1 hb1) (Mem.box (hout ▸ h1) i2 hb2) h2⟩) (fun _ _ h => h.2.2) hd fun u W' ⟨hu, h1, h2⟩ => by subst hu; exact h W' h1 h2
theorem wpS_box {t : TypeId} {x : Operand} {v : Value} {cs : Array Value} {dd : Tmp} (hi : ops[i]? = some o) (hw : Region.wanted o (yielded ops a.tmps) = true) (ho : o.op = .box t x) (hx : a.eval x = v) (hcs : v.cells = cs) (hm : Mem L H0 w W) (hS : CovS L S) (hd : o.dst = some dd)
  (h : ∀ b W', Mem (boxT b (.cells cs t (0, 0)) :: L) H0 w W' → GK S W W' → wpS P ops S Q rest (a.put (some dd) (.pointer (some ⟨b, 0, none⟩))) W') : wpS P ops S Q ((i, 3) :: rest) a W := by
 refine wpS_eff hi hw (R := fun v W' => v = .pointer (some ⟨W.heap.size, 0, none⟩) ∧ W' = W.alloc (.cells cs t (0, 0))) ⟨_, _, ?_, rfl, rfl⟩ (fun v W' ⟨_, e⟩ => by subst e; exact GK.of_below (ext_alloc (ext_refl W) _) (hS.lt hm)) hd fun v W' ⟨hv, hW⟩ => ?_
 ·unfold execOp
  simp only [ho, hx]
  subst hcs
  simp [Instr.box, newVar, newRow, go_sem]
 ·subst hv hW
  exact h _ _ (SEnd.box (stars_owns L) hm _) (GK.of_below (ext_alloc (ext_refl W) _) (hS.lt hm))
theorem wpS_boxA {t : TypeId} {x : Operand} {cs : Array Value} {dd : Tmp} (hi : ops[i]? = some o) (hw : Region.wanted o (yielded ops a.tmps) = true) (ho : o.op = .box t x) (hx : a.eval x = .agg cs) (hm : Mem L H0 w W) (hS : CovS L S) (hd : o.dst = some dd)
  (h : ∀ b W', Mem (boxT b (.cells cs t (0, 0)) :: L) H0 w W' → GK S W W' → wpS P ops S Q rest (a.put (some dd) (.pointer (some ⟨b, 0, none⟩))) W') : wpS P ops S Q ((i, 3) :: rest) a W := wpS_box hi hw ho hx rfl hm hS hd h
theorem wpS_alloc {t : TypeId} {z : Value} {cs : Array Value} {dd : Tmp} (hi : ops[i]? = some o) (hw : Region.wanted o (yielded ops a.tmps) = true) (ho : o.op = .alloc t) (hz : (P.info? t).bind (fun i => i.zero) = some z) (hcs : z.cells = cs) (hm : Mem L H0 w W) (hS : CovS L S) (hd : o.dst = some dd)
  (h : ∀ b W', Mem (boxT b (.cells cs t (0, 0)) :: L) H0 w W' → GK S W W' → wpS P ops S Q rest (a.put (some dd) (.pointer (some ⟨b, 0, none⟩))) W') : wpS P ops S Q ((i, 3) :: rest) a W := by
 refine wpS_eff hi hw (R := fun v W' => v = .pointer (some ⟨W.heap.size, 0, none⟩) ∧ W' = W.alloc (.cells cs t (0, 0))) ⟨_, _, ?_, rfl, rfl⟩ (fun v W' ⟨_, e⟩ => by subst e; exact GK.of_below (ext_alloc (ext_refl W) _) (hS.lt hm)) hd fun v W' ⟨hv, hW⟩ => ?_
 ·obtain ⟨n, hn, hz⟩ := Option.bind_eq_some_iff.1 hz
  unfold execOp
  simp only [ho]
  subst hcs
  simp [Instr.alloc, zeroValue, typeInfo, newVar, newRow, hn, hz, go_sem]
 ·subst hv hW
  exact h _ _ (SEnd.box (stars_owns L) hm _) (GK.of_below (ext_alloc (ext_refl W) _) (hS.lt hm))
def putL : List Value → Nat → List Value → List Value
 | l, _, [] => l
 | l, off, v :: r => putL (l.set off v) (off + 1) r
theorem run_storeCells {b : Nat} {t : TypeId} : ∀ (vs : List Value) (cs : List Value) (off j : Nat) (W : World), W.heap[b]? = some (.cells cs.toArray t (0, 0)) → off + j + vs.length ≤ cs.length → (∀ v ∈ vs, v.oneCell' = true) →
  (storeCells ⟨b, off, none⟩ vs j).run P W = .ok () { W with heap := W.heap.setIfInBounds b (.cells (putL cs (off + j) vs).toArray t (0, 0)) }
 | [], cs, off, j, W, hb, _, _ => by
  have hlt := (Array.getElem?_eq_some_iff.1 hb).1
  have : W.heap.setIfInBounds b (.cells cs.toArray t (0, 0)) = W.heap := by
   apply Array.ext_getElem?
   intro k
   by_cases hk : b = k
   ·subst hk; rw [Array.getElem?_setIfInBounds_self_of_lt hlt, hb]
   ·rw [Array.getElem?_setIfInBounds_ne hk]
  simp [storeCells, putL, this, go_sem]
 | v :: vs, cs, off, j, W, hb, hl, h1 => by
  have hlt := (Array.getElem?_eq_some_iff.1 hb).1
  have hc : W.cell? ⟨b, off + j, none⟩ = some (cs[off + j]'(by simp only [List.length_cons] at hl; omega)) := by
   simp only [World.cell?, hb]
   simp only [List.length_cons] at hl
   simp [List.getElem?_eq_getElem (show off + j < cs.length by omega)]
  have hfz : W.frozen? ⟨b, off + j, none⟩ = false := by simp [World.frozen?, hb]
  have hone := h1 v List.mem_cons_self
  have hset : W.setCell ⟨b, off + j, none⟩ v = { W with heap := W.heap.setIfInBounds b (.cells (cs.set (off + j) v).toArray t (0, 0)) } := by
   unfold World.setCell
   congr 1
   apply Array.ext_getElem?
   intro k
   rw [Array.getElem?_modify]
   by_cases hk : b = k
   ·subst hk
    rw [if_pos rfl, hb, Array.getElem?_setIfInBounds_self_of_lt hlt]
    simp
   ·rw [if_neg hk, Array.getElem?_setIfInBounds_ne hk]
  have hrun : (store (Addr.add ⟨b, off, none⟩ j) v).run P W = .ok () (W.setCell ⟨b, off + j, none⟩ v) := by
   have e : Addr.add ⟨b, off, none⟩ j = ⟨b, off + j, none⟩ := addr_off b off j
   rw [e]
   cases v <;> simp_all [store, Sem.run, Value.oneCell']
  have ih := run_storeCells vs (cs.set (off + j) v) off (j + 1) (W.setCell ⟨b, off + j, none⟩ v) (by rw [hset]; exact Array.getElem?_setIfInBounds_self_of_lt hlt) (by rw [List.length_set]; simp only [List.length_cons] at hl; omega) fun u hu => h1 u (List.mem_cons_of_mem _ hu)
  show (Sem.run P (do store (Addr.add ⟨b, off, none⟩ j) v; storeCells ⟨b, off, none⟩ vs (j + 1)) W) = _
  rw [Sem.run_bind, hrun, Result.andThen_ok, ih, hset]
  simp [putL, Nat.add_assoc]
theorem Mem.setBox {b : Nat} {o : Obj} (h : Mem L H0 w W) (k : Nat) (hk : L[k]? = some (boxT b o)) (o' : Obj) (hS : CovS (L.eraseIdx k) S) : Mem (boxT b o' :: L.eraseIdx k) H0 w { W with heap := W.heap.setIfInBounds b o' } ∧ GK S W { W with heap := W.heap.setIfInBounds b o' } := by
 have h1 : SEnd (star (BoxA b o) (stars (L.eraseIdx k))) H0 w W := SEnd.mono h fun _ h => stars_pick L k _ hk h
 obtain ⟨H, hs, hf, hg⟩ := h1
 obtain ⟨H1, ⟨hb, hH⟩, _, h3⟩ := star_frame (stars_owns _) hs
 have hlt := (Array.getElem?_eq_some_iff.1 hb).1
 have hend : SEnd (BoxA b o') H1 W { W with heap := W.heap.setIfInBounds b o' } := by
  refine ⟨H1, ⟨Array.getElem?_setIfInBounds_self_of_lt hlt, hH⟩, ⟨rfl, rfl, rfl, by simp, fun j _ hn => ?_⟩, fun _ hk => .inl hk⟩
  exact Array.getElem?_setIfInBounds_ne fun e => hn ((hH j).2 e.symm)
 refine ⟨SEnd.trans (P := fun W1 H' => W1 = W ∧ H' = H) ⟨H, ⟨rfl, rfl⟩, hf, hg⟩ fun H' ⟨_, e⟩ => by subst e; exact (h3 _ _ hend).1, (h3 _ _ hend).2 S (hS W)⟩
theorem wpS_store {t tt : TypeId} {x y : Operand} {b off : Nat} {v : Value} {vs cs cs' : List Value} (hi : ops[i]? = some o) (hw : Region.wanted o (yielded ops a.tmps) = true) (ho : o.op = .store t x y) (hx : a.eval x = .pointer (some ⟨b, off, none⟩)) (hy : a.eval y = v) (hv : v.cells.toList = vs) (hn : (P.info? t).map (fun i => i.size) = some vs.length) (hone : (vs.all Value.oneCell') = true)
  (hm : Mem L H0 w W) (k : Nat) (hk : L[k]? = some (boxT b (.cells cs.toArray tt (0, 0)))) (hlen : off + vs.length ≤ cs.length) (hcs : putL cs off vs = cs') (hS : CovS (L.eraseIdx k) S) (hd : o.dst = none) (h : ∀ W', Mem (boxT b (.cells cs'.toArray tt (0, 0)) :: L.eraseIdx k) H0 w W' → GK S W W' → wpS P ops S Q rest a W') : wpS P ops S Q ((i, 3) :: rest) a W := by
 obtain ⟨h1, h2⟩ := hm.setBox k hk (.cells cs'.toArray tt (0, 0)) hS
 obtain ⟨ti, hti, hsz⟩ := Option.map_eq_some_iff.1 hn
 refine wpS_unit hi hw ?_ h2 hd (h _ h1 h2)
 have hr := run_storeCells (P := P) vs cs off 0 W (hm.box k hk) (by omega) fun u hu => List.all_eq_true.1 hone u hu
 subst hcs
 have hvs : v.cells.size = vs.length := by rw [← hv]; simp
 have hsize : (sizeOf t).run P W = .ok vs.length W := by simp [sizeOf, typeInfo, hti, hsz, go_sem]
 have h3 : (storeVar t ⟨b, off, none⟩ v).run P W = .ok () { W with heap := W.heap.setIfInBounds b (.cells (putL cs off vs).toArray tt (0, 0)) } := by
  unfold storeVar
  rw [Sem.run_bind, hsize, Result.andThen_ok, if_neg (by rw [hvs]; simp), hv]
  simpa using hr
 unfold execOp
 simp only [ho, hx, hy, Instr.storeAt, Instr.sureAddr, Sem.run_bind, Sem.run_pure, Result.andThen_ok, h3]
theorem wpS_storeA {t tt : TypeId} {x y : Operand} {b off : Nat} {vs cs cs' : List Value} {L2 : List At} (hi : ops[i]? = some o) (hw : Region.wanted o (yielded ops a.tmps) = true) (ho : o.op = .store t x y) (hx : a.eval x = .pointer (some ⟨b, off, none⟩)) (hy : a.eval y = .agg vs.toArray) (hn : (P.info? t).map (fun i => i.size) = some vs.length) (hone : (vs.all Value.oneCell') = true)
  (hm : Mem L H0 w W) (k : Nat) (hk : L[k]? = some (boxT b (.cells cs.toArray tt (0, 0)))) (hL2 : L.eraseIdx k = L2) (hlen : Nat.ble (off + vs.length) cs.length = true) (hcs : putL cs off vs = cs') (hS : CovS L2 S) (hd : o.dst = none) (h : ∀ W', Mem (boxT b (.cells cs'.toArray tt (0, 0)) :: L2) H0 w W' → GK S W W' → wpS P ops S Q rest a W') : wpS P ops S Q ((i, 3) :: rest) a W := by
 subst hL2
 exact wpS_store hi hw ho hx hy (by simp [Value.cells]) hn hone hm k hk (Nat.le_of_ble_eq_true hlen) hcs hS hd h
theorem wpS_store1 {t tt : TypeId} {x y : Operand} {b off : Nat} {v : Value} {cs cs' : List Value} {L2 : List At} (hi : ops[i]? = some o) (hw : Region.wanted o (yielded ops a.tmps) = true) (ho : o.op = .store t x y) (hx : a.eval x = .pointer (some ⟨b, off, none⟩)) (hy : a.eval y = v) (hv : v.cells = #[v]) (hn : (P.info? t).map (fun i => i.size) = some 1) (hone : v.oneCell' = true)
  (hm : Mem L H0 w W) (k : Nat) (hk : L[k]? = some (boxT b (.cells cs.toArray tt (0, 0)))) (hL2 : L.eraseIdx k = L2) (hlen : Nat.ble (off + 1) cs.length = true) (hcs : cs.set off v = cs') (hS : CovS L2 S) (hd : o.dst = none) (h : ∀ W', Mem (boxT b (.cells cs'.toArray tt (0, 0)) :: L2) H0 w W' → GK S W W' → wpS P ops S Q rest a W') : wpS P ops S Q ((i, 3) :: rest) a W := by
 subst hL2
 exact wpS_store (vs := [v]) hi hw ho hx hy (by rw [hv]) hn (by simp [hone]) hm k hk (Nat.le_of_ble_eq_true hlen) (by simpa [putL] using hcs) hS hd h
theorem wpS_store4 {t tt : TypeId} {x y : Operand} {b off : Nat} {v : Value} {vs cs cs' : List Value} (hi : ops[i]? = some o) (hw : Region.wanted o (yielded ops a.tmps) = true) (ho : o.op = .store t x y) (hx : a.eval x = .pointer (some ⟨b, off, none⟩)) (hy : a.eval y = v) (hv : v.cells.toList = vs) (hn : (P.info? t).map (fun i => i.size) = some vs.length) (hone : (vs.all Value.oneCell') = true)
  (hm : Mem L H0 w W) (k : Nat) (hk : L[k]? = some (boxT b (.cells cs.toArray tt (0, 0)))) (hlen : off + vs.length ≤ cs.length) (hcs : putL cs off vs = cs') (hd : o.dst = none) (h : ∀ W', Mem (boxT b (.cells cs'.toArray tt (0, 0)) :: L.eraseIdx k) H0 w W' → wpS P ops S Q rest a W') : wpS P ops S Q ((i, 4) :: rest) a W := by
 obtain ⟨h1, _⟩ := hm.setBox k hk (.cells cs'.toArray tt (0, 0)) (covS_nil)
 obtain ⟨ti, hti, hsz⟩ := Option.map_eq_some_iff.1 hn
 refine wpS_unit4 hi hw ?_ hd (h _ h1)
 have hr := run_storeCells (P := P) vs cs off 0 W (hm.box k hk) (by omega) fun u hu => List.all_eq_true.1 hone u hu
 subst hcs
 have hvs : v.cells.size = vs.length := by rw [← hv]; simp
 have hsize : (sizeOf t).run P W = .ok vs.length W := by simp [sizeOf, typeInfo, hti, hsz, go_sem]
 have h3 : (storeVar t ⟨b, off, none⟩ v).run P W = .ok () { W with heap := W.heap.setIfInBounds b (.cells (putL cs off vs).toArray tt (0, 0)) } := by
  unfold storeVar
  rw [Sem.run_bind, hsize, Result.andThen_ok, if_neg (by rw [hvs]; simp), hv]
  simpa using hr
 unfold execOp
 simp only [ho, hx, hy, Instr.storeAt, Instr.sureAddr, Sem.run_bind, Sem.run_pure, Result.andThen_ok, h3]
theorem wpS_store14 {t tt : TypeId} {x y : Operand} {b off : Nat} {v : Value} {cs cs' : List Value} {L2 : List At} (hi : ops[i]? = some o) (hw : Region.wanted o (yielded ops a.tmps) = true) (ho : o.op = .store t x y) (hx : a.eval x = .pointer (some ⟨b, off, none⟩)) (hy : a.eval y = v) (hv : v.cells = #[v]) (hn : (P.info? t).map (fun i => i.size) = some 1) (hone : v.oneCell' = true)
  (hm : Mem L H0 w W) (k : Nat) (hk : L[k]? = some (boxT b (.cells cs.toArray tt (0, 0)))) (hL2 : L.eraseIdx k = L2) (hlen : Nat.ble (off + 1) cs.length = true) (hcs : cs.set off v = cs') (hd : o.dst = none) (h : ∀ W', Mem (boxT b (.cells cs'.toArray tt (0, 0)) :: L2) H0 w W' → wpS P ops S Q rest a W') : wpS P ops S Q ((i, 4) :: rest) a W := by
 subst hL2
 exact wpS_store4 (vs := [v]) hi hw ho hx hy (by rw [hv]) hn (by simp [hone]) hm k hk (Nat.le_of_ble_eq_true hlen) (by simpa [putL] using hcs) hd h
end
section
variable {P : Program} {Q : Exit → Act → World → Prop} {K : Act → World → Prop} {a : Act} {w : World} {id j : Nat}
theorem then_normal (h : K a w) : Exit.then K Q .normal a w := h
theorem then_ret (h : Q .ret a w) : Exit.then K Q .ret a w := h
theorem then_exit (h : Q (.exit j) a w) : Exit.then K Q (.exit j) a w := h
theorem block_normal (h : Q .normal a w) : Exit.inBlock id Q .normal a w := h
theorem block_ret (h : Q .ret a w) : Exit.inBlock id Q .ret a w := h
theorem block_exit (h : Q .normal a w) : Exit.inBlock id Q (.exit id) a w := by simpa [Exit.inBlock] using h
theorem wp_region_M {L : List At} {H0 : Nat → Prop} {w0 : World} {i : Nat} {l : List Oper} (S : Nat → Prop) (plan : List (Nat × Nat)) (hm : P.follows .mixedOrders = true)
  (hp : (Region.noSelect l.toArray && (plan.length == l.toArray.size) && planB .any l.toArray (effs l.toArray) (fours plan) plan (Array.replicate l.toArray.size false)) = true) (hM : Mem L H0 w0 w)
  (h : ∀ W, Mem L H0 w0 W → wpS P l.toArray S (fun a' w' => Q .normal a' w') plan a W) : (Code.region i l.toArray true).wp P Q a w := wp_region_S S plan hm hp (h _ hM.drew)
theorem wp_region_N {i : Nat} {l : List Oper} (plan : List (Nat × Nat)) (hp : (plan.map (·.1) == List.range l.toArray.size) = true)
  (h : wpS P l.toArray (fun k => k ∈ ([] : List Nat)) (fun a' w' => Q .normal a' w') plan a w) : (Code.region i l.toArray false).wp P Q a w :=
 wp_region (by rw [← (by simpa using hp : plan.map (·.1) = List.range l.toArray.size)]; exact wpOps_of_S plan a w h)
theorem ret_cell {fn : Func} {p : Tmp} {ty tt : TypeId} {b : Nat} {cs : Array Value} {td : TypeDesc} {R : Ending → World → Prop} {L : List At} {H0 : Nat → Prop} {w0 : World} (h : fn.results = #[.cell p ty]) (hm : Mem L H0 w0 w) (k : Nat) (hk : L[k]? = some (boxT b (.cells cs tt (0, 0)))) (hp : a.tmps.getD p undef = .pointer (some ⟨b, 0, none⟩))
  (hu : P.underlying ty = some td) (hd : (match td with | .struct _ | .array _ _ => true | _ => false) = true) (hi : (P.info? ty).map (·.size) = some cs.size) (hdf : a.defers = []) (hR : R (.returned (.agg cs)) w) : bodyPost P fn R .ret a w :=
 bodyPost_ret (results_cell_row h a.tmps w b tt cs (0, 0) td hp (hm.box k hk) hu hd hi) hdf hR
theorem does_ret {v v' : Value} {M post : List At} {H : Nat → Prop} {w W : World} (hm : Mem M H w W) (hv : v' = v) (hp : M = post) : (Ending.returned v' = .returned v ∧ SEnd (stars post) H w W) := by
 subst hv hp
 exact ⟨rfl, hm⟩
theorem doesU_ret {v : Value} {M : List At} {post : Value → List At} {H : Nat → Prop} {w W : World} (hm : Mem M H w W) (hp : M = post v) : ∃ u, Ending.returned v = .returned u ∧ SEnd (stars (post u)) H w W := by
 subst hp
 exact ⟨v, rfl, hm⟩
end
end Go.Proofs.YtjbihgfdgaiecaaGreat

/- A loop by an invariant over the slots that it writes. -/
namespace Go.Proofs.YtjbihgfdgaiecaaGreat
open Go Go.RowKit
theorem exists_least {p : Nat → Prop} (h : ∃ n, p n) : ∃ m, p m ∧ ∀ k, p k → m ≤ k := by
 obtain ⟨n, hn⟩ := h
 induction n using Nat.strongRecOn with
 | _ n ih =>
  by_cases hk : ∃ k, k < n ∧ p k
  ·obtain ⟨k, hlt, hp⟩ := hk
   exact ih k hlt hp
  ·refine ⟨n, hn, fun k hp => ?_⟩
   rcases Nat.lt_or_ge k n with h | h
   ·exact absurd ⟨k, h, hp⟩ hk
   ·exact h
section
variable {P : Program} {Q : Exit → Act → World → Prop} {c : Code} {a : Act} {w : World}
theorem wp_loop_J (J : Nat → Act → World → Prop) {n0 : Nat} (h0 : J n0 a w) (round : ∀ n a w, J n a w → c.wp P (Exit.then (fun a' w' => ∃ m, m < n ∧ J m a' w') Q) a w) : (Code.loop c).wp P Q a w := by
 classical
 have hl : ∀ a w, (∃ n, J n a w) → ∃ m, J m a w ∧ ∀ k, J k a w → m ≤ k := fun a w h => exists_least h
 let μ : Act → World → Nat := fun a w => if h : ∃ n, J n a w then Classical.choose (hl a w h) else 0
 have hμ : ∀ a w (h : ∃ n, J n a w), J (μ a w) a w ∧ ∀ k, J k a w → μ a w ≤ k := fun a w h => by
  have e : μ a w = Classical.choose (hl a w h) := dif_pos h
  rw [e]
  exact Classical.choose_spec (hl a w h)
 refine wp_loop (fun a w => ∃ n, J n a w) μ ⟨n0, h0⟩ fun a w h => ?_
 obtain ⟨h1, _⟩ := hμ a w h
 refine wp_mono (round _ a w h1) fun e a' w' he => ?_
 cases e with
 | normal =>
  obtain ⟨m, hm, hj⟩ := he
  exact ⟨⟨m, hj⟩, Nat.lt_of_le_of_lt ((hμ a' w' ⟨m, hj⟩).2 m hj) hm⟩
 | _ => exact he
def putAll (a : Act) : List (Nat × Value) → Act
 | [] => a
 | (s, v) :: r => putAll (a.put (some s) v) r
def maskF (slots : List Nat) (a : Act) : Act := putAll a (slots.map fun s => (s, undef))
theorem putAll_tmps : ∀ (l : List (Nat × Value)) (a : Act), (putAll a l).defers = a.defers ∧ (putAll a l).tmps.size = a.tmps.size ∧ ∀ j, (∀ x ∈ l, x.1 ≠ j) → (putAll a l).tmps[j]? = a.tmps[j]?
 | [], a => ⟨rfl, rfl, fun _ _ => rfl⟩
 | (s, v) :: r, a => by
  obtain ⟨h1, h2, h3⟩ := putAll_tmps r (a.put (some s) v)
  refine ⟨h1, by rw [putAll, h2]; simp [Act.put], fun j hj => ?_⟩
  rw [putAll, h3 j fun x hx => hj x (List.mem_cons_of_mem _ hx)]
  have : s ≠ j := hj _ List.mem_cons_self
  simp [Act.put, Array.getElem?_setIfInBounds_ne this]
theorem putAll_in (vs : Nat → Value) : ∀ (slots : List Nat) (a : Act) (j : Nat), j ∈ slots → j < a.tmps.size → (putAll a (slots.map fun s => (s, vs s))).tmps[j]? = some (vs j)
 | [], _, _, h, _ => by simp at h
 | s :: r, a, j, h, hl => by
  rw [List.map_cons, putAll]
  by_cases hr : j ∈ r
  ·exact putAll_in vs r _ j hr (by simpa [Act.put] using hl)
  ·have hs : s = j := by
    rcases List.mem_cons.1 h with e | e
    ·exact e.symm
    ·exact absurd e hr
   subst hs
   rw [(putAll_tmps _ _).2.2 s (by rintro x hx rfl; obtain ⟨y, hy, e⟩ := List.mem_map.1 hx; subst e; exact hr hy)]
   simp [Act.put, hl]
theorem unmask {slots : List Nat} {a a0 : Act} (h : maskF slots a = maskF slots a0) : a = putAll a0 (slots.map fun s => (s, a.tmps.getD s undef)) := by
 have hA := putAll_tmps (slots.map fun s => (s, undef)) a
 have h0 := putAll_tmps (slots.map fun s => (s, undef)) a0
 have hv := putAll_tmps (slots.map fun s => (s, a.tmps.getD s undef)) a0
 have hsz : a.tmps.size = a0.tmps.size := by
  have := congrArg (fun x => x.tmps.size) h
  simp only [maskF] at this
  rw [hA.2.1, h0.2.1] at this
  exact this
 have hdf : a.defers = a0.defers := by
  have := congrArg (fun x => x.defers) h
  simp only [maskF] at this
  rw [hA.1, h0.1] at this
  exact this
 have ht : a.tmps = (putAll a0 (slots.map fun s => (s, a.tmps.getD s undef))).tmps := by
  apply Array.ext_getElem?
  intro j
  by_cases hj : j ∈ slots
  ·by_cases hlt : j < a.tmps.size
   ·rw [putAll_in (fun s => a.tmps.getD s undef) slots a0 j hj (by omega)]
    simp [hlt]
   ·rw [Array.getElem?_eq_none (by omega), Array.getElem?_eq_none (by rw [hv.2.1]; omega)]
  ·have hne : ∀ (f : Nat → Value), ∀ x ∈ slots.map (fun s => (s, f s)), x.1 ≠ j := by
    rintro f x hx rfl
    obtain ⟨y, hy, e⟩ := List.mem_map.1 hx
    subst e
    exact hj hy
   rw [hv.2.2 j (hne _)]
   have := congrArg (fun x => x.tmps[j]?) h
   simp only [maskF] at this
   rw [hA.2.2 j (hne fun _ => undef), h0.2.2 j (hne fun _ => undef)] at this
   exact this
 have ext : ∀ x y : Act, x.tmps = y.tmps → x.defers = y.defers → x = y := by
  rintro ⟨_, _⟩ ⟨_, _⟩ h1 h2
  simp only at h1 h2
  rw [h1, h2]
 exact ext _ _ ht (hdf.trans hv.1.symm)
theorem wp_loop_F (slots : List Nat) (J : Nat → (Nat → Value) → World → Prop) {n0 : Nat} (h0 : J n0 (fun s => a.tmps.getD s undef) w)
  (round : ∀ n (vs : Nat → Value) w', J n vs w' → c.wp P (Exit.then (fun a' w'' => maskF slots a' = maskF slots a ∧ ∃ m, m < n ∧ J m (fun s => a'.tmps.getD s undef) w'') Q) (putAll a (slots.map fun s => (s, vs s))) w') : (Code.loop c).wp P Q a w := by
 refine wp_loop_J (fun n a' w' => maskF slots a' = maskF slots a ∧ J n (fun s => a'.tmps.getD s undef) w') (n0 := n0) ⟨rfl, h0⟩ fun n a' w' ⟨hm, hj⟩ => ?_
 have := round n _ w' hj
 rw [← unmask hm] at this
 exact wp_mono this fun e a'' w'' he => by
  cases e with
  | normal =>
   obtain ⟨h1, m, h2, h3⟩ := he
   exact ⟨m, h2, h1, h3⟩
  | _ => exact he
end
end Go.Proofs.YtjbihgfdgaiecaaGreat

/- Slices among the objects: of one's own, read, made, appended to. -/
namespace Go.Proofs.YtjbihgfdgaiecaaGreat
open Go Go.RowKit
theorem fillS_from : ∀ (l : List Value) (k : Nat) (arr : Array Value), k + l.length = arr.size → (l.zipIdx k).foldl (fun cs x => cs.setIfInBounds x.snd x.fst) arr = (arr.toList.take k ++ l).toArray
 | [], k, arr, h => by
  simp only [List.zipIdx_nil, List.foldl_nil, List.append_nil]
  apply Array.toList_inj.1
  simp only [List.length_nil, Nat.add_zero] at h
  rw [List.take_of_length_le (by simp; omega)]
 | x :: l, k, arr, h => by
  rw [List.length_cons] at h
  rw [List.zipIdx_cons, List.foldl_cons, fillS_from l (k + 1) _ (by simp; omega)]
  apply Array.toList_inj.1
  dsimp only
  rw [Array.toList_setIfInBounds]
  have hk : k < arr.toList.length := by simp; omega
  rw [List.take_add_one, List.getElem?_set_self hk, List.take_set_of_le (Nat.le_refl _)]
  simp
theorem fillS_all (l : List Value) (arr : Array Value) (h : l.length = arr.size) : l.zipIdx.foldl (fun cs x => cs.setIfInBounds x.snd x.fst) arr = l.toArray := by
 rw [fillS_from l 0 arr (by omega)]
 rfl
section
variable {P : Program} {α : Type} {E : Elem P α} {w W W' : World} {v v2 : Value} {xs l2 : List α} {H0 : Nat → Prop} {L rem : List At}
theorem runR_append (ty : TypeId) (hm : W.ownsRow 0 E.t E.k v xs.length (E.cells xs)) (hs : SrcE E W v2 l2) (hb : (xs.length + l2.length) * E.bytes ≤ 140737488355328) :
  ∃ v' w', (Builtin.append_ #[E.sl, E.sl] ty #[v, v2]).run P W = .ok v' w' ∧ w'.ownsRow 0 E.t E.k v' (xs ++ l2).length (E.cells (xs ++ l2)) ∧ W.grownBy w' v.ownBlock ∧ ∀ g, v'.ownBlock = some g → v.ownBlock = some g ∨ W.heap.size ≤ g := by
 obtain ⟨i0, hi, hz0, hz1, hz2⟩ := info_parts E.info
 obtain ⟨hl, p, cap, rfl, hlc, hpc⟩ := hs
 cases p with
 | none =>
  obtain rfl := hpc rfl
  obtain rfl : l2 = [] := List.eq_nil_of_length_eq_zero (by omega)
  refine ⟨v, W, run_append_owned_none (P := P) (w := W) 0 E.sl ty E.t i0 E.k E.under hi v xs.length (E.cells xs) hm, ?_, ⟨rfl, rfl, rfl, Nat.le_refl _, fun _ _ _ => rfl⟩, fun g h => .inl h⟩
  rw [List.append_nil]
  exact hm
 | some a =>
  have hnews : ∀ j u, (E.cells l2)[j]? = some u → W.cell? (a.add j) = some u := by
   intro j u hu
   rcases hl with ⟨rfl, _⟩ | ⟨b, o, cap', he, hlt, hc⟩
   ·simp [Elem.cells] at hu
   ·simp only [Value.slice.injEq, Option.some.injEq] at he
    obtain ⟨rfl, _, _⟩ := he
    rw [addr_off]
    obtain ⟨i, j', x, rfl, hx, hu'⟩ := E.cells_inv l2 j u hu
    rw [← Nat.add_assoc]
    exact hc i x hx j' u hu'
  have hbp := E.bpos
  have hle : xs.length + l2.length ≤ 140737488355328 := Nat.le_trans (Nat.le_mul_of_pos_right _ hbp) hb
  obtain ⟨v', w', hr, h2, h3, h4⟩ := run_append_where (P := P) W E.sl ty E.t i0 E.z E.k E.bytes E.under hi hz0 hz1 hz2 E.zs E.pos v xs.length (E.cells xs) hm a l2.length cap (E.cells l2) (E.cells_len l2) hnews (E.cells_one l2) (by unfold maxLen; omega) hb
  refine ⟨v', w', hr, ?_, h3, h4⟩
  rw [List.length_append, E.cells_append]
  exact h2
def rowT (E : Elem P α) (v : Value) (xs : List α) : At where
 p := fun W H => W.ownsRow 0 E.t E.k v xs.length (E.cells xs) ∧ ∀ k, H k ↔ v.ownBlock = some k
 owns := ⟨fun _ _ h k hk => (h.1.lt k ((h.2 k).1 hk)).2, fun _ _ _ h _ hk => ⟨row_keepsE h.1 fun g hg => hk g ((h.2 g).2 hg), h.2⟩⟩
def Reads (E : Elem P α) (A : At) (v : Value) (xs : List α) : Prop := ∀ W H, A.p W H → SrcE E W v xs
theorem rowT_reads : Reads E (rowT E v xs) v xs := fun _ _ h => ⟨rowAt_own h.1, ownsRow_formE h.1⟩
theorem Mem.src (h : Mem L H0 w W) (i : Nat) {A : At} (hi : L[i]? = some A) (hr : Reads E A v xs) : SrcE E W v xs := h.have i hi fun H h => hr W H h
theorem Mem.row (h : Mem L H0 w W) (i : Nat) {A : At} (hi : L[i]? = some A) (hr : ∀ W H, A.p W H → RowAt E W v xs) : RowAt E W v xs := h.have i hi fun H h => hr W H h
theorem Mem.nilRow (E : Elem P α) (h : Mem L H0 w W) : Mem (rowT E (.slice none 0 0) [] :: L) H0 w W := SEnd.mono h fun H h => ⟨fun _ => False, H, ⟨World.ownsRow_nil _ _ _ _, fun k => by simp [Value.ownBlock]⟩, h, fun _ h => h.elim, fun _ => ⟨.inr, fun h => h.elim (fun h => h.elim) id⟩⟩
theorem row_form (h : SrcE E W v xs) : ∃ p cap, v = .slice p xs.length cap := by obtain ⟨_, p, cap, h, _⟩ := h; exact ⟨p, cap, h⟩
theorem Mem.row1 {b : Nat} {x : α} {cs : Array Value} (hc : cs.toList = E.enc x) (h : Mem (boxT b (.cells cs E.t (0, 0)) :: L) H0 w W) : Mem (rowT E (.slice (some ⟨b, 0, none⟩) 1 1) [x] :: L) H0 w W := h.as fun H h => by
 have hl : cs.toList.length = E.k := by rw [hc, E.len]
 have hcells : E.cells [x] = E.enc x := by show E.enc x ++ [] = _; rw [List.append_nil]
 refine ⟨⟨by rw [E.cells_len], .inr ⟨b, 1, cs, rfl, Nat.zero_le _, h.1, Nat.le_refl _, by unfold maxLen; omega, by rw [Nat.one_mul, ← hl]; simp, ?_⟩⟩, fun k => ?_⟩
 ·rw [hcells, ← hc]
  exact List.take_of_length_le (by rw [hl]; simp)
 ·rw [h.2 k]
  simp [Value.ownBlock, eq_comm]
theorem run_build1 (E : Elem P α) {x : Value} (hx : x.cells.size = E.k) (hb : E.k ≤ 1000) (W : World) : (Instr.buildSlice E.sl 1 #[(0, x)]).run P W = .ok (.slice (some ⟨W.heap.size, 0, none⟩) 1 1) (W.alloc (.cells x.cells E.t (0, 0))) := by
 obtain ⟨i0, hi, hz0, hz1, hz2⟩ := info_parts E.info
 have hpos := E.pos
 have hu : (underlying E.sl).run P W = .ok (.slice E.t) W := by simp [underlying, E.under, go_sem]
 have hs : (sizeOf E.t).run P W = .ok E.k W := by simp [sizeOf, typeInfo, hi, hz1, go_sem]
 have hz : (zeroValue E.t).run P W = .ok E.z W := by simp [zeroValue, typeInfo, hi, hz0, go_sem]
 have hf : Instr.fill (fun i => some (i * E.k, E.k)) ((Array.range (1 * E.k)).map (E.z.cells[· % E.z.cells.size]!)) [(0, x)] = some x.cells := by
  have e : ∀ (cs z : Array Value), cs.size = z.size → cs.zipIdx.foldl (fun cs x => cs.setIfInBounds x.2 x.1) z = cs := by
   intro cs z h
   rw [← Array.foldl_toList, Array.toList_zipIdx, fillS_all _ _ (by simpa using h)]
  unfold Instr.fill
  simp only [Nat.zero_mul, Nat.zero_add]
  rw [if_neg (by simp [hx])]
  unfold Instr.fill
  congr 1
  exact e _ _ (by simp [hx])
 unfold Instr.buildSlice
 simp only [Sem.run_bind, hu, hs, Result.andThen_ok]
 rw [if_neg (by simp; omega), if_neg (by simp; omega)]
 simp only [Sem.run_bind, hz, Sem.run_pure, Result.andThen_ok, hf]
 simp [newRow, go_sem]
end
section
variable {P : Program} {ops : Array Oper} {S : Nat → Prop} {Q : Act → World → Prop} {a : Act} {W w : World} {H0 : Nat → Prop} {rest : List (Nat × Nat)} {i : Nat} {o : Oper} {L pre post rem : List At} {d : Option Tmp} {α : Type} {E : Elem P α}
theorem wpS_read {v : Value} (hi : ops[i]? = some o) (hw : Region.wanted o (yielded ops a.tmps) = true) (hrun : (execOp a.eval o).run P W = .ok (.value v) W) (hd : o.dst = d) (h : wpS P ops S Q rest (a.put d v) W) : wpS P ops S Q ((i, 1) :: rest) a W := by
 subst hd
 show opS P ops S i 1 (wpS P ops S Q rest) a W
 unfold opS
 rw [hi]
 dsimp only
 rw [if_pos (by omega)]
 exact ⟨v, .inl ⟨hw, fun x hx => .inl (by have e : x = W := hx; subst e; exact hrun)⟩, h⟩
theorem wpS_func {fn : Fn} {first cap : Array Operand} {v : Value} (hi : ops[i]? = some o) (hw : Region.wanted o (yielded ops a.tmps) = true) (ho : o.op = .makeFunc fn first cap) (hv : Value.func fn (first.map a.eval) (cap.map a.eval) = v) (hd : o.dst = d) (h : wpS P ops S Q rest (a.put d v) W) : wpS P ops S Q ((i, 0) :: rest) a W := by
 subst hd hv
 show opS P ops S i 0 (wpS P ops S Q rest) a W
 unfold opS
 rw [hi]
 dsimp only
 rw [if_pos (by omega)]
 refine ⟨_, .inl ⟨hw, fun x _ => .inl ?_⟩, h⟩
 unfold execOp
 simp only [ho, Instr.makeFunc, Sem.run_bind, Sem.run_pure, Result.andThen_ok]
theorem wpS_func1 {fn : Fn} {x : Operand} {v : Value} (hi : ops[i]? = some o) (hw : Region.wanted o (yielded ops a.tmps) = true) (ho : o.op = .makeFunc fn #[x] #[]) (hx : a.eval x = v) (hd : o.dst = d) (h : wpS P ops S Q rest (a.put d (.func fn #[v] #[])) W) : wpS P ops S Q ((i, 0) :: rest) a W := wpS_func hi hw ho (by simp [hx]) hd h
theorem run_callV {f : Nat} {x : Operand} {xs : Array Operand} {ts : Array TypeId} {first cap : Array Value} (ho : o.op = .call { callee := .value x, args := xs, argTypes := ts }) (hx : a.eval x = .func (.func f) first cap) (eg : ∀ args w, (callFunc f args).run P w = .ok (.enter f args) w) {args : Array Value} (hxs : first ++ xs.map a.eval ++ cap = args) : (execOp a.eval o).run P W = .ok (.enter f args) W := by
 subst hxs
 unfold execOp
 simp only [ho, resolve, hx, Deferred.ofValue, invoke, Sem.run_bind, Sem.run_pure, Result.andThen_ok, eg]
theorem wpS_doesV1 {f : Nat} {x x1 : Operand} {ts : Array TypeId} {first cap : Array Value} {args : Array Value} {v v1 : Value} {out : List At} (hi : ops[i]? = some o) (hw : Region.wanted o (yielded ops a.tmps) = true) (ho : o.op = .call { callee := .value x, args := #[x1], argTypes := ts }) (hx : a.eval x = .func (.func f) first cap) (eg : ∀ args w, (callFunc f args).run P w = .ok (.enter f args) w)
  (hc : Does P f args pre v post) (h1 : a.eval x1 = v1) (hargs : first ++ #[v1] ++ cap = args) (hm : Mem L H0 w W) (idx : List Nat) (hsel : selA L idx = (pre, rem)) (hS : CovS rem S) (hout : post ++ rem = out) (hd : o.dst = d) (h : ∀ W', Mem out H0 w W' → GK S W W' → wpS P ops S Q rest (a.put d v) W') : wpS P ops S Q ((i, 3) :: rest) a W :=
 wpS_enter hi hw (run_callV ho hx eg (by rw [← hargs]; simp [h1])) (R := fun u W' => u = v ∧ Mem (post ++ rem) H0 w W' ∧ GK S W W') ((hc.mem hm idx hsel hS).mono fun e W' ⟨he, h⟩ => ⟨v, he, rfl, h⟩) (fun _ _ h => h.2.2) hd fun u W' ⟨hu, h1, h2⟩ => by subst hu; exact h W' (hout ▸ h1) h2
theorem wpS_index {x ix : Operand} {p : Option Addr} {n cap j : Nat} {xs : List α} {y : α} (hi : ops[i]? = some o) (hw : Region.wanted o (yielded ops a.tmps) = true) (ho : o.op = .indexAddr E.sl x ix) (hx : a.eval x = .slice p n cap) (hix : a.eval ix = .int .i64 (j : Int)) (hr : RowAt E W (.slice p n cap) xs) (hy : xs[j]? = some y) (hd : o.dst = d)
  (h : ∀ b off, (∀ k u, (E.enc y)[k]? = some u → W.cell? ⟨b, off + k, none⟩ = some u) → wpS P ops S Q rest (a.put d (.pointer (some ⟨b, off, none⟩))) W) : wpS P ops S Q ((i, 1) :: rest) a W := by
 obtain ⟨i0, hin, hz0, hz1, hz2⟩ := info_parts E.info
 have hlt := (List.getElem?_eq_some_iff.1 hy).1
 rcases hr with ⟨rfl, _⟩ | ⟨b, off, cap', he, _, hc⟩
 ·simp at hlt
 ·simp only [Value.slice.injEq] at he
  obtain ⟨rfl, rfl, _⟩ := he
  refine wpS_read hi hw (v := .pointer (some ⟨b, off + j * E.k, none⟩)) ?_ hd (h _ _ fun k u hu => hc j y hy k u hu)
  have hu : (underlying E.sl).run P W = .ok (.slice E.t) W := by simp [underlying, E.under, go_sem]
  have hs : (sizeOf E.t).run P W = .ok E.k W := by simp [sizeOf, typeInfo, hin, hz1, go_sem]
  unfold execOp
  simp only [ho, hx, hix, Instr.indexAt, asIntOf, Sem.run_bind, Sem.run_pure, Result.andThen_ok, hu, hs]
  simp [hu, hs, hlt, addr_off, go_sem]
theorem run_loadFrom {b off : Nat} {W : World} : ∀ (n i : Nat) (cells : List Value) (acc : Array Value), (∀ k u, cells[k]? = some u → W.cell? ⟨b, off + k, none⟩ = some u) → i + n = cells.length → acc = (cells.take i).toArray → (loadCellsFrom ⟨b, off, none⟩ i n acc).run P W = .ok cells.toArray W
 | 0, i, cells, acc, _, hn, ha => by
  subst ha
  rw [Nat.add_zero] at hn
  subst hn
  simp [loadCellsFrom, go_sem]
 | n + 1, i, cells, acc, h, hn, ha => by
  have hlt : i < cells.length := by omega
  have hc := h i cells[i] (List.getElem?_eq_getElem hlt)
  have hl : (load (Addr.add ⟨b, off, none⟩ i)).run P W = .ok cells[i] W := by
   rw [addr_off]
   simp [load, Sem.run, hc]
  unfold loadCellsFrom
  rw [Sem.run_bind, hl, Result.andThen_ok]
  refine run_loadFrom n (i + 1) cells _ h (by omega) ?_
  subst ha
  rw [List.take_add_one, List.getElem?_eq_getElem hlt]
  simp
theorem wpS_loadA {t : TypeId} {x : Operand} {b off : Nat} {cells : List Value} {td : TypeDesc} (hi : ops[i]? = some o) (hw : Region.wanted o (yielded ops a.tmps) = true) (ho : o.op = .load t x) (hx : a.eval x = .pointer (some ⟨b, off, none⟩)) (hc : ∀ k u, cells[k]? = some u → W.cell? ⟨b, off + k, none⟩ = some u)
  (hu : P.underlying t = some td) (hd' : (match td with | .struct _ | .array _ _ => true | _ => false) = true) (hn : (P.info? t).map (·.size) = some cells.length) (hd : o.dst = d) (h : wpS P ops S Q rest (a.put d (.agg cells.toArray)) W) : wpS P ops S Q ((i, 1) :: rest) a W := by
 refine wpS_read hi hw ?_ hd h
 obtain ⟨ti, hti, hsz⟩ := Option.map_eq_some_iff.1 hn
 have h1 : (isAgg t).run P W = .ok true W := by
  have hu' : (underlying t).run P W = .ok td W := by simp [underlying, hu, go_sem]
  unfold isAgg
  rw [Sem.run_bind, hu', Result.andThen_ok]
  cases td <;> simp_all [go_sem]
 have h2 : (sizeOf t).run P W = .ok cells.length W := by simp [sizeOf, typeInfo, hti, hsz, go_sem]
 have h3 : (loadCells ⟨b, off, none⟩ cells.length).run P W = .ok cells.toArray W := run_loadFrom cells.length 0 cells #[] hc (by omega) (by simp)
 have h4 : (loadVar t ⟨b, off, none⟩).run P W = .ok (.agg cells.toArray) W := by
  unfold loadVar
  rw [Sem.run_bind, h1, Result.andThen_ok]
  simp only [if_true]
  rw [Sem.run_bind, h2, Result.andThen_ok, Sem.run_bind, h3, Result.andThen_ok]
  rfl
 unfold execOp
 simp only [ho, hx, Instr.loadAt, Instr.sureAddr, Sem.run_bind, Sem.run_pure, Result.andThen_ok, h4]
theorem wpS_load1 {t : TypeId} {x : Operand} {b off : Nat} {u : Value} {td : TypeDesc} (hi : ops[i]? = some o) (hw : Region.wanted o (yielded ops a.tmps) = true) (ho : o.op = .load t x) (hx : a.eval x = .pointer (some ⟨b, off, none⟩)) (hc : W.cell? ⟨b, off, none⟩ = some u)
  (hu : P.underlying t = some td) (hd' : (match td with | .struct _ | .array _ _ => true | _ => false) = false) (hd : o.dst = d) (h : wpS P ops S Q rest (a.put d u) W) : wpS P ops S Q ((i, 1) :: rest) a W := by
 refine wpS_read hi hw ?_ hd h
 have h1 : (isAgg t).run P W = .ok false W := by
  have hu' : (underlying t).run P W = .ok td W := by simp [underlying, hu, go_sem]
  unfold isAgg
  rw [Sem.run_bind, hu', Result.andThen_ok]
  cases td <;> simp_all [go_sem]
 have h4 : (loadVar t ⟨b, off, none⟩).run P W = .ok u W := by
  unfold loadVar
  rw [Sem.run_bind, h1, Result.andThen_ok]
  simp [load, Sem.run, hc]
 unfold execOp
 simp only [ho, hx, Instr.loadAt, Instr.sureAddr, Sem.run_bind, Sem.run_pure, Result.andThen_ok, h4]
theorem wpS_build1 (E : Elem P α) {x : Operand} {v : Value} {y : α} {dd : Tmp} (hi : ops[i]? = some o) (hw : Region.wanted o (yielded ops a.tmps) = true) (ho : o.op = .buildSlice E.sl 1 #[(0, x)]) (hx : a.eval x = v) (hv : v.cells.toList = E.enc y) (hb : E.k ≤ 1000) (hm : Mem L H0 w W) (hS : CovS L S) (hd : o.dst = some dd)
  (h : ∀ b W', Mem (rowT E (.slice (some ⟨b, 0, none⟩) 1 1) [y] :: L) H0 w W' → GK S W W' → wpS P ops S Q rest (a.put (some dd) (.slice (some ⟨b, 0, none⟩) 1 1)) W') : wpS P ops S Q ((i, 3) :: rest) a W := by
 have hs : v.cells.size = E.k := by rw [← E.len y, ← hv]; simp
 refine wpS_eff hi hw (R := fun u W' => u = .slice (some ⟨W.heap.size, 0, none⟩) 1 1 ∧ W' = W.alloc (.cells v.cells E.t (0, 0))) ⟨_, _, ?_, rfl, rfl⟩ (fun v W' ⟨_, e⟩ => by subst e; exact GK.of_below (ext_alloc (ext_refl W) _) (hS.lt hm)) hd fun u W' ⟨hu, hW⟩ => ?_
 ·unfold execOp
  simp only [ho, List.map_toArray, List.map_cons, List.map_nil, hx, Sem.run_bind, Sem.run_pure, Result.andThen_ok, run_build1 E hs hb]
 ·subst hu hW
  exact h _ _ (Mem.row1 hv (SEnd.box (stars_owns L) hm _)) (GK.of_below (ext_alloc (ext_refl W) _) (hS.lt hm))
theorem Mem.append {v v2 : Value} {xs l2 : List α} (ty : TypeId) (h : Mem L H0 w W) (k : Nat) (hk : L[k]? = some (rowT E v xs)) (hs : SrcE E W v2 l2) (hb : (xs.length + l2.length) * E.bytes ≤ 140737488355328) (hS : CovS (L.eraseIdx k) S) :
  ∃ v' w', (Builtin.append_ #[E.sl, E.sl] ty #[v, v2]).run P W = .ok v' w' ∧ Mem (rowT E v' (xs ++ l2) :: L.eraseIdx k) H0 w w' ∧ GK S W w' := by
 have h1 : SEnd (star (rowT E v xs).p (stars (L.eraseIdx k))) H0 w W := SEnd.mono h fun _ h => stars_pick L k _ hk h
 obtain ⟨H, hst, hf, hg⟩ := h1
 obtain ⟨H1, h1, _, h3⟩ := star_frame (stars_owns _) hst
 obtain ⟨v', w', hr, h2, h4, h5⟩ := runR_append ty h1.1 hs hb
 have hstep : SEnd (rowT E v' (xs ++ l2)).p H1 W w' := by
  refine ⟨fun k => v'.ownBlock = some k, ⟨h2, fun _ => Iff.rfl⟩, Fr.of_grownBy h4 fun j hj => .inl ((h1.2 j).2 hj), fun k hk => ?_⟩
  rcases h5 k hk with h | h
  ·exact .inl ((h1.2 k).2 h)
  ·exact .inr h
 refine ⟨v', w', hr, ?_, (h3 _ _ hstep).2 S (hS W)⟩
 exact SEnd.trans (P := fun W1 H' => W1 = W ∧ H' = H) ⟨H, ⟨rfl, rfl⟩, hf, hg⟩ fun H' ⟨_, e⟩ => by subst e; exact (h3 _ _ hstep).1
theorem wpS_append {x y : Operand} {v v2 : Value} {xs l2 : List α} {L2 : List At} (hi : ops[i]? = some o) (hw : Region.wanted o (yielded ops a.tmps) = true) (ho : o.op = .call { callee := .builtin .append, args := #[x, y], argTypes := #[E.sl, E.sl] }) (hm : Mem L H0 w W) (k : Nat) (hk : L[k]? = some (rowT E v xs)) (hx : a.eval x = v) (hs : SrcE E W v2 l2) (hy : a.eval y = v2) (hb : (xs.length + l2.length) * E.bytes ≤ 140737488355328) (hL2 : L.eraseIdx k = L2) (hS : CovS L2 S) (hd : o.dst = d)
  (h : ∀ v' W', Mem (rowT E v' (xs ++ l2) :: L2) H0 w W' → GK S W W' → wpS P ops S Q rest (a.put d v') W') : wpS P ops S Q ((i, 3) :: rest) a W := by
 subst hL2
 obtain ⟨v', w', hr, h1, h2⟩ := hm.append o.type k hk hs hb hS
 refine wpS_eff hi hw (R := fun v' W' => Mem (rowT E v' (xs ++ l2) :: L.eraseIdx k) H0 w W' ∧ GK S W W') ⟨v', w', ?_, h1, h2⟩ (fun _ _ h => h.2) hd fun v' W' hh => h v' W' hh.1 hh.2
 unfold execOp
 simp only [ho, resolve, invoke, builtin, Sem.run_bind, Sem.run_pure, Result.andThen_ok, List.map_toArray, List.map_cons, List.map_nil, hx, hy, hr]
end
section
variable {P : Program} {l : List Oper} {S : Nat → Prop} {Q : Act → World → Prop} {w : World} {a : Act} {rest plan : List (Nat × Nat)} {lo : List Oper}
theorem wS0 (idx : List Nat) (h : wpQuiet P l.toArray (fun _ => True) (fun a' => wpS P l.toArray S Q rest a' w) lo a) (hp : plan = idx.map (fun i => (i, 0)) ++ rest := by exact rfl) (hB : (idx.all fun i => ((l[i]?).map noEnter).getD false) = true := by kernel_rfl) (ho : pickL l idx = lo := by simp only [pickL, nthL, List.cons_append, List.nil_append]; rfl) : wpS P l.toArray S Q plan a w := wpS_all idx hp hB ho h
theorem wS1 (idx : List Nat) (h : wpQuiet P l.toArray (fun w' => w' = w) (fun a' => wpS P l.toArray S Q rest a' w) lo a) (hp : plan = idx.map (fun i => (i, 1)) ++ rest := by exact rfl) (hB : (idx.all fun i => ((l[i]?).map noEnter).getD false) = true := by kernel_rfl) (ho : pickL l idx = lo := by simp only [pickL, nthL, List.cons_append, List.nil_append]; rfl) : wpS P l.toArray S Q plan a w := wpS_this idx hp hB ho h
theorem wS2 (idx : List Nat) (h : wpQuiet P l.toArray (fun w' => ∃ x : KeepS S w, w' = x.w) (fun a' => wpS P l.toArray S Q rest a' w) lo a) (hp : plan = idx.map (fun i => (i, 2)) ++ rest := by exact rfl) (hB : (idx.all fun i => ((l[i]?).map noEnter).getD false) = true := by kernel_rfl) (ho : pickL l idx = lo := by simp only [pickL, nthL, List.cons_append, List.nil_append]; rfl) : wpS P l.toArray S Q plan a w := wpS_stay idx hp hB ho h
end
theorem pA {α : Type _} {l : List α} {i : Nat} {x : α} : l.toArray.setIfInBounds i x = (l.set i x).toArray := List.setIfInBounds_toArray l i x
theorem pB {α : Type _} {y : α} {l : List α} {n : Nat} {x : α} : (y :: l).set (n + 1) x = y :: l.set n x := List.set_cons_succ
theorem pC {α : Type _} {y : α} {l : List α} {x : α} : (y :: l).set 0 x = x :: l := List.set_cons_zero
end Go.Proofs.YtjbihgfdgaiecaaGreat

/- A cut behind a switch: what comes behind it is walked once. -/
namespace Go.Proofs.YtjbihgfdgaiecaaGreat
open Go Go.RowKit
section
variable {P : Program} {Q : Exit → Act → World → Prop} {c : Code} {a : Act} {w : World}
theorem wp_cut_F {K : Act → World → Prop} (slots : List Nat) (J : (Nat → Value) → World → Prop) (h1 : c.wp P (Exit.then (fun a' w' => maskF slots a' = maskF slots a ∧ J (fun s => a'.tmps.getD s undef) w') Q) a w)
  (h2 : ∀ vs w', J vs w' → Exit.then K Q .normal (putAll a (slots.map fun s => (s, vs s))) w') : c.wp P (Exit.then K Q) a w :=
 wp_mono h1 fun e a' w' he => by
  cases e with
  | normal =>
   obtain ⟨hm, hj⟩ := he
   have := h2 _ _ hj
   rw [← unmask hm] at this
   exact this
  | _ => exact he
end
end Go.Proofs.YtjbihgfdgaiecaaGreat

/- What is read out of blocks that stay, beside calls that may come up ahead or behind. -/
namespace Go.Proofs.YtjbihgfdgaiecaaGreat
open Go Go.RowKit
section
variable {P : Program} {ops : Array Oper} {S : Nat → Prop} {Q : Act → World → Prop} {rest : List (Nat × Nat)} {a : Act} {W : World} {i : Nat} {o : Oper} {d : Option Tmp}
theorem run_loadA {t : TypeId} {x : Operand} {b off : Nat} {cells : List Value} {td : TypeDesc} (ho : o.op = .load t x) (hx : a.eval x = .pointer (some ⟨b, off, none⟩)) (hc : ∀ k u, cells[k]? = some u → W.cell? ⟨b, off + k, none⟩ = some u)
  (hu : P.underlying t = some td) (hd' : (match td with | .struct _ | .array _ _ => true | _ => false) = true) (hn : (P.info? t).map (·.size) = some cells.length) : (execOp a.eval o).run P W = .ok (.value (.agg cells.toArray)) W := by
 obtain ⟨ti, hti, hsz⟩ := Option.map_eq_some_iff.1 hn
 have h1 : (isAgg t).run P W = .ok true W := by
  have hu' : (underlying t).run P W = .ok td W := by simp [underlying, hu, go_sem]
  unfold isAgg
  rw [Sem.run_bind, hu', Result.andThen_ok]
  cases td <;> simp_all [go_sem]
 have h2 : (sizeOf t).run P W = .ok cells.length W := by simp [sizeOf, typeInfo, hti, hsz, go_sem]
 have h3 : (loadCells ⟨b, off, none⟩ cells.length).run P W = .ok cells.toArray W := run_loadFrom cells.length 0 cells #[] hc (by omega) (by simp)
 have h4 : (loadVar t ⟨b, off, none⟩).run P W = .ok (.agg cells.toArray) W := by
  unfold loadVar
  rw [Sem.run_bind, h1, Result.andThen_ok]
  simp only [if_true]
  rw [Sem.run_bind, h2, Result.andThen_ok, Sem.run_bind, h3, Result.andThen_ok]
  rfl
 unfold execOp
 simp only [ho, hx, Instr.loadAt, Instr.sureAddr, Sem.run_bind, Sem.run_pure, Result.andThen_ok, h4]
theorem run_load1 {t : TypeId} {x : Operand} {b off : Nat} {u : Value} {td : TypeDesc} (ho : o.op = .load t x) (hx : a.eval x = .pointer (some ⟨b, off, none⟩)) (hc : W.cell? ⟨b, off, none⟩ = some u)
  (hu : P.underlying t = some td) (hd' : (match td with | .struct _ | .array _ _ => true | _ => false) = false) : (execOp a.eval o).run P W = .ok (.value u) W := by
 have h1 : (isAgg t).run P W = .ok false W := by
  have hu' : (underlying t).run P W = .ok td W := by simp [underlying, hu, go_sem]
  unfold isAgg
  rw [Sem.run_bind, hu', Result.andThen_ok]
  cases td <;> simp_all [go_sem]
 have h4 : (loadVar t ⟨b, off, none⟩).run P W = .ok u W := by
  unfold loadVar
  rw [Sem.run_bind, h1, Result.andThen_ok]
  simp [load, Sem.run, hc]
 unfold execOp
 simp only [ho, hx, Instr.loadAt, Instr.sureAddr, Sem.run_bind, Sem.run_pure, Result.andThen_ok, h4]
theorem wpS_read2 {v : Value} (hi : ops[i]? = some o) (hw : Region.wanted o (yielded ops a.tmps) = true) (hrun : ∀ x, GK S W x → (execOp a.eval o).run P x = .ok (.value v) x) (hd : o.dst = d) (h : wpS P ops S Q rest (a.put d v) W) : wpS P ops S Q ((i, 2) :: rest) a W := by
 subst hd
 show opS P ops S i 2 (wpS P ops S Q rest) a W
 unfold opS
 rw [hi]
 dsimp only
 rw [if_pos (by omega)]
 exact ⟨v, .inl ⟨hw, fun x hx => .inl (hrun x hx)⟩, h⟩
theorem GK.cell {x : World} (h : GK S W x) {b off : Nat} (hb : S b) : x.cell? ⟨b, off, none⟩ = W.cell? ⟨b, off, none⟩ := by
 obtain ⟨y, rfl⟩ := h
 exact y.cell _ hb
theorem wpS_loadA2 {t : TypeId} {x : Operand} {b off : Nat} {cells : List Value} {td : TypeDesc} (hi : ops[i]? = some o) (hw : Region.wanted o (yielded ops a.tmps) = true) (ho : o.op = .load t x) (hx : a.eval x = .pointer (some ⟨b, off, none⟩)) (hb : S b) (hc : ∀ k u, cells[k]? = some u → W.cell? ⟨b, off + k, none⟩ = some u)
  (hu : P.underlying t = some td) (hd' : (match td with | .struct _ | .array _ _ => true | _ => false) = true) (hn : (P.info? t).map (·.size) = some cells.length) (hd : o.dst = d) (h : wpS P ops S Q rest (a.put d (.agg cells.toArray)) W) : wpS P ops S Q ((i, 2) :: rest) a W :=
 wpS_read2 hi hw (fun y hy => run_loadA ho hx (fun k u hk => (hy.cell hb).trans (hc k u hk)) hu hd' hn) hd h
theorem wpS_load12 {t : TypeId} {x : Operand} {b off : Nat} {u : Value} {td : TypeDesc} (hi : ops[i]? = some o) (hw : Region.wanted o (yielded ops a.tmps) = true) (ho : o.op = .load t x) (hx : a.eval x = .pointer (some ⟨b, off, none⟩)) (hb : S b) (hc : W.cell? ⟨b, off, none⟩ = some u)
  (hu : P.underlying t = some td) (hd' : (match td with | .struct _ | .array _ _ => true | _ => false) = false) (hd : o.dst = d) (h : wpS P ops S Q rest (a.put d u) W) : wpS P ops S Q ((i, 2) :: rest) a W :=
 wpS_read2 hi hw (fun y hy => run_load1 ho hx ((hy.cell hb).trans hc) hu hd') hd h
end
end Go.Proofs.YtjbihgfdgaiecaaGreat
