/- Memory as a list of objects side by side; what each operation, and each call, makes of it. -/
import Derived.Test.YtnahhbpaijfpbaaSx
namespace Go.Proofs.Ytnahhbpaijfpbaa
open Go Go.RowKit

/-- An object, and that it stays where its blocks do. -/
structure At where
  p : Asn
  owns : Owns p
def stars : List At → Asn
  | [] => emp
  | A :: l => star A.p (stars l)
theorem stars_owns : ∀ l, Owns (stars l)
  | [] => emp_owns
  | A :: l => star_owns A.owns (stars_owns l)
def boxT (b : Nat) (o : Obj) : At := ⟨BoxA b o, box_owns b o⟩
def prT (p : Prop) : At := ⟨pureA p emp, pureA_owns emp_owns⟩
def exT {α : Type} (f : α → List At) : At := ⟨exA fun x => stars (f x), exA_owns fun _ => stars_owns _⟩
/-- The objects l lie in W; from w on nothing else has turned but H0. -/
def Mem (l : List At) (H0 : Nat → Prop) (w W : World) : Prop := SEnd (stars l) H0 w W
def selA (l : List At) : List Nat → List At × List At
  | [] => ([], l)
  | i :: r =>
    match l[i]? with
    | none => ([], l)
    | some A => (A :: (selA (l.eraseIdx i) r).1, (selA (l.eraseIdx i) r).2)
section
variable {W W' w : World} {H H0 : Nat → Prop} {L L' M pre post rem : List At} {S : Nat → Prop}
theorem starl_emp {Q : Asn} (h : Q W H) : star emp Q W H := ⟨fun _ => False, H, fun _ h => h, h, fun _ h => h.elim, fun _ => ⟨.inr, fun h => h.elim (fun h => h.elim) id⟩⟩
theorem starl_emp' {Q : Asn} (h : star emp Q W H) : Q W H := emp_right (star_comm h)
theorem stars_pick : ∀ (l : List At) (i : Nat) (A : At) {W : World} {H : Nat → Prop}, l[i]? = some A → stars l W H → star A.p (stars (l.eraseIdx i)) W H
  | [], i, A, _, _, hi, _ => by simp at hi
  | B :: l, 0, A, _, _, hi, h => by
    simp only [List.getElem?_cons_zero, Option.some.injEq] at hi
    subst hi
    exact h
  | B :: l, i + 1, A, _, _, hi, h => by
    simp only [List.getElem?_cons_succ] at hi
    exact star_swap (star_mono (fun _ h => h) (fun _ h => stars_pick l i A hi h) h)
theorem stars_sel : ∀ (idx : List Nat) (l : List At) {W : World} {H : Nat → Prop}, stars l W H → star (stars (selA l idx).1) (stars (selA l idx).2) W H
  | [], l, _, _, h => starl_emp h
  | i :: r, l, _, _, h => by
    unfold selA
    split
    · exact starl_emp h
    · rename_i A hA
      exact star_assoc' (star_mono (fun _ h => h) (fun _ h => stars_sel r _ h) (stars_pick l i A hA h))
theorem stars_append : ∀ {l m : List At} {W : World} {H : Nat → Prop}, star (stars l) (stars m) W H → stars (l ++ m) W H
  | [], _, _, _, h => starl_emp' h
  | _ :: _, _, _, _, h => star_mono (fun _ h => h) (fun _ h => stars_append h) (star_assoc h)
theorem stars_split : ∀ {l m : List At} {W : World} {H : Nat → Prop}, stars (l ++ m) W H → star (stars l) (stars m) W H
  | [], _, _, _, h => starl_emp h
  | _ :: _, _, _, _, h => star_assoc' (star_mono (fun _ h => h) (fun _ h => stars_split h) h)

theorem mem_refl (h : stars L W H) : Mem L H W W := sEnd_refl h
theorem Mem.size (h : Mem L H0 w W) : w.heap.size ≤ W.heap.size := SEnd.size h
theorem Mem.below (h : Mem L H0 w W) (hb : Below W.heap.size W W') : Mem L H0 w W' := SEnd.below (stars_owns L) h hb
theorem Mem.drew (h : Mem L H0 w W) : Mem L H0 w W.drew := h.below (ext_drew (ext_refl W))
theorem Mem.later (h : Mem L H0 w W) (x : Later W) : Mem L H0 w x.w := SEnd.later (stars_owns L) h x
/-- Some of the objects, in this order. -/
theorem Mem.only (h : Mem L H0 w W) (idx : List Nat) (hs : (selA L idx).1 = M) : Mem M H0 w W := by
  subst hs
  exact (SEnd.mono h fun _ h => star_comm (stars_sel idx L h)).drop
/-- All of them, in another order. -/
theorem Mem.perm (h : Mem L H0 w W) (idx : List Nat) (hs : selA L idx = (M, [])) : Mem M H0 w W := by
  have := h.only idx (M := M) (by rw [hs])
  exact this
theorem Mem.sel (h : Mem L H0 w W) (idx : List Nat) (hs : selA L idx = (pre, rem)) : SEnd (star (stars pre) (stars rem)) H0 w W := by
  have h1 := SEnd.mono h fun _ h => stars_sel idx L h
  rw [hs] at h1
  exact h1
theorem Mem.front (h : Mem L H0 w W) (idx : List Nat) (hs : selA L idx = (pre, rem)) : Mem (pre ++ rem) H0 w W := SEnd.mono (h.sel idx hs) fun _ h => stars_append h
theorem Mem.pr {p : Prop} (h : Mem (prT p :: L) H0 w W) : p ∧ Mem L H0 w W := by
  obtain ⟨H', ⟨H1, H2, ⟨hp, h1⟩, h2, ha, he⟩, hf, hg⟩ := h
  refine ⟨hp, H2, h2, hf, fun k hk => hg k ((he k).2 (.inr hk))⟩
theorem Mem.addPr {p : Prop} (hp : p) (h : Mem L H0 w W) : Mem (prT p :: L) H0 w W := SEnd.mono h fun H h => ⟨fun _ => False, H, ⟨hp, fun _ h => h⟩, h, fun _ h => h.elim, fun _ => ⟨.inr, fun h => h.elim (fun h => h.elim) id⟩⟩
theorem Mem.ex {α : Type} {f : α → List At} (h : Mem (exT f :: L) H0 w W) : ∃ x, Mem (f x ++ L) H0 w W := by
  obtain ⟨H', ⟨H1, H2, ⟨x, h1⟩, h2, ha, he⟩, hf, hg⟩ := h
  exact ⟨x, H', stars_append ⟨H1, H2, h1, h2, ha, he⟩, hf, hg⟩
theorem Mem.addEx {α : Type} {f : α → List At} (x : α) (h : Mem (f x ++ L) H0 w W) : Mem (exT f :: L) H0 w W := SEnd.mono h fun _ h => star_mono (fun _ h => ⟨x, h⟩) (fun _ h => h) (stars_split h)
/-- What an object says of memory. -/
theorem Mem.have {p : Prop} (h : Mem L H0 w W) (i : Nat) {A : At} (hi : L[i]? = some A) (hp : ∀ H, A.p W H → p) : p := by
  obtain ⟨H, hs, _⟩ := h
  obtain ⟨H1, _, h1, _⟩ := stars_pick L i A hi hs
  exact hp H1 h1
theorem Mem.box {b : Nat} {o : Obj} (h : Mem L H0 w W) (i : Nat) (hi : L[i]? = some (boxT b o)) : W.heap[b]? = some o := h.have i hi fun _ h => h.1
/-- The cells of a block, as a walk reads them. -/
theorem Mem.cell {b : Nat} {cs : Array Value} {t : TypeId} (h : Mem L H0 w W) (i : Nat) (hi : L[i]? = some (boxT b (.cells cs t (0, 0)))) : ∀ j, W.cell? ⟨b, j, none⟩ = cs[j]? := fun j => by
  have := h.box i hi
  simp [World.cell?, this]
theorem Mem.cellL {b : Nat} {cs : List Value} {t : TypeId} (h : Mem L H0 w W) (i : Nat) (hi : L[i]? = some (boxT b (.cells cs.toArray t (0, 0)))) : ∀ j, W.cell? ⟨b, j, none⟩ = cs[j]? := fun j => by
  have := h.box i hi
  simp [World.cell?, this]
theorem Mem.cells0 {b : Nat} {cs : List Value} {t : TypeId} (h : Mem L H0 w W) (i : Nat) (hi : L[i]? = some (boxT b (.cells cs.toArray t (0, 0)))) : ∀ k u, cs[k]? = some u → W.cell? ⟨b, 0 + k, none⟩ = some u := fun k u hu => by
  rw [Nat.zero_add, h.cellL i hi k, hu]
/-- An object is replaced by what it is besides. -/
theorem Mem.as {A B : At} (h : Mem (A :: L) H0 w W) (hp : ∀ H, A.p W H → B.p W H) : Mem (B :: L) H0 w W := SEnd.mono h fun _ h => star_mono hp (fun _ h => h) h

/-- The blocks that objects cover. -/
def CovS (L : List At) (S : Nat → Prop) : Prop := ∀ W H, stars L W H → ∀ k, S k → H k
theorem covS_nil : CovS L fun k => k ∈ ([] : List Nat) := fun _ _ _ k hk => by simp at hk
theorem covS_of (i : Nat) {A : At} (hi : L[i]? = some A) {b : Nat} (hb : ∀ W H, A.p W H → H b) {bs : List Nat} (h : CovS L fun k => k ∈ bs) : CovS L fun k => k ∈ b :: bs := fun W H hs k hk => by
  rcases List.mem_cons.1 hk with rfl | hk
  · obtain ⟨H1, _, h1, _, _, he⟩ := stars_pick L i A hi hs
    exact (he k).2 (.inl (hb W H1 h1))
  · exact h W H hs k hk
theorem covS_box (i : Nat) {b : Nat} {o : Obj} (hi : L[i]? = some (boxT b o)) {bs : List Nat} (h : CovS L fun k => k ∈ bs) : CovS L fun k => k ∈ b :: bs := covS_of i hi (fun _ _H h => (h.2 b).2 rfl) h
theorem CovS.lt (h : CovS L S) (hm : Mem L H0 w W) : ∀ k, S k → k < W.heap.size := fun k hk => by
  obtain ⟨H, hs, _⟩ := hm
  exact (stars_owns L).lt W H hs k (h W H hs k hk)

/-- What a call owes: its answer v, and the objects post in place of pre. -/
def Does (pr : Program) (f : FuncId) (args : Array Value) (pre : List At) (v : Value) (post : List At) : Prop := ∀ W H, stars pre W H → Calls pr f args W fun e W' => e = .returned v ∧ SEnd (stars post) H W W'
def DoesU (pr : Program) (f : FuncId) (args : Array Value) (pre : List At) (post : Value → List At) : Prop := ∀ W H, stars pre W H → Calls pr f args W fun e W' => ∃ u, e = .returned u ∧ SEnd (stars (post u)) H W W'
variable {pr : Program} {f : FuncId} {args : Array Value} {v : Value}
theorem Does.of_gives (h : ∀ W H, stars pre W H → Gives pr f args W v) : Does pr f args pre v pre := fun W H hs => (h W H hs).mono fun e W' ⟨he, x, hx⟩ => ⟨he, by subst hx; exact SEnd.later (stars_owns pre) (sEnd_refl hs) x⟩
theorem Does.of_any (h : ∀ W, Gives pr f args W v) : Does pr f args [] v [] := .of_gives fun W _ _ => h W
theorem Does.of_trip {A B : At} (h : Trip pr f args A.p fun u => pureA (u = v) B.p) : Does pr f args [A] v [B] := fun W H hs => (h W H (emp_right hs)).mono fun e W' ⟨u, he, hr⟩ => by
  have hr' : SEnd (pureA (u = v) B.p) H W W' := hr
  obtain ⟨hu, hr2⟩ := SEnd.pure hr'
  subst hu
  exact ⟨he, SEnd.mono hr2 fun H h => star_comm (starl_emp (Q := B.p) h)⟩
theorem DoesU.of_trip {A : At} {p : Value → Asn} (h : Trip pr f args A.p p) {q : Value → List At} (hq : ∀ u W H, p u W H → stars (q u) W H) : DoesU pr f args [A] q := fun W H hs => (h W H (emp_right hs)).mono fun _e W' ⟨u, he, hr⟩ => ⟨u, he, hr.mono fun H h => hq u W' H h⟩
theorem Does.to_u (h : Does pr f args pre v post) : DoesU pr f args pre fun u => prT (u = v) :: post := fun W H hs => (h W H hs).mono fun _e _W' ⟨he, hr⟩ => ⟨v, he, Mem.addPr rfl hr⟩
/-- A call, beside other objects. -/
theorem Does.mem (hc : Does pr f args pre v post) (h : Mem L H0 w W) (idx : List Nat) (hsel : selA L idx = (pre, rem)) (hS : CovS rem S) : Calls pr f args W fun e W' => e = .returned v ∧ Mem (post ++ rem) H0 w W' ∧ GK S W W' := by
  have hs := h.sel idx hsel
  have ht : Trip pr f args (stars pre) fun u => pureA (u = v) (stars post) := fun W H hs => (hc W H hs).mono fun e W' ⟨he, hr⟩ => ⟨v, he, hr.mono fun _ h => ⟨rfl, h⟩⟩
  refine (SEnd.call hs (stars_owns rem) ht S (hS W)).mono fun e W' ⟨u, he, h1, h2⟩ => ?_
  obtain ⟨H, ⟨H1, H2, ⟨hu, k1⟩, k2, k3, k4⟩, hf, hg⟩ := h1
  subst hu
  exact ⟨he, ⟨H, stars_append ⟨H1, H2, k1, k2, k3, k4⟩, hf, hg⟩, h2⟩
theorem DoesU.mem {post : Value → List At} (hc : DoesU pr f args pre post) (h : Mem L H0 w W) (idx : List Nat) (hsel : selA L idx = (pre, rem)) (hS : CovS rem S) : Calls pr f args W fun e W' => ∃ u, e = .returned u ∧ Mem (post u ++ rem) H0 w W' ∧ GK S W W' := by
  have hs := h.sel idx hsel
  exact (SEnd.call hs (stars_owns rem) (R := fun u => stars (post u)) hc S (hS W)).mono fun e W' ⟨u, he, h1, h2⟩ => ⟨u, he, h1.mono fun _ h => stars_append h, h2⟩
end

section
variable {P : Program} {ops : Array Oper} {S : Nat → Prop} {Q : Act → World → Prop} {a : Act} {W w : World} {H0 : Nat → Prop} {rest : List (Nat × Nat)} {i : Nat} {o : Oper} {L pre post rem : List At} {d : Option Tmp}
theorem wpS_eff (hi : ops[i]? = some o) (hw : Region.wanted o (yielded ops a.tmps) = true) {R : Value → World → Prop} (hrun : ∃ v W', (execOp a.eval o).run P W = .ok (.value v) W' ∧ R v W') (hG : ∀ v W', R v W' → GK S W W') (hd : o.dst = d)
    (h : ∀ v W', R v W' → wpS P ops S Q rest (a.put d v) W') : wpS P ops S Q ((i, 3) :: rest) a W := by
  subst hd
  show opS P ops S i 3 (wpS P ops S Q rest) a W
  unfold opS
  rw [hi]
  dsimp only
  rw [if_neg (by omega), if_pos rfl]
  unfold opG
  simp only [hi, hw, if_true]
  obtain ⟨v, W', hrun, hR⟩ := hrun
  rw [hrun]
  exact ⟨hG v W' hR, h v W' hR⟩
theorem wpS_unit (hi : ops[i]? = some o) (hw : Region.wanted o (yielded ops a.tmps) = true) {W' : World} (hrun : (execOp a.eval o).run P W = .ok .skip W') (hG : GK S W W') (hd : o.dst = none)
    (h : wpS P ops S Q rest a W') : wpS P ops S Q ((i, 3) :: rest) a W := by
  show opS P ops S i 3 (wpS P ops S Q rest) a W
  unfold opS
  rw [hi]
  dsimp only
  rw [if_neg (by omega), if_pos rfl]
  unfold opG
  simp only [hi, hw, if_true]
  rw [hrun]
  refine ⟨hG, ?_⟩
  rw [hd]
  exact h
theorem wpS_unit4 (hi : ops[i]? = some o) (hw : Region.wanted o (yielded ops a.tmps) = true) {W' : World} (hrun : (execOp a.eval o).run P W = .ok .skip W') (hd : o.dst = none)
    (h : wpS P ops S Q rest a W') : wpS P ops S Q ((i, 4) :: rest) a W := by
  show opS P ops S i 4 (wpS P ops S Q rest) a W
  unfold opS
  rw [hi]
  dsimp only
  rw [if_neg (by omega), if_neg (by omega)]
  unfold opG
  simp only [hi, hw, if_true]
  rw [hrun]
  refine ⟨trivial, ?_⟩
  rw [hd]
  exact h
/-- An operation whose guard does not hold. -/
theorem wpS_skip (hi : ops[i]? = some o) (hw : Region.wanted o (yielded ops a.tmps) = false) {k : Nat} (hd : o.dst = d) (h : wpS P ops S Q rest (a.put d undef) W) : wpS P ops S Q ((i, k) :: rest) a W := by
  subst hd
  show opS P ops S i k (wpS P ops S Q rest) a W
  unfold opS
  rw [hi]
  dsimp only
  split
  · exact ⟨undef, .inr ⟨hw, rfl⟩, h⟩
  · split
    · unfold opG
      simp only [hi, hw]
      exact h
    · unfold opG
      simp only [hi, hw]
      exact h
theorem wpS_enter (hi : ops[i]? = some o) (hw : Region.wanted o (yielded ops a.tmps) = true) {f : FuncId} {args : Array Value} (hrun : (execOp a.eval o).run P W = .ok (.enter f args) W) {R : Value → World → Prop} (hc : Calls P f args W fun e w' => ∃ v, e = .returned v ∧ R v w') (hG : ∀ v W', R v W' → GK S W W') (hd : o.dst = d)
    (h : ∀ v W', R v W' → wpS P ops S Q rest (a.put d v) W') : wpS P ops S Q ((i, 3) :: rest) a W := by
  subst hd
  show opS P ops S i 3 (wpS P ops S Q rest) a W
  unfold opS
  rw [hi]
  dsimp only
  rw [if_neg (by omega), if_pos rfl]
  unfold opG
  simp only [hi, hw, if_true]
  rw [hrun]
  exact Calls.mono hc fun e w'' ⟨v, he, hv⟩ => ⟨v, he, hG v w'' hv, h v w'' hv⟩
/-- A call of a function by its name runs it. -/
theorem run_call {f : Nat} {xs : Array Operand} {ts : Array TypeId} (ho : o.op = .call { callee := .value (.func f), args := xs, argTypes := ts }) (eg : ∀ args w, (callFunc f args).run P w = .ok (.enter f args) w) {args : Array Value} (hx : xs.map a.eval = args) : (execOp a.eval o).run P W = .ok (.enter f args) W := by
  simp [execOp, ho, resolve, invoke, Act.eval, Deferred.ofValue, eg, hx, go_sem]
  done
theorem wpS_does {f : Nat} {xs : Array Operand} {ts : Array TypeId} (hi : ops[i]? = some o) (hw : Region.wanted o (yielded ops a.tmps) = true) (ho : o.op = .call { callee := .value (.func f), args := xs, argTypes := ts }) (eg : ∀ args w, (callFunc f args).run P w = .ok (.enter f args) w) {args : Array Value} {v : Value}
    (hc : Does P f args pre v post) (hx : xs.map a.eval = args) (hm : Mem L H0 w W) (idx : List Nat) (hsel : selA L idx = (pre, rem)) (hS : CovS rem S) (hd : o.dst = d) (h : ∀ W', Mem (post ++ rem) H0 w W' → GK S W W' → wpS P ops S Q rest (a.put d v) W') : wpS P ops S Q ((i, 3) :: rest) a W :=
  wpS_enter hi hw (run_call ho eg hx) (R := fun u W' => u = v ∧ Mem (post ++ rem) H0 w W' ∧ GK S W W') ((hc.mem hm idx hsel hS).mono fun e W' ⟨he, h⟩ => ⟨v, he, rfl, h⟩) (fun _ _ h => h.2.2) hd fun u W' ⟨hu, h1, h2⟩ => by subst hu; exact h W' h1 h2
theorem wpS_doesU {f : Nat} {xs : Array Operand} {ts : Array TypeId} {post : Value → List At} (hi : ops[i]? = some o) (hw : Region.wanted o (yielded ops a.tmps) = true) (ho : o.op = .call { callee := .value (.func f), args := xs, argTypes := ts }) (eg : ∀ args w, (callFunc f args).run P w = .ok (.enter f args) w) {args : Array Value}
    (hc : DoesU P f args pre post) (hx : xs.map a.eval = args) (hm : Mem L H0 w W) (idx : List Nat) (hsel : selA L idx = (pre, rem)) (hS : CovS rem S) (hd : o.dst = d) (h : ∀ u W', Mem (post u ++ rem) H0 w W' → GK S W W' → wpS P ops S Q rest (a.put d u) W') : wpS P ops S Q ((i, 3) :: rest) a W :=
  wpS_enter hi hw (run_call ho eg hx) (R := fun u W' => Mem (post u ++ rem) H0 w W' ∧ GK S W W') (hc.mem hm idx hsel hS) (fun _ _ h => h.2) hd fun u W' h1 => h u W' h1.1 h1.2
theorem wpS_does0 {f : Nat} {ts : Array TypeId} {v : Value} {out : List At} (hi : ops[i]? = some o) (hw : Region.wanted o (yielded ops a.tmps) = true) (ho : o.op = .call { callee := .value (.func f), args := #[], argTypes := ts }) (eg : ∀ args w, (callFunc f args).run P w = .ok (.enter f args) w)
    (hc : Does P f #[] pre v post)  (hm : Mem L H0 w W) (idx : List Nat) (hsel : selA L idx = (pre, rem)) (hS : CovS rem S) (hout : post ++ rem = out) (hd : o.dst = d) (h : ∀ W', Mem out H0 w W' → GK S W W' → wpS P ops S Q rest (a.put d v) W') : wpS P ops S Q ((i, 3) :: rest) a W :=
  wpS_does hi hw ho eg hc (by simp []) hm idx hsel hS hd fun W' h1 h2 => h W' (hout ▸ h1) h2
theorem wpS_doesU0 {f : Nat} {ts : Array TypeId} {post : Value → List At} {out : Value → List At} (hi : ops[i]? = some o) (hw : Region.wanted o (yielded ops a.tmps) = true) (ho : o.op = .call { callee := .value (.func f), args := #[], argTypes := ts }) (eg : ∀ args w, (callFunc f args).run P w = .ok (.enter f args) w)
    (hc : DoesU P f #[] pre post)  (hm : Mem L H0 w W) (idx : List Nat) (hsel : selA L idx = (pre, rem)) (hS : CovS rem S) (hout : ∀ u, post u ++ rem = out u) (hd : o.dst = d) (h : ∀ u W', Mem (out u) H0 w W' → GK S W W' → wpS P ops S Q rest (a.put d u) W') : wpS P ops S Q ((i, 3) :: rest) a W :=
  wpS_doesU hi hw ho eg hc (by simp []) hm idx hsel hS hd fun u W' h1 h2 => h u W' (hout u ▸ h1) h2
theorem wpS_does1 {f : Nat} {x0 : Operand} {v0 : Value} {ts : Array TypeId} {v : Value} {out : List At} (hi : ops[i]? = some o) (hw : Region.wanted o (yielded ops a.tmps) = true) (ho : o.op = .call { callee := .value (.func f), args := #[x0], argTypes := ts }) (eg : ∀ args w, (callFunc f args).run P w = .ok (.enter f args) w)
    (hc : Does P f #[v0] pre v post) (h0 : a.eval x0 = v0) (hm : Mem L H0 w W) (idx : List Nat) (hsel : selA L idx = (pre, rem)) (hS : CovS rem S) (hout : post ++ rem = out) (hd : o.dst = d) (h : ∀ W', Mem out H0 w W' → GK S W W' → wpS P ops S Q rest (a.put d v) W') : wpS P ops S Q ((i, 3) :: rest) a W :=
  wpS_does hi hw ho eg hc (by simp [h0]) hm idx hsel hS hd fun W' h1 h2 => h W' (hout ▸ h1) h2
theorem wpS_doesU1 {f : Nat} {x0 : Operand} {v0 : Value} {ts : Array TypeId} {post : Value → List At} {out : Value → List At} (hi : ops[i]? = some o) (hw : Region.wanted o (yielded ops a.tmps) = true) (ho : o.op = .call { callee := .value (.func f), args := #[x0], argTypes := ts }) (eg : ∀ args w, (callFunc f args).run P w = .ok (.enter f args) w)
    (hc : DoesU P f #[v0] pre post) (h0 : a.eval x0 = v0) (hm : Mem L H0 w W) (idx : List Nat) (hsel : selA L idx = (pre, rem)) (hS : CovS rem S) (hout : ∀ u, post u ++ rem = out u) (hd : o.dst = d) (h : ∀ u W', Mem (out u) H0 w W' → GK S W W' → wpS P ops S Q rest (a.put d u) W') : wpS P ops S Q ((i, 3) :: rest) a W :=
  wpS_doesU hi hw ho eg hc (by simp [h0]) hm idx hsel hS hd fun u W' h1 h2 => h u W' (hout u ▸ h1) h2
theorem wpS_does2 {f : Nat} {x0 x1 : Operand} {v0 v1 : Value} {ts : Array TypeId} {v : Value} {out : List At} (hi : ops[i]? = some o) (hw : Region.wanted o (yielded ops a.tmps) = true) (ho : o.op = .call { callee := .value (.func f), args := #[x0, x1], argTypes := ts }) (eg : ∀ args w, (callFunc f args).run P w = .ok (.enter f args) w)
    (hc : Does P f #[v0, v1] pre v post) (h0 : a.eval x0 = v0) (h1 : a.eval x1 = v1) (hm : Mem L H0 w W) (idx : List Nat) (hsel : selA L idx = (pre, rem)) (hS : CovS rem S) (hout : post ++ rem = out) (hd : o.dst = d) (h : ∀ W', Mem out H0 w W' → GK S W W' → wpS P ops S Q rest (a.put d v) W') : wpS P ops S Q ((i, 3) :: rest) a W :=
  wpS_does hi hw ho eg hc (by simp [h0, h1]) hm idx hsel hS hd fun W' h1 h2 => h W' (hout ▸ h1) h2
theorem wpS_doesU2 {f : Nat} {x0 x1 : Operand} {v0 v1 : Value} {ts : Array TypeId} {post : Value → List At} {out : Value → List At} (hi : ops[i]? = some o) (hw : Region.wanted o (yielded ops a.tmps) = true) (ho : o.op = .call { callee := .value (.func f), args := #[x0, x1], argTypes := ts }) (eg : ∀ args w, (callFunc f args).run P w = .ok (.enter f args) w)
    (hc : DoesU P f #[v0, v1] pre post) (h0 : a.eval x0 = v0) (h1 : a.eval x1 = v1) (hm : Mem L H0 w W) (idx : List Nat) (hsel : selA L idx = (pre, rem)) (hS : CovS rem S) (hout : ∀ u, post u ++ rem = out u) (hd : o.dst = d) (h : ∀ u W', Mem (out u) H0 w W' → GK S W W' → wpS P ops S Q rest (a.put d u) W') : wpS P ops S Q ((i, 3) :: rest) a W :=
  wpS_doesU hi hw ho eg hc (by simp [h0, h1]) hm idx hsel hS hd fun u W' h1 h2 => h u W' (hout u ▸ h1) h2
theorem wpS_does3 {f : Nat} {x0 x1 x2 : Operand} {v0 v1 v2 : Value} {ts : Array TypeId} {v : Value} {out : List At} (hi : ops[i]? = some o) (hw : Region.wanted o (yielded ops a.tmps) = true) (ho : o.op = .call { callee := .value (.func f), args := #[x0, x1, x2], argTypes := ts }) (eg : ∀ args w, (callFunc f args).run P w = .ok (.enter f args) w)
    (hc : Does P f #[v0, v1, v2] pre v post) (h0 : a.eval x0 = v0) (h1 : a.eval x1 = v1) (h2 : a.eval x2 = v2) (hm : Mem L H0 w W) (idx : List Nat) (hsel : selA L idx = (pre, rem)) (hS : CovS rem S) (hout : post ++ rem = out) (hd : o.dst = d) (h : ∀ W', Mem out H0 w W' → GK S W W' → wpS P ops S Q rest (a.put d v) W') : wpS P ops S Q ((i, 3) :: rest) a W :=
  wpS_does hi hw ho eg hc (by simp [h0, h1, h2]) hm idx hsel hS hd fun W' h1 h2 => h W' (hout ▸ h1) h2
theorem wpS_doesU3 {f : Nat} {x0 x1 x2 : Operand} {v0 v1 v2 : Value} {ts : Array TypeId} {post : Value → List At} {out : Value → List At} (hi : ops[i]? = some o) (hw : Region.wanted o (yielded ops a.tmps) = true) (ho : o.op = .call { callee := .value (.func f), args := #[x0, x1, x2], argTypes := ts }) (eg : ∀ args w, (callFunc f args).run P w = .ok (.enter f args) w)
    (hc : DoesU P f #[v0, v1, v2] pre post) (h0 : a.eval x0 = v0) (h1 : a.eval x1 = v1) (h2 : a.eval x2 = v2) (hm : Mem L H0 w W) (idx : List Nat) (hsel : selA L idx = (pre, rem)) (hS : CovS rem S) (hout : ∀ u, post u ++ rem = out u) (hd : o.dst = d) (h : ∀ u W', Mem (out u) H0 w W' → GK S W W' → wpS P ops S Q rest (a.put d u) W') : wpS P ops S Q ((i, 3) :: rest) a W :=
  wpS_doesU hi hw ho eg hc (by simp [h0, h1, h2]) hm idx hsel hS hd fun u W' h1 h2 => h u W' (hout u ▸ h1) h2
theorem wpS_does4 {f : Nat} {x0 x1 x2 x3 : Operand} {v0 v1 v2 v3 : Value} {ts : Array TypeId} {v : Value} {out : List At} (hi : ops[i]? = some o) (hw : Region.wanted o (yielded ops a.tmps) = true) (ho : o.op = .call { callee := .value (.func f), args := #[x0, x1, x2, x3], argTypes := ts }) (eg : ∀ args w, (callFunc f args).run P w = .ok (.enter f args) w)
    (hc : Does P f #[v0, v1, v2, v3] pre v post) (h0 : a.eval x0 = v0) (h1 : a.eval x1 = v1) (h2 : a.eval x2 = v2) (h3 : a.eval x3 = v3) (hm : Mem L H0 w W) (idx : List Nat) (hsel : selA L idx = (pre, rem)) (hS : CovS rem S) (hout : post ++ rem = out) (hd : o.dst = d) (h : ∀ W', Mem out H0 w W' → GK S W W' → wpS P ops S Q rest (a.put d v) W') : wpS P ops S Q ((i, 3) :: rest) a W :=
  wpS_does hi hw ho eg hc (by simp [h0, h1, h2, h3]) hm idx hsel hS hd fun W' h1 h2 => h W' (hout ▸ h1) h2
theorem wpS_doesU4 {f : Nat} {x0 x1 x2 x3 : Operand} {v0 v1 v2 v3 : Value} {ts : Array TypeId} {post : Value → List At} {out : Value → List At} (hi : ops[i]? = some o) (hw : Region.wanted o (yielded ops a.tmps) = true) (ho : o.op = .call { callee := .value (.func f), args := #[x0, x1, x2, x3], argTypes := ts }) (eg : ∀ args w, (callFunc f args).run P w = .ok (.enter f args) w)
    (hc : DoesU P f #[v0, v1, v2, v3] pre post) (h0 : a.eval x0 = v0) (h1 : a.eval x1 = v1) (h2 : a.eval x2 = v2) (h3 : a.eval x3 = v3) (hm : Mem L H0 w W) (idx : List Nat) (hsel : selA L idx = (pre, rem)) (hS : CovS rem S) (hout : ∀ u, post u ++ rem = out u) (hd : o.dst = d) (h : ∀ u W', Mem (out u) H0 w W' → GK S W W' → wpS P ops S Q rest (a.put d u) W') : wpS P ops S Q ((i, 3) :: rest) a W :=
  wpS_doesU hi hw ho eg hc (by simp [h0, h1, h2, h3]) hm idx hsel hS hd fun u W' h1 h2 => h u W' (hout u ▸ h1) h2
theorem wpS_does5 {f : Nat} {x0 x1 x2 x3 x4 : Operand} {v0 v1 v2 v3 v4 : Value} {ts : Array TypeId} {v : Value} {out : List At} (hi : ops[i]? = some o) (hw : Region.wanted o (yielded ops a.tmps) = true) (ho : o.op = .call { callee := .value (.func f), args := #[x0, x1, x2, x3, x4], argTypes := ts }) (eg : ∀ args w, (callFunc f args).run P w = .ok (.enter f args) w)
    (hc : Does P f #[v0, v1, v2, v3, v4] pre v post) (h0 : a.eval x0 = v0) (h1 : a.eval x1 = v1) (h2 : a.eval x2 = v2) (h3 : a.eval x3 = v3) (h4 : a.eval x4 = v4) (hm : Mem L H0 w W) (idx : List Nat) (hsel : selA L idx = (pre, rem)) (hS : CovS rem S) (hout : post ++ rem = out) (hd : o.dst = d) (h : ∀ W', Mem out H0 w W' → GK S W W' → wpS P ops S Q rest (a.put d v) W') : wpS P ops S Q ((i, 3) :: rest) a W :=
  wpS_does hi hw ho eg hc (by simp [h0, h1, h2, h3, h4]) hm idx hsel hS hd fun W' h1 h2 => h W' (hout ▸ h1) h2
theorem wpS_doesU5 {f : Nat} {x0 x1 x2 x3 x4 : Operand} {v0 v1 v2 v3 v4 : Value} {ts : Array TypeId} {post : Value → List At} {out : Value → List At} (hi : ops[i]? = some o) (hw : Region.wanted o (yielded ops a.tmps) = true) (ho : o.op = .call { callee := .value (.func f), args := #[x0, x1, x2, x3, x4], argTypes := ts }) (eg : ∀ args w, (callFunc f args).run P w = .ok (.enter f args) w)
    (hc : DoesU P f #[v0, v1, v2, v3, v4] pre post) (h0 : a.eval x0 = v0) (h1 : a.eval x1 = v1) (h2 : a.eval x2 = v2) (h3 : a.eval x3 = v3) (h4 : a.eval x4 = v4) (hm : Mem L H0 w W) (idx : List Nat) (hsel : selA L idx = (pre, rem)) (hS : CovS rem S) (hout : ∀ u, post u ++ rem = out u) (hd : o.dst = d) (h : ∀ u W', Mem (out u) H0 w W' → GK S W W' → wpS P ops S Q rest (a.put d u) W') : wpS P ops S Q ((i, 3) :: rest) a W :=
  wpS_doesU hi hw ho eg hc (by simp [h0, h1, h2, h3, h4]) hm idx hsel hS hd fun u W' h1 h2 => h u W' (hout u ▸ h1) h2
theorem gk_box {b : Nat} {ob : Obj} {W W' : World} {bs : List Nat} (h1 : W.heap[b]? = some ob) (h2 : W'.heap[b]? = some ob) (h : GK (fun k => k ∈ bs) W W') : GK (fun k => k ∈ b :: bs) W W' := by
  obtain ⟨x, rfl⟩ := h
  exact ⟨⟨x.w, x.os, x.tape, x.output, x.size, fun k hk => by
    rcases List.mem_cons.1 hk with rfl | hk
    · exact h2.trans h1.symm
    · exact x.block k hk⟩, rfl⟩
theorem wpS_doesUB0 {b : Nat} {ob : Obj} {f : Nat} {ts : Array TypeId} {post : Value → List At} {out : Value → List At} (hi : ops[i]? = some o) (hw : Region.wanted o (yielded ops a.tmps) = true) (ho : o.op = .call { callee := .value (.func f), args := #[], argTypes := ts }) (eg : ∀ args w, (callFunc f args).run P w = .ok (.enter f args) w)
    (hc : DoesU P f #[] pre post)  (hm : Mem L H0 w W) (idx : List Nat) (hsel : selA L idx = (pre, rem)) (hout : ∀ u, post u ++ rem = out u) (i1 i2 : Nat) (hb1 : L[i1]? = some (boxT b ob)) (hb2 : ∀ u, (out u)[i2]? = some (boxT b ob)) (hd : o.dst = d) (h : ∀ u W', Mem (out u) H0 w W' → GK (fun k => k ∈ [b]) W W' → wpS P ops (fun k => k ∈ [b]) Q rest (a.put d u) W') : wpS P ops (fun k => k ∈ [b]) Q ((i, 3) :: rest) a W :=
  wpS_enter hi hw (run_call ho eg (by simp [])) (R := fun u W' => Mem (out u) H0 w W' ∧ GK (fun k => k ∈ [b]) W W') ((hc.mem hm idx hsel covS_nil).mono fun e W' ⟨u, he, h1, h2⟩ => ⟨u, he, hout u ▸ h1, gk_box (hm.box i1 hb1) (Mem.box (hout u ▸ h1) i2 (hb2 u)) h2⟩) (fun _ _ h => h.2) hd fun u W' h1 => h u W' h1.1 h1.2
theorem wpS_doesUB1 {b : Nat} {ob : Obj} {f : Nat} {x0 : Operand} {v0 : Value} {ts : Array TypeId} {post : Value → List At} {out : Value → List At} (hi : ops[i]? = some o) (hw : Region.wanted o (yielded ops a.tmps) = true) (ho : o.op = .call { callee := .value (.func f), args := #[x0], argTypes := ts }) (eg : ∀ args w, (callFunc f args).run P w = .ok (.enter f args) w)
    (hc : DoesU P f #[v0] pre post) (h0 : a.eval x0 = v0) (hm : Mem L H0 w W) (idx : List Nat) (hsel : selA L idx = (pre, rem)) (hout : ∀ u, post u ++ rem = out u) (i1 i2 : Nat) (hb1 : L[i1]? = some (boxT b ob)) (hb2 : ∀ u, (out u)[i2]? = some (boxT b ob)) (hd : o.dst = d) (h : ∀ u W', Mem (out u) H0 w W' → GK (fun k => k ∈ [b]) W W' → wpS P ops (fun k => k ∈ [b]) Q rest (a.put d u) W') : wpS P ops (fun k => k ∈ [b]) Q ((i, 3) :: rest) a W :=
  wpS_enter hi hw (run_call ho eg (by simp [h0])) (R := fun u W' => Mem (out u) H0 w W' ∧ GK (fun k => k ∈ [b]) W W') ((hc.mem hm idx hsel covS_nil).mono fun e W' ⟨u, he, h1, h2⟩ => ⟨u, he, hout u ▸ h1, gk_box (hm.box i1 hb1) (Mem.box (hout u ▸ h1) i2 (hb2 u)) h2⟩) (fun _ _ h => h.2) hd fun u W' h1 => h u W' h1.1 h1.2
theorem wpS_doesUB2 {b : Nat} {ob : Obj} {f : Nat} {x0 x1 : Operand} {v0 v1 : Value} {ts : Array TypeId} {post : Value → List At} {out : Value → List At} (hi : ops[i]? = some o) (hw : Region.wanted o (yielded ops a.tmps) = true) (ho : o.op = .call { callee := .value (.func f), args := #[x0, x1], argTypes := ts }) (eg : ∀ args w, (callFunc f args).run P w = .ok (.enter f args) w)
    (hc : DoesU P f #[v0, v1] pre post) (h0 : a.eval x0 = v0) (h1 : a.eval x1 = v1) (hm : Mem L H0 w W) (idx : List Nat) (hsel : selA L idx = (pre, rem)) (hout : ∀ u, post u ++ rem = out u) (i1 i2 : Nat) (hb1 : L[i1]? = some (boxT b ob)) (hb2 : ∀ u, (out u)[i2]? = some (boxT b ob)) (hd : o.dst = d) (h : ∀ u W', Mem (out u) H0 w W' → GK (fun k => k ∈ [b]) W W' → wpS P ops (fun k => k ∈ [b]) Q rest (a.put d u) W') : wpS P ops (fun k => k ∈ [b]) Q ((i, 3) :: rest) a W :=
  wpS_enter hi hw (run_call ho eg (by simp [h0, h1])) (R := fun u W' => Mem (out u) H0 w W' ∧ GK (fun k => k ∈ [b]) W W') ((hc.mem hm idx hsel covS_nil).mono fun e W' ⟨u, he, h1, h2⟩ => ⟨u, he, hout u ▸ h1, gk_box (hm.box i1 hb1) (Mem.box (hout u ▸ h1) i2 (hb2 u)) h2⟩) (fun _ _ h => h.2) hd fun u W' h1 => h u W' h1.1 h1.2
theorem wpS_doesUB3 {b : Nat} {ob : Obj} {f : Nat} {x0 x1 x2 : Operand} {v0 v1 v2 : Value} {ts : Array TypeId} {post : Value → List At} {out : Value → List At} (hi : ops[i]? = some o) (hw : Region.wanted o (yielded ops a.tmps) = true) (ho : o.op = .call { callee := .value (.func f), args := #[x0, x1, x2], argTypes := ts }) (eg : ∀ args w, (callFunc f args).run P w = .ok (.enter f args) w)
    (hc : DoesU P f #[v0, v1, v2] pre post) (h0 : a.eval x0 = v0) (h1 : a.eval x1 = v1) (h2 : a.eval x2 = v2) (hm : Mem L H0 w W) (idx : List Nat) (hsel : selA L idx = (pre, rem)) (hout : ∀ u, post u ++ rem = out u) (i1 i2 : Nat) (hb1 : L[i1]? = some (boxT b ob)) (hb2 : ∀ u, (out u)[i2]? = some (boxT b ob)) (hd : o.dst = d) (h : ∀ u W', Mem (out u) H0 w W' → GK (fun k => k ∈ [b]) W W' → wpS P ops (fun k => k ∈ [b]) Q rest (a.put d u) W') : wpS P ops (fun k => k ∈ [b]) Q ((i, 3) :: rest) a W :=
  wpS_enter hi hw (run_call ho eg (by simp [h0, h1, h2])) (R := fun u W' => Mem (out u) H0 w W' ∧ GK (fun k => k ∈ [b]) W W') ((hc.mem hm idx hsel covS_nil).mono fun e W' ⟨u, he, h1, h2⟩ => ⟨u, he, hout u ▸ h1, gk_box (hm.box i1 hb1) (Mem.box (hout u ▸ h1) i2 (hb2 u)) h2⟩) (fun _ _ h => h.2) hd fun u W' h1 => h u W' h1.1 h1.2
theorem wpS_doesUB4 {b : Nat} {ob : Obj} {f : Nat} {x0 x1 x2 x3 : Operand} {v0 v1 v2 v3 : Value} {ts : Array TypeId} {post : Value → List At} {out : Value → List At} (hi : ops[i]? = some o) (hw : Region.wanted o (yielded ops a.tmps) = true) (ho : o.op = .call { callee := .value (.func f), args := #[x0, x1, x2, x3], argTypes := ts }) (eg : ∀ args w, (callFunc f args).run P w = .ok (.enter f args) w)
    (hc : DoesU P f #[v0, v1, v2, v3] pre post) (h0 : a.eval x0 = v0) (h1 : a.eval x1 = v1) (h2 : a.eval x2 = v2) (h3 : a.eval x3 = v3) (hm : Mem L H0 w W) (idx : List Nat) (hsel : selA L idx = (pre, rem)) (hout : ∀ u, post u ++ rem = out u) (i1 i2 : Nat) (hb1 : L[i1]? = some (boxT b ob)) (hb2 : ∀ u, (out u)[i2]? = some (boxT b ob)) (hd : o.dst = d) (h : ∀ u W', Mem (out u) H0 w W' → GK (fun k => k ∈ [b]) W W' → wpS P ops (fun k => k ∈ [b]) Q rest (a.put d u) W') : wpS P ops (fun k => k ∈ [b]) Q ((i, 3) :: rest) a W :=
  wpS_enter hi hw (run_call ho eg (by simp [h0, h1, h2, h3])) (R := fun u W' => Mem (out u) H0 w W' ∧ GK (fun k => k ∈ [b]) W W') ((hc.mem hm idx hsel covS_nil).mono fun e W' ⟨u, he, h1, h2⟩ => ⟨u, he, hout u ▸ h1, gk_box (hm.box i1 hb1) (Mem.box (hout u ▸ h1) i2 (hb2 u)) h2⟩) (fun _ _ h => h.2) hd fun u W' h1 => h u W' h1.1 h1.2
theorem wpS_doesB0 {b : Nat} {ob : Obj} {f : Nat} {ts : Array TypeId} {v : Value} {out : List At} (hi : ops[i]? = some o) (hw : Region.wanted o (yielded ops a.tmps) = true) (ho : o.op = .call { callee := .value (.func f), args := #[], argTypes := ts }) (eg : ∀ args w, (callFunc f args).run P w = .ok (.enter f args) w)
    (hc : Does P f #[] pre v post)  (hm : Mem L H0 w W) (idx : List Nat) (hsel : selA L idx = (pre, rem)) (hout : post ++ rem = out) (i1 i2 : Nat) (hb1 : L[i1]? = some (boxT b ob)) (hb2 : out[i2]? = some (boxT b ob)) (hd : o.dst = d) (h : ∀ W', Mem out H0 w W' → GK (fun k => k ∈ [b]) W W' → wpS P ops (fun k => k ∈ [b]) Q rest (a.put d v) W') : wpS P ops (fun k => k ∈ [b]) Q ((i, 3) :: rest) a W :=
  wpS_enter hi hw (run_call ho eg (by simp [])) (R := fun u W' => u = v ∧ Mem out H0 w W' ∧ GK (fun k => k ∈ [b]) W W') ((hc.mem hm idx hsel covS_nil).mono fun e W' ⟨he, h1, h2⟩ => ⟨v, he, rfl, hout ▸ h1, gk_box (hm.box i1 hb1) (Mem.box (hout ▸ h1) i2 hb2) h2⟩) (fun _ _ h => h.2.2) hd fun u W' ⟨hu, h1, h2⟩ => by subst hu; exact h W' h1 h2
theorem wpS_doesB1 {b : Nat} {ob : Obj} {f : Nat} {x0 : Operand} {v0 : Value} {ts : Array TypeId} {v : Value} {out : List At} (hi : ops[i]? = some o) (hw : Region.wanted o (yielded ops a.tmps) = true) (ho : o.op = .call { callee := .value (.func f), args := #[x0], argTypes := ts }) (eg : ∀ args w, (callFunc f args).run P w = .ok (.enter f args) w)
    (hc : Does P f #[v0] pre v post) (h0 : a.eval x0 = v0) (hm : Mem L H0 w W) (idx : List Nat) (hsel : selA L idx = (pre, rem)) (hout : post ++ rem = out) (i1 i2 : Nat) (hb1 : L[i1]? = some (boxT b ob)) (hb2 : out[i2]? = some (boxT b ob)) (hd : o.dst = d) (h : ∀ W', Mem out H0 w W' → GK (fun k => k ∈ [b]) W W' → wpS P ops (fun k => k ∈ [b]) Q rest (a.put d v) W') : wpS P ops (fun k => k ∈ [b]) Q ((i, 3) :: rest) a W :=
  wpS_enter hi hw (run_call ho eg (by simp [h0])) (R := fun u W' => u = v ∧ Mem out H0 w W' ∧ GK (fun k => k ∈ [b]) W W') ((hc.mem hm idx hsel covS_nil).mono fun e W' ⟨he, h1, h2⟩ => ⟨v, he, rfl, hout ▸ h1, gk_box (hm.box i1 hb1) (Mem.box (hout ▸ h1) i2 hb2) h2⟩) (fun _ _ h => h.2.2) hd fun u W' ⟨hu, h1, h2⟩ => by subst hu; exact h W' h1 h2
theorem wpS_doesB2 {b : Nat} {ob : Obj} {f : Nat} {x0 x1 : Operand} {v0 v1 : Value} {ts : Array TypeId} {v : Value} {out : List At} (hi : ops[i]? = some o) (hw : Region.wanted o (yielded ops a.tmps) = true) (ho : o.op = .call { callee := .value (.func f), args := #[x0, x1], argTypes := ts }) (eg : ∀ args w, (callFunc f args).run P w = .ok (.enter f args) w)
    (hc : Does P f #[v0, v1] pre v post) (h0 : a.eval x0 = v0) (h1 : a.eval x1 = v1) (hm : Mem L H0 w W) (idx : List Nat) (hsel : selA L idx = (pre, rem)) (hout : post ++ rem = out) (i1 i2 : Nat) (hb1 : L[i1]? = some (boxT b ob)) (hb2 : out[i2]? = some (boxT b ob)) (hd : o.dst = d) (h : ∀ W', Mem out H0 w W' → GK (fun k => k ∈ [b]) W W' → wpS P ops (fun k => k ∈ [b]) Q rest (a.put d v) W') : wpS P ops (fun k => k ∈ [b]) Q ((i, 3) :: rest) a W :=
  wpS_enter hi hw (run_call ho eg (by simp [h0, h1])) (R := fun u W' => u = v ∧ Mem out H0 w W' ∧ GK (fun k => k ∈ [b]) W W') ((hc.mem hm idx hsel covS_nil).mono fun e W' ⟨he, h1, h2⟩ => ⟨v, he, rfl, hout ▸ h1, gk_box (hm.box i1 hb1) (Mem.box (hout ▸ h1) i2 hb2) h2⟩) (fun _ _ h => h.2.2) hd fun u W' ⟨hu, h1, h2⟩ => by subst hu; exact h W' h1 h2
theorem wpS_doesB3 {b : Nat} {ob : Obj} {f : Nat} {x0 x1 x2 : Operand} {v0 v1 v2 : Value} {ts : Array TypeId} {v : Value} {out : List At} (hi : ops[i]? = some o) (hw : Region.wanted o (yielded ops a.tmps) = true) (ho : o.op = .call { callee := .value (.func f), args := #[x0, x1, x2], argTypes := ts }) (eg : ∀ args w, (callFunc f args).run P w = .ok (.enter f args) w)
    (hc : Does P f #[v0, v1, v2] pre v post) (h0 : a.eval x0 = v0) (h1 : a.eval x1 = v1) (h2 : a.eval x2 = v2) (hm : Mem L H0 w W) (idx : List Nat) (hsel : selA L idx = (pre, rem)) (hout : post ++ rem = out) (i1 i2 : Nat) (hb1 : L[i1]? = some (boxT b ob)) (hb2 : out[i2]? = some (boxT b ob)) (hd : o.dst = d) (h : ∀ W', Mem out H0 w W' → GK (fun k => k ∈ [b]) W W' → wpS P ops (fun k => k ∈ [b]) Q rest (a.put d v) W') : wpS P ops (fun k => k ∈ [b]) Q ((i, 3) :: rest) a W :=
  wpS_enter hi hw (run_call ho eg (by simp [h0, h1, h2])) (R := fun u W' => u = v ∧ Mem out H0 w W' ∧ GK (fun k => k ∈ [b]) W W') ((hc.mem hm idx hsel covS_nil).mono fun e W' ⟨he, h1, h2⟩ => ⟨v, he, rfl, hout ▸ h1, gk_box (hm.box i1 hb1) (Mem.box (hout ▸ h1) i2 hb2) h2⟩) (fun _ _ h => h.2.2) hd fun u W' ⟨hu, h1, h2⟩ => by subst hu; exact h W' h1 h2
theorem wpS_doesB4 {b : Nat} {ob : Obj} {f : Nat} {x0 x1 x2 x3 : Operand} {v0 v1 v2 v3 : Value} {ts : Array TypeId} {v : Value} {out : List At} (hi : ops[i]? = some o) (hw : Region.wanted o (yielded ops a.tmps) = true) (ho : o.op = .call { callee := .value (.func f), args := #[x0, x1, x2, x3], argTypes := ts }) (eg : ∀ args w, (callFunc f args).run P w = .ok (.enter f args) w)
    (hc : Does P f #[v0, v1, v2, v3] pre v post) (h0 : a.eval x0 = v0) (h1 : a.eval x1 = v1) (h2 : a.eval x2 = v2) (h3 : a.eval x3 = v3) (hm : Mem L H0 w W) (idx : List Nat) (hsel : selA L idx = (pre, rem)) (hout : post ++ rem = out) (i1 i2 : Nat) (hb1 : L[i1]? = some (boxT b ob)) (hb2 : out[i2]? = some (boxT b ob)) (hd : o.dst = d) (h : ∀ W', Mem out H0 w W' → GK (fun k => k ∈ [b]) W W' → wpS P ops (fun k => k ∈ [b]) Q rest (a.put d v) W') : wpS P ops (fun k => k ∈ [b]) Q ((i, 3) :: rest) a W :=
  wpS_enter hi hw (run_call ho eg (by simp [h0, h1, h2, h3])) (R := fun u W' => u = v ∧ Mem out H0 w W' ∧ GK (fun k => k ∈ [b]) W W') ((hc.mem hm idx hsel covS_nil).mono fun e W' ⟨he, h1, h2⟩ => ⟨v, he, rfl, hout ▸ h1, gk_box (hm.box i1 hb1) (Mem.box (hout ▸ h1) i2 hb2) h2⟩) (fun _ _ h => h.2.2) hd fun u W' ⟨hu, h1, h2⟩ => by subst hu; exact h W' h1 h2
/-- A new variable, of a value. -/
theorem wpS_box {t : TypeId} {x : Operand} {v : Value} {cs : Array Value} {dd : Tmp} (hi : ops[i]? = some o) (hw : Region.wanted o (yielded ops a.tmps) = true) (ho : o.op = .box t x) (hx : a.eval x = v) (hcs : v.cells = cs) (hm : Mem L H0 w W) (hS : CovS L S) (hd : o.dst = some dd)
    (h : ∀ b W', Mem (boxT b (.cells cs t (0, 0)) :: L) H0 w W' → GK S W W' → wpS P ops S Q rest (a.put (some dd) (.pointer (some ⟨b, 0, none⟩))) W') : wpS P ops S Q ((i, 3) :: rest) a W := by
  refine wpS_eff hi hw (R := fun v W' => v = .pointer (some ⟨W.heap.size, 0, none⟩) ∧ W' = W.alloc (.cells cs t (0, 0))) ⟨_, _, ?_, rfl, rfl⟩ (fun v W' ⟨_, e⟩ => by subst e; exact GK.of_below (ext_alloc (ext_refl W) _) (hS.lt hm)) hd fun v W' ⟨hv, hW⟩ => ?_
  · unfold execOp
    simp only [ho, hx]
    subst hcs
    simp [Instr.box, newVar, newRow, go_sem]
  · subst hv hW
    exact h _ _ (SEnd.box (stars_owns L) hm _) (GK.of_below (ext_alloc (ext_refl W) _) (hS.lt hm))
theorem wpS_boxA {t : TypeId} {x : Operand} {cs : Array Value} {dd : Tmp} (hi : ops[i]? = some o) (hw : Region.wanted o (yielded ops a.tmps) = true) (ho : o.op = .box t x) (hx : a.eval x = .agg cs) (hm : Mem L H0 w W) (hS : CovS L S) (hd : o.dst = some dd)
    (h : ∀ b W', Mem (boxT b (.cells cs t (0, 0)) :: L) H0 w W' → GK S W W' → wpS P ops S Q rest (a.put (some dd) (.pointer (some ⟨b, 0, none⟩))) W') : wpS P ops S Q ((i, 3) :: rest) a W := wpS_box hi hw ho hx rfl hm hS hd h
theorem wpS_box1 {t : TypeId} {x : Operand} {v : Value} {dd : Tmp} (hi : ops[i]? = some o) (hw : Region.wanted o (yielded ops a.tmps) = true) (ho : o.op = .box t x) (hx : a.eval x = v) (hcs : v.cells = #[v]) (hm : Mem L H0 w W) (hS : CovS L S) (hd : o.dst = some dd)
    (h : ∀ b W', Mem (boxT b (.cells #[v] t (0, 0)) :: L) H0 w W' → GK S W W' → wpS P ops S Q rest (a.put (some dd) (.pointer (some ⟨b, 0, none⟩))) W') : wpS P ops S Q ((i, 3) :: rest) a W := wpS_box hi hw ho hx hcs hm hS hd h
/-- A new variable, of nothing. -/
theorem wpS_alloc {t : TypeId} {z : Value} {cs : Array Value} {dd : Tmp} (hi : ops[i]? = some o) (hw : Region.wanted o (yielded ops a.tmps) = true) (ho : o.op = .alloc t) (hz : (P.info? t).bind (fun i => i.zero) = some z) (hcs : z.cells = cs) (hm : Mem L H0 w W) (hS : CovS L S) (hd : o.dst = some dd)
    (h : ∀ b W', Mem (boxT b (.cells cs t (0, 0)) :: L) H0 w W' → GK S W W' → wpS P ops S Q rest (a.put (some dd) (.pointer (some ⟨b, 0, none⟩))) W') : wpS P ops S Q ((i, 3) :: rest) a W := by
  refine wpS_eff hi hw (R := fun v W' => v = .pointer (some ⟨W.heap.size, 0, none⟩) ∧ W' = W.alloc (.cells cs t (0, 0))) ⟨_, _, ?_, rfl, rfl⟩ (fun v W' ⟨_, e⟩ => by subst e; exact GK.of_below (ext_alloc (ext_refl W) _) (hS.lt hm)) hd fun v W' ⟨hv, hW⟩ => ?_
  · obtain ⟨n, hn, hz⟩ := Option.bind_eq_some_iff.1 hz
    unfold execOp
    simp only [ho]
    subst hcs
    simp [Instr.alloc, zeroValue, typeInfo, newVar, newRow, hn, hz, go_sem]
  · subst hv hW
    exact h _ _ (SEnd.box (stars_owns L) hm _) (GK.of_below (ext_alloc (ext_refl W) _) (hS.lt hm))
def putL : List Value → Nat → List Value → List Value
  | l, _, [] => l
  | l, off, v :: r => putL (l.set off v) (off + 1) r
theorem run_storeCells {b : Nat} {t : TypeId} : ∀ (vs : List Value) (cs : List Value) (off j : Nat) (W : World), W.heap[b]? = some (.cells cs.toArray t (0, 0)) → off + j + vs.length ≤ cs.length → (∀ v ∈ vs, v.oneCell' = true) →
    (storeCells ⟨b, off, none⟩ vs j).run P W = .ok () { W with heap := W.heap.setIfInBounds b (.cells (putL cs (off + j) vs).toArray t (0, 0)) }
  | [], cs, off, j, W, hb, _, _ => by
    have hlt := (Array.getElem?_eq_some_iff.1 hb).1
    have : W.heap.setIfInBounds b (.cells cs.toArray t (0, 0)) = W.heap := by
      apply Array.ext_getElem?
      intro k
      by_cases hk : b = k
      · subst hk; rw [Array.getElem?_setIfInBounds_self_of_lt hlt, hb]
      · rw [Array.getElem?_setIfInBounds_ne hk]
    simp [storeCells, putL, this, go_sem]
  | v :: vs, cs, off, j, W, hb, hl, h1 => by
    have hlt := (Array.getElem?_eq_some_iff.1 hb).1
    have hc : W.cell? ⟨b, off + j, none⟩ = some (cs[off + j]'(by simp only [List.length_cons] at hl; omega)) := by
      simp only [World.cell?, hb]
      simp only [List.length_cons] at hl
      simp [List.getElem?_eq_getElem (show off + j < cs.length by omega)]
    have hfz : W.frozen? ⟨b, off + j, none⟩ = false := by simp [World.frozen?, hb]
    have hone := h1 v List.mem_cons_self
    have hset : W.setCell ⟨b, off + j, none⟩ v = { W with heap := W.heap.setIfInBounds b (.cells (cs.set (off + j) v).toArray t (0, 0)) } := by
      unfold World.setCell
      congr 1
      apply Array.ext_getElem?
      intro k
      rw [Array.getElem?_modify]
      by_cases hk : b = k
      · subst hk
        rw [if_pos rfl, hb, Array.getElem?_setIfInBounds_self_of_lt hlt]
        simp
      · rw [if_neg hk, Array.getElem?_setIfInBounds_ne hk]
    have hrun : (store (Addr.add ⟨b, off, none⟩ j) v).run P W = .ok () (W.setCell ⟨b, off + j, none⟩ v) := by
      have e : Addr.add ⟨b, off, none⟩ j = ⟨b, off + j, none⟩ := addr_off b off j
      rw [e]
      cases v <;> simp_all [store, Sem.run, Value.oneCell']
    have ih := run_storeCells vs (cs.set (off + j) v) off (j + 1) (W.setCell ⟨b, off + j, none⟩ v) (by rw [hset]; exact Array.getElem?_setIfInBounds_self_of_lt hlt) (by rw [List.length_set]; simp only [List.length_cons] at hl; omega) fun u hu => h1 u (List.mem_cons_of_mem _ hu)
    show (Sem.run P (do store (Addr.add ⟨b, off, none⟩ j) v; storeCells ⟨b, off, none⟩ vs (j + 1)) W) = _
    rw [Sem.run_bind, hrun, Result.andThen_ok, ih, hset]
    simp [putL, Nat.add_assoc]
theorem Mem.setBox {b : Nat} {o : Obj} (h : Mem L H0 w W) (k : Nat) (hk : L[k]? = some (boxT b o)) (o' : Obj) (hS : CovS (L.eraseIdx k) S) : Mem (boxT b o' :: L.eraseIdx k) H0 w { W with heap := W.heap.setIfInBounds b o' } ∧ GK S W { W with heap := W.heap.setIfInBounds b o' } := by
  have h1 : SEnd (star (BoxA b o) (stars (L.eraseIdx k))) H0 w W := SEnd.mono h fun _ h => stars_pick L k _ hk h
  obtain ⟨H, hs, hf, hg⟩ := h1
  obtain ⟨H1, ⟨hb, hH⟩, _, h3⟩ := star_frame (stars_owns _) hs
  have hlt := (Array.getElem?_eq_some_iff.1 hb).1
  have hend : SEnd (BoxA b o') H1 W { W with heap := W.heap.setIfInBounds b o' } := by
    refine ⟨H1, ⟨Array.getElem?_setIfInBounds_self_of_lt hlt, hH⟩, ⟨rfl, rfl, rfl, by simp, fun j _ hn => ?_⟩, fun _ hk => .inl hk⟩
    exact Array.getElem?_setIfInBounds_ne fun e => hn ((hH j).2 e.symm)
  refine ⟨SEnd.trans (P := fun W1 H' => W1 = W ∧ H' = H) ⟨H, ⟨rfl, rfl⟩, hf, hg⟩ fun H' ⟨_, e⟩ => by subst e; exact (h3 _ _ hend).1, (h3 _ _ hend).2 S (hS W)⟩
/-- A store into a variable of one's own. -/
theorem wpS_store {t tt : TypeId} {x y : Operand} {b off : Nat} {v : Value} {vs cs cs' : List Value} (hi : ops[i]? = some o) (hw : Region.wanted o (yielded ops a.tmps) = true) (ho : o.op = .store t x y) (hx : a.eval x = .pointer (some ⟨b, off, none⟩)) (hy : a.eval y = v) (hv : v.cells.toList = vs) (hn : (P.info? t).map (fun i => i.size) = some vs.length) (hone : (vs.all Value.oneCell') = true)
    (hm : Mem L H0 w W) (k : Nat) (hk : L[k]? = some (boxT b (.cells cs.toArray tt (0, 0)))) (hlen : off + vs.length ≤ cs.length) (hcs : putL cs off vs = cs') (hS : CovS (L.eraseIdx k) S) (hd : o.dst = none) (h : ∀ W', Mem (boxT b (.cells cs'.toArray tt (0, 0)) :: L.eraseIdx k) H0 w W' → GK S W W' → wpS P ops S Q rest a W') : wpS P ops S Q ((i, 3) :: rest) a W := by
  obtain ⟨h1, h2⟩ := hm.setBox k hk (.cells cs'.toArray tt (0, 0)) hS
  obtain ⟨ti, hti, hsz⟩ := Option.map_eq_some_iff.1 hn
  refine wpS_unit hi hw ?_ h2 hd (h _ h1 h2)
  have hr := run_storeCells (P := P) vs cs off 0 W (hm.box k hk) (by omega) fun u hu => List.all_eq_true.1 hone u hu
  subst hcs
  have hvs : v.cells.size = vs.length := by rw [← hv]; simp
  have hsize : (sizeOf t).run P W = .ok vs.length W := by simp [sizeOf, typeInfo, hti, hsz, go_sem]
  have h3 : (storeVar t ⟨b, off, none⟩ v).run P W = .ok () { W with heap := W.heap.setIfInBounds b (.cells (putL cs off vs).toArray tt (0, 0)) } := by
    unfold storeVar
    rw [Sem.run_bind, hsize, Result.andThen_ok, if_neg (by rw [hvs]; simp), hv]
    simpa using hr
  unfold execOp
  simp only [ho, hx, hy, Instr.storeAt, Instr.sureAddr, Sem.run_bind, Sem.run_pure, Result.andThen_ok, h3]
theorem wpS_storeA {t tt : TypeId} {x y : Operand} {b off : Nat} {vs cs cs' : List Value} {L2 : List At} (hi : ops[i]? = some o) (hw : Region.wanted o (yielded ops a.tmps) = true) (ho : o.op = .store t x y) (hx : a.eval x = .pointer (some ⟨b, off, none⟩)) (hy : a.eval y = .agg vs.toArray) (hn : (P.info? t).map (fun i => i.size) = some vs.length) (hone : (vs.all Value.oneCell') = true)
    (hm : Mem L H0 w W) (k : Nat) (hk : L[k]? = some (boxT b (.cells cs.toArray tt (0, 0)))) (hL2 : L.eraseIdx k = L2) (hlen : Nat.ble (off + vs.length) cs.length = true) (hcs : putL cs off vs = cs') (hS : CovS L2 S) (hd : o.dst = none) (h : ∀ W', Mem (boxT b (.cells cs'.toArray tt (0, 0)) :: L2) H0 w W' → GK S W W' → wpS P ops S Q rest a W') : wpS P ops S Q ((i, 3) :: rest) a W := by
  subst hL2
  exact wpS_store hi hw ho hx hy (by simp [Value.cells]) hn hone hm k hk (Nat.le_of_ble_eq_true hlen) hcs hS hd h
theorem wpS_store1 {t tt : TypeId} {x y : Operand} {b off : Nat} {v : Value} {cs cs' : List Value} {L2 : List At} (hi : ops[i]? = some o) (hw : Region.wanted o (yielded ops a.tmps) = true) (ho : o.op = .store t x y) (hx : a.eval x = .pointer (some ⟨b, off, none⟩)) (hy : a.eval y = v) (hv : v.cells = #[v]) (hn : (P.info? t).map (fun i => i.size) = some 1) (hone : v.oneCell' = true)
    (hm : Mem L H0 w W) (k : Nat) (hk : L[k]? = some (boxT b (.cells cs.toArray tt (0, 0)))) (hL2 : L.eraseIdx k = L2) (hlen : Nat.ble (off + 1) cs.length = true) (hcs : cs.set off v = cs') (hS : CovS L2 S) (hd : o.dst = none) (h : ∀ W', Mem (boxT b (.cells cs'.toArray tt (0, 0)) :: L2) H0 w W' → GK S W W' → wpS P ops S Q rest a W') : wpS P ops S Q ((i, 3) :: rest) a W := by
  subst hL2
  exact wpS_store (vs := [v]) hi hw ho hx hy (by rw [hv]) hn (by simp [hone]) hm k hk (Nat.le_of_ble_eq_true hlen) (by simpa [putL] using hcs) hS hd h
/-- The same where no other operation may come up beside it. -/
theorem wpS_store4 {t tt : TypeId} {x y : Operand} {b off : Nat} {v : Value} {vs cs cs' : List Value} (hi : ops[i]? = some o) (hw : Region.wanted o (yielded ops a.tmps) = true) (ho : o.op = .store t x y) (hx : a.eval x = .pointer (some ⟨b, off, none⟩)) (hy : a.eval y = v) (hv : v.cells.toList = vs) (hn : (P.info? t).map (fun i => i.size) = some vs.length) (hone : (vs.all Value.oneCell') = true)
    (hm : Mem L H0 w W) (k : Nat) (hk : L[k]? = some (boxT b (.cells cs.toArray tt (0, 0)))) (hlen : off + vs.length ≤ cs.length) (hcs : putL cs off vs = cs') (hd : o.dst = none) (h : ∀ W', Mem (boxT b (.cells cs'.toArray tt (0, 0)) :: L.eraseIdx k) H0 w W' → wpS P ops S Q rest a W') : wpS P ops S Q ((i, 4) :: rest) a W := by
  obtain ⟨h1, _⟩ := hm.setBox k hk (.cells cs'.toArray tt (0, 0)) (covS_nil)
  obtain ⟨ti, hti, hsz⟩ := Option.map_eq_some_iff.1 hn
  refine wpS_unit4 hi hw ?_ hd (h _ h1)
  have hr := run_storeCells (P := P) vs cs off 0 W (hm.box k hk) (by omega) fun u hu => List.all_eq_true.1 hone u hu
  subst hcs
  have hvs : v.cells.size = vs.length := by rw [← hv]; simp
  have hsize : (sizeOf t).run P W = .ok vs.length W := by simp [sizeOf, typeInfo, hti, hsz, go_sem]
  have h3 : (storeVar t ⟨b, off, none⟩ v).run P W = .ok () { W with heap := W.heap.setIfInBounds b (.cells (putL cs off vs).toArray tt (0, 0)) } := by
    unfold storeVar
    rw [Sem.run_bind, hsize, Result.andThen_ok, if_neg (by rw [hvs]; simp), hv]
    simpa using hr
  unfold execOp
  simp only [ho, hx, hy, Instr.storeAt, Instr.sureAddr, Sem.run_bind, Sem.run_pure, Result.andThen_ok, h3]
theorem wpS_storeA4 {t tt : TypeId} {x y : Operand} {b off : Nat} {vs cs cs' : List Value} {L2 : List At} (hi : ops[i]? = some o) (hw : Region.wanted o (yielded ops a.tmps) = true) (ho : o.op = .store t x y) (hx : a.eval x = .pointer (some ⟨b, off, none⟩)) (hy : a.eval y = .agg vs.toArray) (hn : (P.info? t).map (fun i => i.size) = some vs.length) (hone : (vs.all Value.oneCell') = true)
    (hm : Mem L H0 w W) (k : Nat) (hk : L[k]? = some (boxT b (.cells cs.toArray tt (0, 0)))) (hL2 : L.eraseIdx k = L2) (hlen : Nat.ble (off + vs.length) cs.length = true) (hcs : putL cs off vs = cs') (hd : o.dst = none) (h : ∀ W', Mem (boxT b (.cells cs'.toArray tt (0, 0)) :: L2) H0 w W' → wpS P ops S Q rest a W') : wpS P ops S Q ((i, 4) :: rest) a W := by
  subst hL2
  exact wpS_store4 hi hw ho hx hy (by simp [Value.cells]) hn hone hm k hk (Nat.le_of_ble_eq_true hlen) hcs hd h
theorem wpS_store14 {t tt : TypeId} {x y : Operand} {b off : Nat} {v : Value} {cs cs' : List Value} {L2 : List At} (hi : ops[i]? = some o) (hw : Region.wanted o (yielded ops a.tmps) = true) (ho : o.op = .store t x y) (hx : a.eval x = .pointer (some ⟨b, off, none⟩)) (hy : a.eval y = v) (hv : v.cells = #[v]) (hn : (P.info? t).map (fun i => i.size) = some 1) (hone : v.oneCell' = true)
    (hm : Mem L H0 w W) (k : Nat) (hk : L[k]? = some (boxT b (.cells cs.toArray tt (0, 0)))) (hL2 : L.eraseIdx k = L2) (hlen : Nat.ble (off + 1) cs.length = true) (hcs : cs.set off v = cs') (hd : o.dst = none) (h : ∀ W', Mem (boxT b (.cells cs'.toArray tt (0, 0)) :: L2) H0 w W' → wpS P ops S Q rest a W') : wpS P ops S Q ((i, 4) :: rest) a W := by
  subst hL2
  exact wpS_store4 (vs := [v]) hi hw ho hx hy (by rw [hv]) hn (by simp [hone]) hm k hk (Nat.le_of_ble_eq_true hlen) (by simpa [putL] using hcs) hd h
/-- A load of a whole variable of many cells. -/
theorem wpS_loadN {_t tt : TypeId} {_x : Operand} {b : Nat} {cs : Array Value} (hi : ops[i]? = some o) (hw : Region.wanted o (yielded ops a.tmps) = true) (hrun : ∀ W' : World, W'.heap[b]? = some (.cells cs tt (0, 0)) → (execOp a.eval o).run P W' = .ok (.value (.agg cs)) W')
    (hm : Mem L H0 w W) (k : Nat) (hk : L[k]? = some (boxT b (.cells cs tt (0, 0)))) (hd : o.dst = d) (h : wpS P ops S Q rest (a.put d (.agg cs)) W) : wpS P ops S Q ((i, 1) :: rest) a W := by
  subst hd
  show opS P ops S i 1 (wpS P ops S Q rest) a W
  unfold opS
  rw [hi]
  dsimp only
  rw [if_pos (by omega)]
  exact ⟨.agg cs, .inl ⟨hw, fun x hx => .inl (by have e : x = W := hx; subst e; exact hrun _ (hm.box k hk))⟩, h⟩
end

section
variable {P : Program} {Q : Exit → Act → World → Prop} {K : Act → World → Prop} {a : Act} {w : World} {id j : Nat}
theorem then_normal (h : K a w) : Exit.then K Q .normal a w := h
theorem then_ret (h : Q .ret a w) : Exit.then K Q .ret a w := h
theorem then_exit (h : Q (.exit j) a w) : Exit.then K Q (.exit j) a w := h
theorem block_normal (h : Q .normal a w) : Exit.inBlock id Q .normal a w := h
theorem block_ret (h : Q .ret a w) : Exit.inBlock id Q .ret a w := h
theorem block_exit (h : Q .normal a w) : Exit.inBlock id Q (.exit id) a w := by simpa [Exit.inBlock] using h
theorem block_out (hn : j ≠ id) (h : Q (.exit j) a w) : Exit.inBlock id Q (.exit j) a w := by simpa [Exit.inBlock, hn] using h
/-- A region that draws, over the objects. -/
theorem wp_region_M {L : List At} {H0 : Nat → Prop} {w0 : World} {i : Nat} {l : List Oper} (S : Nat → Prop) (plan : List (Nat × Nat)) (hm : P.follows .mixedOrders = true)
    (hp : (Region.noSelect l.toArray && (plan.length == l.toArray.size) && planB .any l.toArray (effs l.toArray) (fours plan) plan (Array.replicate l.toArray.size false)) = true) (hM : Mem L H0 w0 w)
    (h : ∀ W, Mem L H0 w0 W → wpS P l.toArray S (fun a' w' => Q .normal a' w') plan a W) : (Code.region i l.toArray true).wp P Q a w := wp_region_S S plan hm hp (h _ hM.drew)
theorem wp_region_N {i : Nat} {l : List Oper} (plan : List (Nat × Nat)) (hp : (plan.map (·.1) == List.range l.toArray.size) = true)
    (h : wpS P l.toArray (fun k => k ∈ ([] : List Nat)) (fun a' w' => Q .normal a' w') plan a w) : (Code.region i l.toArray false).wp P Q a w :=
  wp_region (by rw [← (by simpa using hp : plan.map (·.1) = List.range l.toArray.size)]; exact wpOps_of_S plan a w h)
/-- The result lies in a variable of its own. -/
theorem ret_cell {fn : Func} {p : Tmp} {ty tt : TypeId} {b : Nat} {cs : Array Value} {td : TypeDesc} {R : Ending → World → Prop} {L : List At} {H0 : Nat → Prop} {w0 : World} (h : fn.results = #[.cell p ty]) (hm : Mem L H0 w0 w) (k : Nat) (hk : L[k]? = some (boxT b (.cells cs tt (0, 0)))) (hp : a.tmps.getD p undef = .pointer (some ⟨b, 0, none⟩))
    (hu : P.underlying ty = some td) (hd : (match td with | .struct _ | .array _ _ => true | _ => false) = true) (hi : (P.info? ty).map (·.size) = some cs.size) (hdf : a.defers = []) (hR : R (.returned (.agg cs)) w) : bodyPost P fn R .ret a w :=
  bodyPost_ret (results_cell_row h a.tmps w b tt cs (0, 0) td hp (hm.box k hk) hu hd hi) hdf hR
theorem does_ret {v v' : Value} {M post : List At} {H : Nat → Prop} {w W : World} (hm : Mem M H w W) (hv : v' = v) (hp : M = post) : (Ending.returned v' = .returned v ∧ SEnd (stars post) H w W) := by
  subst hv hp
  exact ⟨rfl, hm⟩
theorem doesU_ret {v : Value} {M : List At} {post : Value → List At} {H : Nat → Prop} {w W : World} (hm : Mem M H w W) (hp : M = post v) : ∃ u, Ending.returned v = .returned u ∧ SEnd (stars (post u)) H w W := by
  subst hp
  exact ⟨v, rfl, hm⟩
end
end Go.Proofs.Ytnahhbpaijfpbaa
