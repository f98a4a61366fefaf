/- container/heap over any object whose methods keep what is known of it: what up gives. -/
import Derived.Test.YtcmidomgnbodiaaHeapMath
import Derived.Test.YtcmidomgnbodiaaLater
import Derived.Test.YtcmidomgnbodiaaProg
import Derived.LoopTactic
import Derived.Outline
import Derived.BigFrame
import Derived.BigGuard
namespace Go.Proofs.Ytcmidomgnbodiaa
open Go Go.RowKit

/-- A call of a method of an interface value. -/
def Via (P : Program) (h : Value) (name : String) (args : Array Value) (W : World) (Q : Ending → World → Prop) : Prop :=
  ∃ f args', (callMethod h name args).run P W = .ok (.enter f args') W ∧ Calls P f args' W Q
theorem Via.mono {P : Program} {h : Value} {name : String} {args : Array Value} {W : World} {Q Q' : Ending → World → Prop} (hv : Via P h name args W Q) (hq : ∀ e w, Q e w → Q' e w) : Via P h name args W Q' := by
  obtain ⟨f, args', h1, h2⟩ := hv
  exact ⟨f, args', h1, h2.mono hq⟩

/-- A call of a method as a step of a walk, guarded or not. -/
theorem wp_invoke {P : Program} {o : Oper} {a : Act} {W : World} {K : Act → World → Prop} {Q : Exit → Act → World → Prop} (recv : Operand) (name : String) (xs : Array Operand) (ts : Array TypeId)
    (ho : o.op = .call { callee := .invoke recv name, args := xs, argTypes := ts }) {h : Value} (hr : a.eval recv = h) {args : Array Value} (hx : xs.map a.eval = args) {R : Value → World → Prop}
    (hv : Via P h name args W fun e w' => ∃ v, e = .returned v ∧ R v w') (hK : ∀ v w', R v w' → K (a.put o.dst v) w') : o.wp P a W K Q := by
  obtain ⟨f, args', hcm, hC⟩ := hv
  have hex : (#[h] ++ args).extract 1 (#[h] ++ args).size = args := by
    apply Array.toList_inj.1
    simp
  have h0 : (#[h] ++ args)[0]? = some h := by rw [Array.getElem?_append_left (by simp)]; rfl
  have hrun : (execOp a.eval o).run P W = .ok (.enter f args') W := by
    unfold execOp
    simp only [ho, resolve, invoke, Sem.run_bind, Sem.run_pure, Result.andThen_ok, hr, hx, hex, h0]
    exact hcm
  unfold Oper.wp
  rw [hrun]
  exact hC.mono fun e w' ⟨v, he, hR⟩ => by subst he; exact hK v w' hR
theorem wpList_invoke0 {P : Program} {ops : Array Oper} {rest : List Oper} {o : Oper} {a : Act} {W : World} {Q : Exit → Act → World → Prop} (hw : Region.wanted o (yielded ops a.tmps) = true) (recv : Operand) (name : String) (ts : Array TypeId)
    (ho : o.op = .call { callee := .invoke recv name, args := #[], argTypes := ts }) {h : Value} (hr : a.eval recv = h) {R : Value → World → Prop}
    (hv : Via P h name #[] W fun e w' => ∃ v, e = .returned v ∧ R v w') (hK : ∀ v w', R v w' → wpList P ops Q rest (a.put o.dst v) w') : wpList P ops Q (o :: rest) a W :=
  BigFrame.wpList_want hw fun _ hk => wp_invoke recv name #[] ts ho hr (by simp) hv fun v w' h => hk _ _ (hK v w' h)
theorem wpList_invoke1 {P : Program} {ops : Array Oper} {rest : List Oper} {o : Oper} {a : Act} {W : World} {Q : Exit → Act → World → Prop} (hw : Region.wanted o (yielded ops a.tmps) = true) (recv : Operand) (name : String) (x0 : Operand) (ts : Array TypeId)
    (ho : o.op = .call { callee := .invoke recv name, args := #[x0], argTypes := ts }) {h v0 : Value} (hr : a.eval recv = h) (hx0 : a.eval x0 = v0) {R : Value → World → Prop}
    (hv : Via P h name #[v0] W fun e w' => ∃ v, e = .returned v ∧ R v w') (hK : ∀ v w', R v w' → wpList P ops Q rest (a.put o.dst v) w') : wpList P ops Q (o :: rest) a W :=
  BigFrame.wpList_want hw fun _ hk => wp_invoke recv name #[x0] ts ho hr (by simp [hx0]) hv fun v w' h => hk _ _ (hK v w' h)
theorem wpList_invoke2 {P : Program} {ops : Array Oper} {rest : List Oper} {o : Oper} {a : Act} {W : World} {Q : Exit → Act → World → Prop} (hw : Region.wanted o (yielded ops a.tmps) = true) (recv : Operand) (name : String) (x0 x1 : Operand) (ts : Array TypeId)
    (ho : o.op = .call { callee := .invoke recv name, args := #[x0, x1], argTypes := ts }) {h v0 v1 : Value} (hr : a.eval recv = h) (hx0 : a.eval x0 = v0) (hx1 : a.eval x1 = v1) {R : Value → World → Prop}
    (hv : Via P h name #[v0, v1] W fun e w' => ∃ v, e = .returned v ∧ R v w') (hK : ∀ v w', R v w' → wpList P ops Q rest (a.put o.dst v) w') : wpList P ops Q (o :: rest) a W :=
  BigFrame.wpList_want hw fun _ hk => wp_invoke recv name #[x0, x1] ts ho hr (by simp [hx0, hx1]) hv fun v w' h => hk _ _ (hK v w' h)

/-- A heap's object: R xs W: in W it holds xs. -/
structure HeapIf {α : Type} (P : Program) (h : Value) (less : α → α → Bool) (R : List α → World → Prop) : Prop where
  size : ∀ xs W, R xs W → xs.length ≤ 1000000000
  len : ∀ xs W, R xs W → Via P h "Len" #[] W fun e W' => e = .returned (.int .i64 xs.length) ∧ R xs W'
  less : ∀ xs W (i j : Nat) x y, R xs W → xs[i]? = some x → xs[j]? = some y → Via P h "Less" #[.int .i64 i, .int .i64 j] W fun e W' => e = .returned (.bool (less x y)) ∧ R xs W'
  swap : ∀ xs W (i j : Nat) x y, R xs W → xs[i]? = some x → xs[j]? = some y → Via P h "Swap" #[.int .i64 i, .int .i64 j] W fun e W' => (∃ v, e = .returned v) ∧ R (swapL xs i j) W'

section
variable {α : Type} {less : α → α → Bool} {R : List α → World → Prop} {h : Value}

/-- What sifting keeps of the list that it began with. -/
structure Kept (n : Nat) (xs xs' : List α) : Prop where
  perm : xs'.Perm xs
  out : ∀ k, n ≤ k → xs'[k]? = xs[k]?
theorem Kept.refl (n : Nat) (xs : List α) : Kept n xs xs := ⟨List.Perm.refl _, fun _ _ => rfl⟩
theorem Kept.swap {n : Nat} {xs xs' : List α} (hk : Kept n xs xs') {i j : Nat} (hi : i < n) (hj : j < n) (hn : n ≤ xs'.length) : Kept n xs (swapL xs' i j) :=
  ⟨(swapL_perm _ _ _).trans hk.perm, fun k hk' => by
    rw [swapL_at xs' (List.getElem?_eq_getElem (by omega : i < xs'.length)) (List.getElem?_eq_getElem (by omega : j < xs'.length)), if_neg (by omega), if_neg (by omega)]
    exact hk.out k hk'⟩

structure UpAt (less : α → α → Bool) (R : List α → World → Prop) (n : Nat) (xs : List α) (j : Nat) (xs' : List α) (W : World) : Prop where
  r : R xs' W
  kept : Kept n xs xs'
  inv : UpInv less n xs' j

def UpEnd (less : α → α → Bool) (R : List α → World → Prop) (n : Nat) (xs : List α) (e : Ending) (W' : World) : Prop := (∃ v, e = .returned v) ∧ ∃ xs', R xs' W' ∧ Kept n xs xs' ∧ IsHeap less n xs'

set_option maxHeartbeats 1000000 in
set_option maxRecDepth 100000 in
theorem up_any (ho : Ordered less) (hH : HeapIf Try.prog h less R) (n j : Nat) (xs : List α) (w : World) (hr : R xs w) (hu : UpInv less n xs j) :
    Calls Try.prog 30 #[h, .int .i64 j] w (UpEnd less R n xs) := by
  have H0 := Lib.hid (show UpAt less R n xs j xs w from ⟨hr, Kept.refl _ _, hu⟩)
  have HH := Lib.hid hH
  have HO := Lib.hid ho
  clear hr hu hH ho
  go_enter Try.func30, Try.ntmps30
  go_wp2_with fail
  go_loopw [1] (fun jv wr => ∃ (j : Nat) (xs' : List α), jv = .int .i64 j ∧ UpAt less R n xs j xs' wr) (fun jv _ => (intOf jv).toNat)
  case atStart => exact ⟨j, xs, rfl, H0.out⟩
  case round =>
    clear H0
    obtain ⟨j, xs', rfl, hu⟩ := hrel
    have hlen := HH.out.size _ _ hu.r
    have hjn := hu.inv.lt
    have hnl := hu.inv.le
    by_cases hj : j = 0
    · subst hj
      have HU := Lib.hid hu
      clear hu
      go_wp2_with fail
      go_end0
      exact ⟨⟨_, rfl⟩, xs', HU.out.r, HU.out.kept, HU.out.inv.done (.inl rfl)⟩
    · have hpj : par j < j := by unfold par; omega
      have hx : xs'[par j]? = some xs'[par j] := List.getElem?_eq_getElem (by omega)
      have hy : xs'[j]? = some xs'[j] := List.getElem?_eq_getElem (by omega)
      obtain ⟨x, hxe⟩ : ∃ x, xs'[par j] = x := ⟨_, rfl⟩
      obtain ⟨y, hye⟩ : ∃ y, xs'[j] = y := ⟨_, rfl⟩
      rw [hxe] at hx
      rw [hye] at hy
      have HL := Lib.hid ((HH.out.less xs' wr j (par j) y x hu.r hy hx).mono (Q' := fun e w' => ∃ v, e = .returned v ∧ v = .bool (less y x) ∧ R xs' w') fun e w' ⟨he, h⟩ => ⟨_, he, rfl, h⟩)
      have HU := Lib.hid hu
      have HX := Lib.hid hx
      have HY := Lib.hid hy
      clear hu hx hy hxe hye
      have hp1 : ((j : Int) - 1) / 2 = ((par j : Nat) : Int) := by unfold par; omega
      have hp2 : (((par j : Nat) : Int) == (j : Int)) = false := by simp; omega
      have hj1 : 1 ≤ (j : Int) := by omega
      have HP := Lib.hid hp1
      cases hless : less y x
      · rw [hless] at HL
        have HE := Lib.hid hless
        clear hless
        go_wp2_with (refine wpList_invoke2 rfl _ "Less" _ _ _ rfl rfl rfl (by first | rfl | (rw [HP.out]; rfl)) HL.out ?_; rintro _ w1 ⟨rfl, hr1⟩)
        go_end0
        exact ⟨⟨_, rfl⟩, xs', hr1, HU.out.kept, HU.out.inv.done (.inr ⟨x, y, HX.out, HY.out, HE.out⟩)⟩
      · rw [hless] at HL
        have HE := Lib.hid hless
        clear hless
        go_wp2_with (first | (refine wpList_invoke2 rfl _ "Less" _ _ _ rfl rfl rfl (by first | rfl | (rw [HP.out]; rfl)) HL.out ?_; rintro _ w1 ⟨rfl, hr1⟩; have HS := Lib.hid ((HH.out.swap xs' w1 (par j) j x y hr1 HX.out HY.out).mono (Q' := fun e w' => ∃ v, e = .returned v ∧ R (swapL xs' (par j) j) w') fun e w' ⟨⟨v, he⟩, h⟩ => ⟨v, he, h⟩)) | (refine wpList_invoke2 rfl _ "Swap" _ _ _ rfl rfl (by first | rfl | (rw [HP.out]; rfl)) rfl HS.out ?_; intro v w2 hr2))
        go_roundw
        case rel => exact ⟨par j, swapL xs' (par j) j, by first | rfl | rw [HP.out], hr2, HU.out.kept.swap (by omega) hjn hnl, HU.out.inv.step HO.out (by omega) HX.out HY.out HE.out⟩
        case measure => simp [intOf]; omega
end
end Go.Proofs.Ytcmidomgnbodiaa
