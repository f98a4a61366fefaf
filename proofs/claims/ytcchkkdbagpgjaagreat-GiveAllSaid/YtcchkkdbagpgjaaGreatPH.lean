/- PH: HeapMath, Heap, HeapDown, HeapOps, HeapRem, Via. -/
import Derived.Test.YtcchkkdbagpgjaaGreatPA
import Derived.Test.YtcchkkdbagpgjaaGreatProg
import Derived.WalkKit
import Derived.LoopTactic
import Derived.Outline
import Derived.BigFrame
import Derived.BigGuard
namespace Go.Proofs.YtcchkkdbagpgjaaGreat
open Go Go.RowKit
section
variable {α : Type}
def swapL (xs : List α) (i j : Nat) : List α :=
 match xs[i]?, xs[j]? with
 | some x, some y => (xs.set i y).set j x
 | _, _ => xs
theorem swapL_some {xs : List α} {i j : Nat} {x y : α} (hi : xs[i]? = some x) (hj : xs[j]? = some y) : swapL xs i j = (xs.set i y).set j x := by simp [swapL, hi, hj]
theorem swapL_len (xs : List α) (i j : Nat) : (swapL xs i j).length = xs.length := by unfold swapL; split <;> simp
theorem swapL_at (xs : List α) {i j : Nat} {x y : α} (hi : xs[i]? = some x) (hj : xs[j]? = some y) (k : Nat) : (swapL xs i j)[k]? = if k = j then some x else if k = i then some y else xs[k]? := by
 have h1 := (List.getElem?_eq_some_iff.1 hi).1
 have h2 := (List.getElem?_eq_some_iff.1 hj).1
 rw [swapL_some hi hj]
 by_cases hkj : k = j
 ·subst hkj; simp [h2]
 ·rw [if_neg hkj, List.getElem?_set_ne (Ne.symm hkj)]
  by_cases hki : k = i
  ·subst hki; simp [h1]
  ·rw [if_neg hki, List.getElem?_set_ne (Ne.symm hki)]
theorem swapL_perm (xs : List α) (i j : Nat) : (swapL xs i j).Perm xs := by
 unfold swapL
 split
 ·rename_i x y hi hj
  by_cases e : i = j
  ·subst e
   rw [hi] at hj
   obtain rfl := Option.some.inj hj
   obtain ⟨h1, rfl⟩ := List.getElem?_eq_some_iff.1 hi
   simp
  ·obtain ⟨h1, rfl⟩ := List.getElem?_eq_some_iff.1 hi
   obtain ⟨h2, rfl⟩ := List.getElem?_eq_some_iff.1 hj
   exact List.set_set_perm h1 h2
 ·exact List.Perm.refl _
structure Ordered (less : α → α → Bool) : Prop where
 asym : ∀ x y, less x y = true → less y x = false
 trans : ∀ x y z, less y x = false → less z y = false → less z x = false
variable {less : α → α → Bool}
def Le (less : α → α → Bool) (x y : α) : Prop := less y x = false
theorem Ordered.le_trans (h : Ordered less) {x y z : α} (a : Le less x y) (b : Le less y z) : Le less x z := h.trans x y z a b
theorem Ordered.le_of (h : Ordered less) {x y : α} (a : less x y = true) : Le less x y := h.asym x y a
def par (k : Nat) : Nat := (k - 1) / 2
def Holds (less : α → α → Bool) (n : Nat) (c : Nat → Prop) (xs : List α) : Prop := ∀ k, 0 < k → k < n → c k → ∀ x y, xs[par k]? = some x → xs[k]? = some y → Le less x y
def IsHeap (less : α → α → Bool) (n : Nat) (xs : List α) : Prop := Holds less n (fun _ => True) xs
structure UpInv (less : α → α → Bool) (n : Nat) (xs : List α) (j : Nat) : Prop where
 lt : j < n
 le : n ≤ xs.length
 a : Holds less n (fun k => k ≠ j) xs
 b : 0 < j → ∀ c, 0 < c → c < n → par c = j → ∀ x y, xs[par j]? = some x → xs[c]? = some y → Le less x y
theorem UpInv.done {n : Nat} {xs : List α} {j : Nat} (h : UpInv less n xs j) (h0 : j = 0 ∨ ∃ x y, xs[par j]? = some x ∧ xs[j]? = some y ∧ less y x = false) : IsHeap less n xs := by
 intro k hk hkn _ x y hx hy
 by_cases e : k = j
 ·subst e
  rcases h0 with h0 | ⟨x', y', hx', hy', hl⟩
  ·omega
  ·rw [hx] at hx'; rw [hy] at hy'
   obtain rfl := Option.some.inj hx'
   obtain rfl := Option.some.inj hy'
   exact hl
 ·exact h.a k hk hkn e x y hx hy
theorem UpInv.step (ho : Ordered less) {n : Nat} {xs : List α} {j : Nat} (h : UpInv less n xs j) (hj : 0 < j) {x y : α} (hx : xs[par j]? = some x) (hy : xs[j]? = some y) (hl : less y x = true) : UpInv less n (swapL xs (par j) j) (par j) := by
 have hpj : par j < j := by unfold par; omega
 have hat := swapL_at xs hx hy
 have hle := h.le
 have hlt := h.lt
 refine ⟨by omega, by rw [swapL_len]; exact h.le, ?_, ?_⟩
 ·intro k hk hkn hne u v hu hv
  have hpk : par k < k := by unfold par; omega
  rw [hat] at hu hv
  by_cases e1 : k = j
  ·subst e1
   rw [if_neg (by omega), if_pos rfl] at hu
   rw [if_pos rfl] at hv
   obtain rfl := Option.some.inj hu
   obtain rfl := Option.some.inj hv
   exact ho.le_of hl
  ·rw [if_neg e1, if_neg hne] at hv
   by_cases e2 : par k = j
   ·rw [if_pos e2] at hu
    obtain rfl := Option.some.inj hu
    exact h.b hj k hk hkn e2 _ _ hx hv
   ·rw [if_neg e2] at hu
    by_cases e3 : par k = par j
    ·rw [if_pos e3] at hu
     obtain rfl := Option.some.inj hu
     exact ho.le_trans (ho.le_of hl) (h.a k hk hkn e1 _ _ (by rw [e3]; exact hx) hv)
    ·rw [if_neg e3] at hu
     exact h.a k hk hkn e1 _ _ hu hv
 ·intro hp c hc hcn hpc u v hu hv
  have hpp : par (par j) < par j := by unfold par; unfold par at hp; omega
  rw [hat, if_neg (by omega), if_neg (by omega)] at hu
  rw [hat] at hv
  by_cases e1 : c = j
  ·rw [if_pos e1] at hv
   obtain rfl := Option.some.inj hv
   exact h.a (par j) hp (by omega) (by omega) _ _ hu hx
  ·have hpc' : par c < c := by unfold par; omega
   rw [if_neg e1, if_neg (by omega)] at hv
   have h1 : Le less u x := h.a (par j) hp (by omega) (by omega) _ _ hu hx
   exact ho.le_trans h1 (h.a c hc hcn e1 _ _ (by rw [hpc]; exact hx) hv)
structure DownInv (less : α → α → Bool) (lo n i0 : Nat) (xs : List α) (i : Nat) : Prop where
 le : n ≤ xs.length
 low : lo ≤ i0
 ge : i0 ≤ i
 a : Holds less n (fun k => lo ≤ par k ∧ par k ≠ i ∧ k ≠ i) xs
 b : 0 < i → lo ≤ par i → ∀ c, 0 < c → c < n → par c = i → ∀ x y, xs[par i]? = some x → xs[c]? = some y → Le less x y
 c : i ≠ i0 → lo ≤ par i → ∀ x y, xs[par i]? = some x → xs[i]? = some y → Le less x y
def Below2 (less : α → α → Bool) (n : Nat) (xs : List α) (i : Nat) : Prop := ∀ k, 0 < k → k < n → par k = i → ∀ x y, xs[i]? = some x → xs[k]? = some y → Le less x y
theorem DownInv.done {lo n i0 : Nat} {xs : List α} {i : Nat} (h : DownInv less lo n i0 xs i) (hb : Below2 less n xs i) : Holds less n (fun k => lo ≤ par k ∧ (i = i0 → k ≠ i0)) xs := by
 intro k hk hkn hc x y hx hy
 by_cases e1 : par k = i
 ·exact hb k hk hkn e1 x y (by rw [← e1]; exact hx) hy
 ·by_cases e2 : k = i
  ·subst e2
   exact h.c (fun e => hc.2 e e) hc.1 x y hx hy
  ·exact h.a k hk hkn ⟨hc.1, e1, e2⟩ x y hx hy
theorem par_left (i : Nat) : par (2 * i + 1) = i := by unfold par; omega
theorem par_right (i : Nat) : par (2 * i + 2) = i := by unfold par; omega
theorem par_eq {k i : Nat} (hk : 0 < k) (h : par k = i) : k = 2 * i + 1 ∨ k = 2 * i + 2 := by unfold par at h; omega
theorem DownInv.step (ho : Ordered less) {lo n i0 : Nat} {xs : List α} {i j : Nat} (h : DownInv less lo n i0 xs i) (hj0 : 0 < j) (hjn : j < n) (hpj : par j = i) {x y : α} (hx : xs[i]? = some x) (hy : xs[j]? = some y) (hl : less y x = true)
  (hbro : ∀ k, 0 < k → k < n → par k = i → ∀ z, xs[k]? = some z → Le less y z) : DownInv less lo n i0 (swapL xs i j) j := by
 have hij : i < j := by unfold par at hpj; omega
 have hat := swapL_at xs hx hy
 refine ⟨by rw [swapL_len]; exact h.le, h.low, by have := h.ge; omega, ?_, ?_, ?_⟩
 ·rintro k hk hkn ⟨hlo, hne1, hne2⟩ u v hu hv
  have hpk : par k < k := by unfold par; omega
  rw [hat, if_neg hne1] at hu
  rw [hat, if_neg hne2] at hv
  by_cases e1 : par k = i
  ·rw [if_pos e1] at hu
   obtain rfl := Option.some.inj hu
   rw [if_neg (by omega)] at hv
   exact hbro k hk hkn e1 _ hv
  ·rw [if_neg e1] at hu
   by_cases e2 : k = i
   ·subst e2
    rw [if_pos rfl] at hv
    obtain rfl := Option.some.inj hv
    exact h.b hk hlo j hj0 hjn hpj _ _ hu hy
   ·rw [if_neg e2] at hv
    exact h.a k hk hkn ⟨hlo, e1, e2⟩ _ _ hu hv
 ·intro _ hlo c hc hcn hpc u v hu hv
  have hpc' : par c < c := by unfold par; omega
  rw [hpj, hat, if_neg (by omega), if_pos rfl] at hu
  rw [hat, if_neg (by omega), if_neg (by omega)] at hv
  obtain rfl := Option.some.inj hu
  rw [hpj] at hlo
  exact h.a c hc hcn ⟨by omega, by omega, by omega⟩ _ _ (by rw [hpc]; exact hy) hv
 ·intro _ _ u v hu hv
  rw [hpj, hat, if_neg (by omega), if_pos rfl] at hu
  rw [hat, if_pos rfl] at hv
  obtain rfl := Option.some.inj hu
  obtain rfl := Option.some.inj hv
  exact ho.le_of hl
theorem IsHeap.first (ho : Ordered less) {n : Nat} {xs : List α} (h : IsHeap less n xs) (hn : n ≤ xs.length) {x : α} (hx : xs[0]? = some x) : ∀ k y, k < n → xs[k]? = some y → Le less x y := by
 intro k
 induction k using Nat.strongRecOn with
 | _ k ih =>
  intro y hk hy
  by_cases h0 : k = 0
  ·subst h0
   rw [hx] at hy
   obtain rfl := Option.some.inj hy
   cases hxx : less x x with
   | false => exact hxx
   | true => exact ho.asym x x hxx
  ·have hp : par k < k := by unfold par; omega
   have hpl : par k < xs.length := by omega
   have hz : xs[par k]? = some xs[par k] := List.getElem?_eq_getElem hpl
   exact ho.le_trans (ih (par k) hp _ (by omega) hz) (h k (by omega) hk trivial _ _ hz hy)
end
end Go.Proofs.YtcchkkdbagpgjaaGreat
namespace Go.Proofs.YtcchkkdbagpgjaaGreat
open Go Go.RowKit
def Via (P : Program) (h : Value) (name : String) (args : Array Value) (W : World) (Q : Ending → World → Prop) : Prop :=
 ∃ f args', (callMethod h name args).run P W = .ok (.enter f args') W ∧ Calls P f args' W Q
theorem Via.mono {P : Program} {h : Value} {name : String} {args : Array Value} {W : World} {Q Q' : Ending → World → Prop} (hv : Via P h name args W Q) (hq : ∀ e w, Q e w → Q' e w) : Via P h name args W Q' := by
 obtain ⟨f, args', h1, h2⟩ := hv
 exact ⟨f, args', h1, h2.mono hq⟩
theorem wp_invoke {P : Program} {o : Oper} {a : Act} {W : World} {K : Act → World → Prop} {Q : Exit → Act → World → Prop} (recv : Operand) (name : String) (xs : Array Operand) (ts : Array TypeId)
  (ho : o.op = .call { callee := .invoke recv name, args := xs, argTypes := ts }) {h : Value} (hr : a.eval recv = h) {args : Array Value} (hx : xs.map a.eval = args) {R : Value → World → Prop}
  (hv : Via P h name args W fun e w' => ∃ v, e = .returned v ∧ R v w') (hK : ∀ v w', R v w' → K (a.put o.dst v) w') : o.wp P a W K Q := by
 obtain ⟨f, args', hcm, hC⟩ := hv
 have hex : (#[h] ++ args).extract 1 (#[h] ++ args).size = args := by
  apply Array.toList_inj.1
  simp
 have h0 : (#[h] ++ args)[0]? = some h := by rw [Array.getElem?_append_left (by simp)]; rfl
 have hrun : (execOp a.eval o).run P W = .ok (.enter f args') W := by
  unfold execOp
  simp only [ho, resolve, invoke, Sem.run_bind, Sem.run_pure, Result.andThen_ok, hr, hx, hex, h0]
  exact hcm
 unfold Oper.wp
 rw [hrun]
 exact hC.mono fun e w' ⟨v, he, hR⟩ => by subst he; exact hK v w' hR
theorem wpList_invoke0 {P : Program} {ops : Array Oper} {rest : List Oper} {o : Oper} {a : Act} {W : World} {Q : Exit → Act → World → Prop} (hw : Region.wanted o (yielded ops a.tmps) = true) (recv : Operand) (name : String) (ts : Array TypeId)
  (ho : o.op = .call { callee := .invoke recv name, args := #[], argTypes := ts }) {h : Value} (hr : a.eval recv = h) {R : Value → World → Prop}
  (hv : Via P h name #[] W fun e w' => ∃ v, e = .returned v ∧ R v w') (hK : ∀ v w', R v w' → wpList P ops Q rest (a.put o.dst v) w') : wpList P ops Q (o :: rest) a W :=
 BigFrame.wpList_want hw fun _ hk => wp_invoke recv name #[] ts ho hr (by simp) hv fun v w' h => hk _ _ (hK v w' h)
theorem wpList_invoke1 {P : Program} {ops : Array Oper} {rest : List Oper} {o : Oper} {a : Act} {W : World} {Q : Exit → Act → World → Prop} (hw : Region.wanted o (yielded ops a.tmps) = true) (recv : Operand) (name : String) (x0 : Operand) (ts : Array TypeId)
  (ho : o.op = .call { callee := .invoke recv name, args := #[x0], argTypes := ts }) {h v0 : Value} (hr : a.eval recv = h) (hx0 : a.eval x0 = v0) {R : Value → World → Prop}
  (hv : Via P h name #[v0] W fun e w' => ∃ v, e = .returned v ∧ R v w') (hK : ∀ v w', R v w' → wpList P ops Q rest (a.put o.dst v) w') : wpList P ops Q (o :: rest) a W :=
 BigFrame.wpList_want hw fun _ hk => wp_invoke recv name #[x0] ts ho hr (by simp [hx0]) hv fun v w' h => hk _ _ (hK v w' h)
theorem wpList_invoke2 {P : Program} {ops : Array Oper} {rest : List Oper} {o : Oper} {a : Act} {W : World} {Q : Exit → Act → World → Prop} (hw : Region.wanted o (yielded ops a.tmps) = true) (recv : Operand) (name : String) (x0 x1 : Operand) (ts : Array TypeId)
  (ho : o.op = .call { callee := .invoke recv name, args := #[x0, x1], argTypes := ts }) {h v0 v1 : Value} (hr : a.eval recv = h) (hx0 : a.eval x0 = v0) (hx1 : a.eval x1 = v1) {R : Value → World → Prop}
  (hv : Via P h name #[v0, v1] W fun e w' => ∃ v, e = .returned v ∧ R v w') (hK : ∀ v w', R v w' → wpList P ops Q rest (a.put o.dst v) w') : wpList P ops Q (o :: rest) a W :=
 BigFrame.wpList_want hw fun _ hk => wp_invoke recv name #[x0, x1] ts ho hr (by simp [hx0, hx1]) hv fun v w' h => hk _ _ (hK v w' h)
structure HeapIf {α : Type} (P : Program) (h : Value) (less : α → α → Bool) (R : List α → World → Prop) : Prop where
 size : ∀ xs W, R xs W → xs.length ≤ 1000000000
 len : ∀ xs W, R xs W → Via P h "Len" #[] W fun e W' => e = .returned (.int .i64 xs.length) ∧ R xs W'
 less : ∀ xs W (i j : Nat) x y, R xs W → xs[i]? = some x → xs[j]? = some y → Via P h "Less" #[.int .i64 i, .int .i64 j] W fun e W' => e = .returned (.bool (less x y)) ∧ R xs W'
 swap : ∀ xs W (i j : Nat) x y, R xs W → xs[i]? = some x → xs[j]? = some y → Via P h "Swap" #[.int .i64 i, .int .i64 j] W fun e W' => (∃ v, e = .returned v) ∧ R (swapL xs i j) W'
section
variable {α : Type} {less : α → α → Bool} {R : List α → World → Prop} {h : Value}
structure Hkept (n : Nat) (xs xs' : List α) : Prop where
 perm : xs'.Perm xs
 out : ∀ k, n ≤ k → xs'[k]? = xs[k]?
theorem Hkept.refl (n : Nat) (xs : List α) : Hkept n xs xs := ⟨List.Perm.refl _, fun _ _ => rfl⟩
theorem Hkept.swap {n : Nat} {xs xs' : List α} (hk : Hkept n xs xs') {i j : Nat} (hi : i < n) (hj : j < n) (hn : n ≤ xs'.length) : Hkept n xs (swapL xs' i j) :=
 ⟨(swapL_perm _ _ _).trans hk.perm, fun k hk' => by
  rw [swapL_at xs' (List.getElem?_eq_getElem (by omega : i < xs'.length)) (List.getElem?_eq_getElem (by omega : j < xs'.length)), if_neg (by omega), if_neg (by omega)]
  exact hk.out k hk'⟩
structure UpAt (less : α → α → Bool) (R : List α → World → Prop) (n : Nat) (xs : List α) (j : Nat) (xs' : List α) (W : World) : Prop where
 r : R xs' W
 kept : Hkept n xs xs'
 inv : UpInv less n xs' j
def UpEnd (less : α → α → Bool) (R : List α → World → Prop) (n : Nat) (xs : List α) (e : Ending) (W' : World) : Prop := (∃ v, e = .returned v) ∧ ∃ xs', R xs' W' ∧ Hkept n xs xs' ∧ IsHeap less n xs'
set_option maxHeartbeats 1000000 in
set_option maxRecDepth 100000 in
theorem up_any (ho : Ordered less) (hH : HeapIf Tryz.prog h less R) (n j : Nat) (xs : List α) (w : World) (hr : R xs w) (hu : UpInv less n xs j) :
  Calls Tryz.prog 97 #[h, .int .i64 j] w (UpEnd less R n xs) := by
 have H0 := Lib.hid (show UpAt less R n xs j xs w from ⟨hr, Hkept.refl _ _, hu⟩)
 have HH := Lib.hid hH
 have HO := Lib.hid ho
 clear hr hu hH ho
 go_enter Tryz.func97, Tryz.ntmps97
 go_wp2_with fail
 go_loopw [1] (fun jv wr => ∃ (j : Nat) (xs' : List α), jv = .int .i64 j ∧ UpAt less R n xs j xs' wr) (fun jv _ => (intOf jv).toNat)
 case atStart => exact ⟨j, xs, rfl, H0.out⟩
 case round =>
  clear H0
  obtain ⟨j, xs', rfl, hu⟩ := hrel
  have hlen := HH.out.size _ _ hu.r
  have hjn := hu.inv.lt
  have hnl := hu.inv.le
  by_cases hj : j = 0
  ·subst hj
   have HU := Lib.hid hu
   clear hu
   go_wp2_with fail
   go_end0
   exact ⟨⟨_, rfl⟩, xs', HU.out.r, HU.out.kept, HU.out.inv.done (.inl rfl)⟩
  ·have hpj : par j < j := by unfold par; omega
   have hx : xs'[par j]? = some xs'[par j] := List.getElem?_eq_getElem (by omega)
   have hy : xs'[j]? = some xs'[j] := List.getElem?_eq_getElem (by omega)
   obtain ⟨x, hxe⟩ : ∃ x, xs'[par j] = x := ⟨_, rfl⟩
   obtain ⟨y, hye⟩ : ∃ y, xs'[j] = y := ⟨_, rfl⟩
   rw [hxe] at hx
   rw [hye] at hy
   have HL := Lib.hid ((HH.out.less xs' wr j (par j) y x hu.r hy hx).mono (Q' := fun e w' => ∃ v, e = .returned v ∧ v = .bool (less y x) ∧ R xs' w') fun e w' ⟨he, h⟩ => ⟨_, he, rfl, h⟩)
   have HU := Lib.hid hu
   have HX := Lib.hid hx
   have HY := Lib.hid hy
   clear hu hx hy hxe hye
   have hp1 : ((j : Int) - 1) / 2 = ((par j : Nat) : Int) := by unfold par; omega
   have hp2 : (((par j : Nat) : Int) == (j : Int)) = false := by simp; omega
   have hj1 : 1 ≤ (j : Int) := by omega
   have HP := Lib.hid hp1
   cases hless : less y x
   ·rw [hless] at HL
    have HE := Lib.hid hless
    clear hless
    go_wp2_with (refine wpList_invoke2 rfl _ "Less" _ _ _ rfl rfl rfl (by first | rfl | (rw [HP.out]; rfl)) HL.out ?_; rintro _ w1 ⟨rfl, hr1⟩)
    go_end0
    exact ⟨⟨_, rfl⟩, xs', hr1, HU.out.kept, HU.out.inv.done (.inr ⟨x, y, HX.out, HY.out, HE.out⟩)⟩
   ·rw [hless] at HL
    have HE := Lib.hid hless
    clear hless
    go_wp2_with (first | (refine wpList_invoke2 rfl _ "Less" _ _ _ rfl rfl rfl (by first | rfl | (rw [HP.out]; rfl)) HL.out ?_; rintro _ w1 ⟨rfl, hr1⟩; have HS := Lib.hid ((HH.out.swap xs' w1 (par j) j x y hr1 HX.out HY.out).mono (Q' := fun e w' => ∃ v, e = .returned v ∧ R (swapL xs' (par j) j) w') fun e w' ⟨⟨v, he⟩, h⟩ => ⟨v, he, h⟩)) | (refine wpList_invoke2 rfl _ "Swap" _ _ _ rfl rfl (by first | rfl | (rw [HP.out]; rfl)) rfl HS.out ?_; intro v w2 hr2))
    go_roundw
    case rel => exact ⟨par j, swapL xs' (par j) j, by first | rfl | rw [HP.out], hr2, HU.out.kept.swap (by omega) hjn hnl, HU.out.inv.step HO.out (by omega) HX.out HY.out HE.out⟩
    case measure => simp [intOf]; omega
end
end Go.Proofs.YtcchkkdbagpgjaaGreat
namespace Go.Proofs.YtcchkkdbagpgjaaGreat
open Go Go.RowKit
section
variable {α : Type} {less : α → α → Bool} {R : List α → World → Prop} {h : Value}
structure DownAt (less : α → α → Bool) (R : List α → World → Prop) (lo n i0 : Nat) (xs : List α) (i : Nat) (xs' : List α) (W : World) : Prop where
 r : R xs' W
 kept : Hkept n xs xs'
 inv : DownInv less lo n i0 xs' i
 still : i = i0 → xs' = xs
def DownEnd (less : α → α → Bool) (R : List α → World → Prop) (lo n i0 : Nat) (xs : List α) (e : Ending) (W' : World) : Prop :=
 ∃ (b : Bool) (xs' : List α), e = .returned (.bool b) ∧ R xs' W' ∧ Hkept n xs xs' ∧ (b = true → Holds less n (fun k => lo ≤ par k) xs') ∧ (b = false → xs' = xs ∧ Holds less n (fun k => lo ≤ par k ∧ k ≠ i0) xs')
theorem downEnd_mk {lo n i0 : Nat} {xs : List α} {i : Nat} {xs' : List α} {W : World} {b : Bool} (hd : DownAt less R lo n i0 xs i xs' W) (hb : Below2 less n xs' i) (he : b = decide (i0 < i)) : DownEnd less R lo n i0 xs (.returned (.bool b)) W := by
 have h1 := hd.inv.done hb
 have h2 := hd.inv.ge
 refine ⟨b, xs', rfl, hd.r, hd.kept, fun e => ?_, fun e => ?_⟩
 ·rw [he, decide_eq_true_eq] at e
  exact fun k hk hkn hc => h1 k hk hkn ⟨hc, fun e' => by omega⟩
 ·rw [he, decide_eq_false_iff_not] at e
  have e' : i = i0 := by omega
  exact ⟨hd.still e', fun k hk hkn hc => h1 k hk hkn ⟨hc.1, fun _ => hc.2⟩⟩
set_option maxHeartbeats 4000000 in
set_option maxRecDepth 100000 in
theorem down_any (ho : Ordered less) (hH : HeapIf Tryz.prog h less R) (lo n i0 : Nat) (xs : List α) (w : World) (hr : R xs w) (hu : DownInv less lo n i0 xs i0) (hi0 : i0 ≤ n) :
  Calls Tryz.prog 96 #[h, .int .i64 i0, .int .i64 n] w (DownEnd less R lo n i0 xs) := by
 have H0 := Lib.hid (show DownAt less R lo n i0 xs i0 xs w from ⟨hr, Hkept.refl _ _, hu, fun _ => rfl⟩)
 have HH := Lib.hid hH
 have HO := Lib.hid ho
 have hsz := hH.size _ _ hr
 have hnx := hu.le
 clear hr hu hH ho
 go_enter Tryz.func96, Tryz.ntmps96
 go_wp2_with fail
 go_loopw [7] (fun iv wr => ∃ (i : Nat) (xs' : List α), i ≤ n ∧ iv = .int .i64 i ∧ DownAt less R lo n i0 xs i xs' wr) (fun iv _ => n - (intOf iv).toNat)
 case atStart => exact ⟨i0, xs, hi0, rfl, H0.out⟩
 case round =>
  clear H0
  obtain ⟨i, xs', hin, rfl, hu⟩ := hrel
  have hlen := HH.out.size _ _ hu.r
  have hnl := hu.inv.le
  have hge := hu.inv.ge
  obtain ⟨j1, hj1⟩ : ∃ j : Nat, j = 2 * i + 1 := ⟨_, rfl⟩
  obtain ⟨j2, hj2⟩ : ∃ j : Nat, j = 2 * i + 2 := ⟨_, rfl⟩
  have hq1 : 2 * (i : Int) + 1 = (j1 : Int) := by omega
  have hq2 : (j1 : Int) + 1 = (j2 : Int) := by omega
  have P1 := Lib.hid (show par j1 = i by rw [hj1]; exact par_left i)
  have P2 := Lib.hid (show par j2 = i by rw [hj2]; exact par_right i)
  have HK := Lib.hid (show ∀ k, 0 < k → par k = i → k = j1 ∨ k = j2 from fun k hk hp => by rw [hj1, hj2]; exact par_eq hk hp)
  have hij1 : i < j1 := by omega
  have hj12 : j1 < j2 := by omega
  have hj2b : j2 ≤ 2 * i + 2 := by omega
  clear hj1 hj2
  by_cases hlt1 : j1 < n
  ·have hx : xs'[i]? = some xs'[i] := List.getElem?_eq_getElem (by omega)
   have hy : xs'[j1]? = some xs'[j1] := List.getElem?_eq_getElem (by omega)
   obtain ⟨x, hxe⟩ : ∃ x, xs'[i] = x := ⟨_, rfl⟩
   obtain ⟨y, hye⟩ : ∃ y, xs'[j1] = y := ⟨_, rfl⟩
   rw [hxe] at hx
   rw [hye] at hy
   have HU := Lib.hid hu
   have HX := Lib.hid hx
   have HY := Lib.hid hy
   clear hu hx hy hxe hye
   -- the child that is compared with i, in whatever world
   have HLess : Hid (∀ (a b : Nat) u v W, R xs' W → xs'[a]? = some u → xs'[b]? = some v → Via Tryz.prog h "Less" #[.int .i64 a, .int .i64 b] W fun e w' => ∃ r, e = .returned r ∧ r = .bool (less u v) ∧ R xs' w') :=
    Lib.hid fun a b u v W hr ha hb => (HH.out.less xs' W a b u v hr ha hb).mono fun e w' ⟨he, hR⟩ => ⟨_, he, rfl, hR⟩
   have HSwap : Hid (∀ (b : Nat) v W, R xs' W → xs'[b]? = some v → Via Tryz.prog h "Swap" #[.int .i64 i, .int .i64 b] W fun e w' => ∃ r, e = .returned r ∧ R (swapL xs' i b) w') :=
    Lib.hid fun b v W hr hb => (HH.out.swap xs' W i b x v hr HX.out hb).mono fun e w' ⟨⟨r, he⟩, hR⟩ => ⟨r, he, hR⟩
   have HStep : Hid (∀ (j : Nat) v W, 0 < j → j < n → par j = i → xs'[j]? = some v → less v x = true → (∀ k, 0 < k → k < n → par k = i → ∀ z, xs'[k]? = some z → Le less v z) → R (swapL xs' i j) W → DownAt less R lo n i0 xs j (swapL xs' i j) W) :=
    Lib.hid fun j v W h0 hjn hp hv hl hbro hR => ⟨hR, HU.out.kept.swap (by omega) hjn hnl, HU.out.inv.step HO.out h0 hjn hp HX.out hv hl hbro, fun e => by exfalso; have : par j < j := (by unfold par; omega); omega⟩
   have HEnd : Hid (∀ v W, R xs' W → less v x = false → (∀ k, 0 < k → k < n → par k = i → ∀ z, xs'[k]? = some z → Le less v z) → ∀ b, b = decide (i0 < i) → DownEnd less R lo n i0 xs (.returned (.bool b)) W) :=
    Lib.hid fun v W hR hl hbro b hb => downEnd_mk ⟨hR, HU.out.kept, HU.out.inv, HU.out.still⟩ (fun k hk hkn hp u z hu hz => by
     rw [HX.out] at hu
     obtain rfl := Option.some.inj hu
     exact HO.out.le_trans hl (hbro k hk hkn hp z hz)) hb
   by_cases hlt2 : j2 < n
   ·have hz : xs'[j2]? = some xs'[j2] := List.getElem?_eq_getElem (by omega)
    obtain ⟨z, hze⟩ : ∃ z, xs'[j2] = z := ⟨_, rfl⟩
    rw [hze] at hz
    have HZ := Lib.hid hz
    clear hz hze
    have HL0 := Lib.hid (HLess.out j2 j1 z y wr HU.out.r HZ.out HY.out)
    cases hbl : less z y
    ·rw [hbl] at HL0
     have HBro : Hid (∀ k, 0 < k → k < n → par k = i → ∀ u, xs'[k]? = some u → Le less y u) := Lib.hid fun k hk hkn hp u hu => by
      rcases HK.out k hk hp with e | e
      ·rw [e, HY.out] at hu
       obtain rfl := Option.some.inj hu
       cases hyy : less y y with
       | false => exact hyy
       | true => exact HO.out.asym y y hyy
      ·rw [e, HZ.out] at hu
       obtain rfl := Option.some.inj hu
       exact hbl
     clear hbl
     cases hless : less y x
     ·have HE := Lib.hid hless
      have HL := Lib.hid (fun W hr => HLess.out j1 i y x W hr HY.out HX.out)
      rw [hless] at HL
      clear hless
      by_cases hmv : i0 < i
      ·go_wp2_with (first | (refine wpList_invoke2 rfl _ "Less" _ _ _ rfl rfl rfl rfl HL0.out ?_; rintro _ w1 ⟨rfl, hr1⟩) | (refine wpList_invoke2 rfl _ "Less" _ _ _ rfl rfl rfl rfl (HL.out _ hr1) ?_; rintro _ w2 ⟨rfl, hr2⟩))
       go_ret
       exact HEnd.out y _ hr2 HE.out HBro.out _ (by simp; omega)
      ·go_wp2_with (first | (refine wpList_invoke2 rfl _ "Less" _ _ _ rfl rfl rfl rfl HL0.out ?_; rintro _ w1 ⟨rfl, hr1⟩) | (refine wpList_invoke2 rfl _ "Less" _ _ _ rfl rfl rfl rfl (HL.out _ hr1) ?_; rintro _ w2 ⟨rfl, hr2⟩))
       go_ret
       exact HEnd.out y _ hr2 HE.out HBro.out _ (by simp; omega)
     ·have HE := Lib.hid hless
      have HL := Lib.hid (fun W hr => HLess.out j1 i y x W hr HY.out HX.out)
      rw [hless] at HL
      clear hless
      go_wp2_with (first | (refine wpList_invoke2 rfl _ "Less" _ _ _ rfl rfl rfl rfl HL0.out ?_; rintro _ w1 ⟨rfl, hr1⟩) | (refine wpList_invoke2 rfl _ "Less" _ _ _ rfl rfl rfl rfl (HL.out _ hr1) ?_; rintro _ w2 ⟨rfl, hr2⟩) | (refine wpList_invoke2 rfl _ "Swap" _ _ _ rfl rfl rfl rfl (HSwap.out j1 y _ hr2 HY.out) ?_; intro v w3 hr3))
      go_roundw
      case rel => exact ⟨j1, swapL xs' i j1, by omega, rfl, HStep.out j1 y _ (by omega) (by omega) P1.out HY.out HE.out HBro.out hr3⟩
      case measure => simp [intOf]; omega
    ·rw [hbl] at HL0
     have HBro : Hid (∀ k, 0 < k → k < n → par k = i → ∀ u, xs'[k]? = some u → Le less z u) := Lib.hid fun k hk hkn hp u hu => by
      rcases HK.out k hk hp with e | e
      ·rw [e, HY.out] at hu
       obtain rfl := Option.some.inj hu
       exact HO.out.le_of hbl
      ·rw [e, HZ.out] at hu
       obtain rfl := Option.some.inj hu
       cases hyy : less z z with
       | false => exact hyy
       | true => exact HO.out.asym z z hyy
     clear hbl
     cases hless : less z x
     ·have HE := Lib.hid hless
      have HL := Lib.hid (fun W hr => HLess.out j2 i z x W hr HZ.out HX.out)
      rw [hless] at HL
      clear hless
      by_cases hmv : i0 < i
      ·go_wp2_with (first | (refine wpList_invoke2 rfl _ "Less" _ _ _ rfl rfl rfl rfl HL0.out ?_; rintro _ w1 ⟨rfl, hr1⟩) | (refine wpList_invoke2 rfl _ "Less" _ _ _ rfl rfl rfl rfl (HL.out _ hr1) ?_; rintro _ w2 ⟨rfl, hr2⟩))
       go_ret
       exact HEnd.out z _ hr2 HE.out HBro.out _ (by simp; omega)
      ·go_wp2_with (first | (refine wpList_invoke2 rfl _ "Less" _ _ _ rfl rfl rfl rfl HL0.out ?_; rintro _ w1 ⟨rfl, hr1⟩) | (refine wpList_invoke2 rfl _ "Less" _ _ _ rfl rfl rfl rfl (HL.out _ hr1) ?_; rintro _ w2 ⟨rfl, hr2⟩))
       go_ret
       exact HEnd.out z _ hr2 HE.out HBro.out _ (by simp; omega)
     ·have HE := Lib.hid hless
      have HL := Lib.hid (fun W hr => HLess.out j2 i z x W hr HZ.out HX.out)
      rw [hless] at HL
      clear hless
      go_wp2_with (first | (refine wpList_invoke2 rfl _ "Less" _ _ _ rfl rfl rfl rfl HL0.out ?_; rintro _ w1 ⟨rfl, hr1⟩) | (refine wpList_invoke2 rfl _ "Less" _ _ _ rfl rfl rfl rfl (HL.out _ hr1) ?_; rintro _ w2 ⟨rfl, hr2⟩) | (refine wpList_invoke2 rfl _ "Swap" _ _ _ rfl rfl rfl rfl (HSwap.out j2 z _ hr2 HZ.out) ?_; intro v w3 hr3))
      go_roundw
      case rel => exact ⟨j2, swapL xs' i j2, by omega, rfl, HStep.out j2 z _ (by omega) (by omega) P2.out HZ.out HE.out HBro.out hr3⟩
      case measure => simp [intOf]; omega
   ·have HBro : Hid (∀ k, 0 < k → k < n → par k = i → ∀ z, xs'[k]? = some z → Le less y z) := Lib.hid fun k hk hkn hp z hz => by
     rcases HK.out k hk hp with e | e
     ·rw [e, HY.out] at hz
      obtain rfl := Option.some.inj hz
      cases hyy : less y y with
      | false => exact hyy
      | true => exact HO.out.asym y y hyy
     ·omega
    cases hless : less y x
    ·have HE := Lib.hid hless
     have HL := Lib.hid (HLess.out j1 i y x wr HU.out.r HY.out HX.out)
     rw [hless] at HL
     clear hless
     by_cases hmv : i0 < i
     ·go_wp2_with (refine wpList_invoke2 rfl _ "Less" _ _ _ rfl rfl rfl rfl HL.out ?_; rintro _ w1 ⟨rfl, hr1⟩)
      go_ret
      exact HEnd.out y _ hr1 HE.out HBro.out _ (by simp; omega)
     ·go_wp2_with (refine wpList_invoke2 rfl _ "Less" _ _ _ rfl rfl rfl rfl HL.out ?_; rintro _ w1 ⟨rfl, hr1⟩)
      go_ret
      exact HEnd.out y _ hr1 HE.out HBro.out _ (by simp; omega)
    ·have HE := Lib.hid hless
     have HL := Lib.hid (HLess.out j1 i y x wr HU.out.r HY.out HX.out)
     rw [hless] at HL
     clear hless
     go_wp2_with (first | (refine wpList_invoke2 rfl _ "Less" _ _ _ rfl rfl rfl rfl HL.out ?_; rintro _ w1 ⟨rfl, hr1⟩) | (refine wpList_invoke2 rfl _ "Swap" _ _ _ rfl rfl rfl rfl (HSwap.out j1 y _ hr1 HY.out) ?_; intro v w2 hr2))
     go_roundw
     case rel => exact ⟨j1, swapL xs' i j1, by omega, rfl, HStep.out j1 y _ (by omega) hlt1 P1.out HY.out HE.out HBro.out hr2⟩
     case measure => simp [intOf]; omega
  ·have HU := Lib.hid hu
   clear hu
   have HB : Hid (Below2 less n xs' i) := Lib.hid fun k hk hkn hp => by
    rcases HK.out k hk hp with e | e <;> omega
   by_cases hmv : i0 < i
   ·go_wp2_with fail
    go_ret
    exact downEnd_mk HU.out HB.out (by simp; omega)
   ·go_wp2_with fail
    go_ret
    exact downEnd_mk HU.out HB.out (by simp; omega)
end
end Go.Proofs.YtcchkkdbagpgjaaGreat
namespace Go.Proofs.YtcchkkdbagpgjaaGreat
open Go Go.RowKit
section
variable {α : Type} {less : α → α → Bool} {R : List α → World → Prop} {h : Value} {enc : α → Value}
structure HeapEnds {α : Type} (P : Program) (h : Value) (enc : α → Value) (cap : Nat) (R : List α → World → Prop) : Prop where
 push : ∀ xs x W, R xs W → xs.length < cap → Via P h "Push" #[enc x] W fun e W' => (∃ v, e = .returned v) ∧ R (xs ++ [x]) W'
 pop : ∀ xs x W, R (xs ++ [x]) W → Via P h "Pop" #[] W fun e W' => e = .returned (enc x) ∧ R xs W'
structure HeapPops {α : Type} (P : Program) (h : Value) (enc : α → Value) (R : List α → World → Prop) : Prop where
 pop : ∀ xs x W, R (xs ++ [x]) W → Via P h "Pop" #[] W fun e W' => e = .returned (enc x) ∧ R xs W'
theorem HeapEnds.pops {α : Type} {P : Program} {h : Value} {enc : α → Value} {cap : Nat} {R : List α → World → Prop} (hE : HeapEnds P h enc cap R) : HeapPops P h enc R := ⟨hE.pop⟩
theorem get_last (xs : List α) (x : α) : (xs ++ [x])[xs.length]? = some x := by simp
theorem IsHeap.upInv {xs : List α} (x : α) (hh : IsHeap less xs.length xs) : UpInv less (xs.length + 1) (xs ++ [x]) xs.length := by
 refine ⟨by omega, by simp, ?_, ?_⟩
 ·intro k hk hkn hne u v hu hv
  have hp : par k < k := by unfold par; omega
  rw [List.getElem?_append_left (by omega)] at hu hv
  exact hh k hk (by omega) trivial u v hu hv
 ·intro h0 c hc hcn hpc
  have hp : par c < c := by unfold par; omega
  omega
structure FixPre (less : α → α → Bool) (n : Nat) (xs : List α) (i : Nat) : Prop where
 a : Holds less n (fun k => par k ≠ i ∧ k ≠ i) xs
 b : 0 < i → ∀ c, 0 < c → c < n → par c = i → ∀ x y, xs[par i]? = some x → xs[c]? = some y → Le less x y
theorem fixPre_set (ho : Ordered less) {xs : List α} {n i : Nat} (z : α) (hh : IsHeap less n xs) (hi : i < n) (hn : n ≤ xs.length) : FixPre less n (xs.set i z) i := by
 refine ⟨?_, ?_⟩
 ·rintro k hk hkn ⟨h1, h2⟩ u v hu hv
  rw [List.getElem?_set_ne (Ne.symm h1)] at hu
  rw [List.getElem?_set_ne (Ne.symm h2)] at hv
  exact hh k hk hkn trivial u v hu hv
 ·intro h0 c hc hcn hpc u v hu hv
  have hp : par c < c := by unfold par; omega
  have hpi : par i < i := by unfold par; omega
  rw [List.getElem?_set_ne (by omega)] at hu hv
  have hx : xs[i]? = some xs[i] := List.getElem?_eq_getElem (by omega)
  exact ho.le_trans (hh i h0 (by omega) trivial _ _ hu hx) (hh c hc hcn trivial _ _ (by rw [hpc]; exact hx) hv)
theorem FixPre.down {n i : Nat} {xs : List α} (hf : FixPre less n xs i) (hn : n ≤ xs.length) : DownInv less 0 n i xs i :=
 ⟨hn, Nat.zero_le _, Nat.le_refl _, fun k hk hkn hc => hf.a k hk hkn ⟨hc.2.1, hc.2.2⟩, fun h0 _ => hf.b h0, fun h0 => (h0 rfl).elim⟩
theorem FixPre.up {n i : Nat} {xs : List α} (hf : FixPre less n xs i) (hi : i < n) (hn : n ≤ xs.length) (hd : Holds less n (fun k => 0 ≤ par k ∧ k ≠ i) xs) : UpInv less n xs i :=
 ⟨hi, hn, fun k hk hkn hc => hd k hk hkn ⟨Nat.zero_le _, hc⟩, hf.b⟩
theorem heap_of_holds {n : Nat} {xs : List α} (hd : Holds less n (fun k => 0 ≤ par k) xs) : IsHeap less n xs := fun k hk hkn _ => hd k hk hkn (Nat.zero_le _)
def HeapEnd (less : α → α → Bool) (R : List α → World → Prop) (ys : List α) (e : Ending) (W' : World) : Prop := (∃ v, e = .returned v) ∧ ∃ xs', R xs' W' ∧ xs'.Perm ys ∧ IsHeap less xs'.length xs'
def PopEnd (less : α → α → Bool) (R : List α → World → Prop) (enc : α → Value) (ys : List α) (e : Ending) (W' : World) : Prop :=
 ∃ x xs', e = .returned (enc x) ∧ R xs' W' ∧ (x :: xs').Perm ys ∧ (∀ y ∈ ys, Le less x y) ∧ IsHeap less xs'.length xs'
set_option maxHeartbeats 1000000 in
set_option maxRecDepth 100000 in
theorem heapPush_of (ho : Ordered less) (hH : HeapIf Tryz.prog h less R) (xs : List α) (x : α) (w : World) (hr : R xs w) (hh : IsHeap less xs.length xs) (hP : Via Tryz.prog h "Push" #[enc x] w fun e w' => (∃ v, e = .returned v) ∧ R (xs ++ [x]) w') :
  Calls Tryz.prog 88 #[h, enc x] w (HeapEnd less R (xs ++ [x])) := by
 have HP := Lib.hid (hP.mono (Q' := fun e w' => ∃ v, e = .returned v ∧ R (xs ++ [x]) w') fun e w' ⟨⟨v, he⟩, h⟩ => ⟨v, he, h⟩)
 have HL : Hid (∀ W, R (xs ++ [x]) W → Via Tryz.prog h "Len" #[] W fun e w' => ∃ v, e = .returned v ∧ v = .int .i64 (xs.length + 1) ∧ R (xs ++ [x]) w') := Lib.hid fun W hr => (hH.len _ W hr).mono fun e w' ⟨he, hR⟩ => ⟨_, he, by simp, hR⟩
 have HU : Hid (∀ W, R (xs ++ [x]) W → Calls Tryz.prog 97 #[h, .int .i64 xs.length] W fun e W' => (∃ v, e = .returned v) ∧ Hid (∃ xs', R xs' W' ∧ xs'.Perm (xs ++ [x]) ∧ IsHeap less xs'.length xs')) :=
  Lib.hid fun W hr => (up_any ho hH (xs.length + 1) xs.length (xs ++ [x]) W hr (hh.upInv x)).mono fun e W' ⟨hv, xs', hR, hk, hi⟩ => ⟨hv, Lib.hid ⟨xs', hR, hk.perm, by
   have := hk.perm.length_eq
   simp only [List.length_append, List.length_cons, List.length_nil] at this
   rw [this]; exact hi⟩⟩
 have hsz := hH.size _ _ hr
 clear hP hH ho hr hh
 go_enter Tryz.func88, Tryz.ntmps88
 go_wp2_with (first | (refine wpList_invoke1 rfl _ "Push" _ _ rfl rfl rfl HP.out ?_; intro v w1 hr1) | (refine wpList_invoke0 rfl _ "Len" _ rfl rfl (HL.out _ hr1) ?_; rintro _ w2 ⟨rfl, hr2⟩) | (go_at_call 97; refine (HU.out _ hr2).mono ?_; rintro e w3 ⟨⟨v, rfl⟩, HZ⟩))
 go_end0
 exact ⟨⟨_, rfl⟩, HZ.out⟩
theorem heapPush_any (ho : Ordered less) (hH : HeapIf Tryz.prog h less R) {cap : Nat} (hE : HeapEnds Tryz.prog h enc cap R) (xs : List α) (x : α) (w : World) (hr : R xs w) (hh : IsHeap less xs.length xs) (hc : xs.length < cap) :
  Calls Tryz.prog 88 #[h, enc x] w (HeapEnd less R (xs ++ [x])) := heapPush_of ho hH xs x w hr hh (hE.push xs x w hr hc)
set_option maxHeartbeats 1000000 in
set_option maxRecDepth 100000 in
theorem heapPop_of (ho : Ordered less) (hH : HeapIf Tryz.prog h less R) (hE : HeapPops Tryz.prog h enc R) (xs : List α) (w : World) (hr : R xs w) (hh : IsHeap less xs.length xs) (hne : 0 < xs.length) :
  Calls Tryz.prog 117 #[h] w (PopEnd less R enc xs) := by
 obtain ⟨n, hn⟩ : ∃ n, xs.length = n + 1 := ⟨xs.length - 1, by omega⟩
 have hx0 : xs[0]? = some xs[0] := List.getElem?_eq_getElem hne
 obtain ⟨x, hxe⟩ : ∃ x, xs[0] = x := ⟨_, rfl⟩
 rw [hxe] at hx0
 have hxn : xs[n]? = some (xs[n]'(by omega)) := List.getElem?_eq_getElem (by omega)
 obtain ⟨y, hye⟩ : ∃ y, xs[n]'(by omega) = y := ⟨_, rfl⟩
 rw [hye] at hxn
 have hmin : ∀ y ∈ xs, Le less x y := fun y hy => by
  obtain ⟨k, hk, rfl⟩ := List.getElem_of_mem hy
  exact hh.first ho (Nat.le_refl _) hx0 k _ hk (List.getElem?_eq_getElem hk)
 have hat := swapL_at xs hx0 hxn
 have hlen := swapL_len xs 0 n
 have hd : DownInv less 0 n 0 (swapL xs 0 n) 0 := by
  refine ⟨by rw [hlen]; omega, Nat.le_refl _, Nat.le_refl _, ?_, fun h0 => by omega, fun h0 => (h0 rfl).elim⟩
  rintro k hk hkn ⟨_, h1, h2⟩ u v hu hv
  have hp : par k < k := by unfold par; omega
  rw [hat, if_neg (by omega), if_neg h1] at hu
  rw [hat, if_neg (by omega), if_neg h2] at hv
  exact hh k hk (by omega) trivial u v hu hv
 have hlast : (swapL xs 0 n)[n]? = some x := by rw [hat, if_pos rfl]
 have HL : Hid (Via Tryz.prog h "Len" #[] w fun e w' => ∃ v, e = .returned v ∧ v = .int .i64 (n + 1) ∧ R xs w') := Lib.hid ((hH.len _ w hr).mono fun e w' ⟨he, hR⟩ => ⟨_, he, by rw [hn]; simp, hR⟩)
 have HS : Hid (∀ W, R xs W → Via Tryz.prog h "Swap" #[.int .i64 0, .int .i64 n] W fun e w' => ∃ v, e = .returned v ∧ R (swapL xs 0 n) w') := Lib.hid fun W hr => (hH.swap xs W 0 n x y hr hx0 hxn).mono fun e w' ⟨⟨v, he⟩, hR⟩ => ⟨v, he, hR⟩
 have HD : Hid (∀ W, R (swapL xs 0 n) W → Calls Tryz.prog 96 #[h, .int .i64 0, .int .i64 n] W fun e W' => ∃ b : Bool, e = .returned (.bool b) ∧ Hid (∃ zs, R (zs ++ [x]) W' ∧ (x :: zs).Perm xs ∧ IsHeap less zs.length zs)) :=
  Lib.hid fun W hr => (down_any ho hH 0 n 0 (swapL xs 0 n) W hr hd (Nat.zero_le _)).mono fun e W' ⟨b, xs', he, hR, hk, h1, h2⟩ => by
   refine ⟨b, he, Lib.hid ?_⟩
   have hl' : xs'.length = n + 1 := by rw [hk.perm.length_eq, hlen, hn]
   have hheap : IsHeap less n xs' := by
    cases b with
    | true => exact heap_of_holds (h1 rfl)
    | false => exact fun k hk hkn _ => (h2 rfl).2 k hk hkn ⟨Nat.zero_le _, by omega⟩
   have hx' : xs'[n]? = some x := (hk.out n (Nat.le_refl _)).trans hlast
   have hsp : xs' = xs'.take n ++ [x] := by
    have h3 := List.take_append_drop n xs'
    have h4 : xs'.drop n = [x] := by
     obtain ⟨hlt, hg⟩ := List.getElem?_eq_some_iff.1 hx'
     rw [List.drop_eq_getElem_cons hlt, hg, List.drop_eq_nil_of_le (by omega)]
    rw [h4] at h3
    exact h3.symm
   refine ⟨xs'.take n, by rw [← hsp]; exact hR, ?_, ?_⟩
   ·refine List.Perm.trans ?_ (hk.perm.trans (swapL_perm _ _ _))
    conv => rhs; rw [hsp]
    exact List.perm_append_singleton x (xs'.take n) |>.symm
   ·have e : (xs'.take n).length = n := by simp; omega
    rw [e]
    intro k hk hkn _ u v hu hv
    have hp : par k < k := by unfold par; omega
    rw [List.getElem?_take_of_lt (by omega)] at hu hv
    exact hheap k hk hkn trivial u v hu hv
 have HQ : Hid (∀ zs W, R (zs ++ [x]) W → Via Tryz.prog h "Pop" #[] W fun e w' => ∃ v, e = .returned v ∧ v = enc x ∧ R zs w') := Lib.hid fun zs W hr => (hE.pop zs x W hr).mono fun e w' ⟨he, hR⟩ => ⟨_, he, rfl, hR⟩
 have HM := Lib.hid hmin
 have hsz := hH.size _ _ hr
 rw [hn] at hsz
 clear hE hH ho hr hh hne hn hx0 hxe hxn hye hmin hat hlen hd hlast
 go_enter Tryz.func117, Tryz.ntmps117
 go_wp2_with (first | (refine wpList_invoke0 rfl _ "Len" _ rfl rfl HL.out ?_; rintro _ w1 ⟨rfl, hr1⟩) | (refine wpList_invoke2 rfl _ "Swap" _ _ _ rfl rfl rfl rfl (HS.out _ hr1) ?_; intro v w2 hr2) | (go_at_call 96; refine (HD.out _ hr2).mono ?_; rintro e w3 ⟨b, rfl, HZ⟩; obtain ⟨zs, hz1, hz2, hz3⟩ := HZ.out; have HZ2 := Lib.hid hz2; have HZ3 := Lib.hid hz3; clear HZ hz2 hz3) | (refine wpList_invoke0 rfl _ "Pop" _ rfl rfl (HQ.out zs _ hz1) ?_; rintro _ w4 ⟨rfl, hr4⟩))
 go_ret
 exact ⟨x, zs, rfl, hr4, HZ2.out, HM.out, HZ3.out⟩
theorem heapPop_any (ho : Ordered less) (hH : HeapIf Tryz.prog h less R) {cap : Nat} (hE : HeapEnds Tryz.prog h enc cap R) (xs : List α) (w : World) (hr : R xs w) (hh : IsHeap less xs.length xs) (hne : 0 < xs.length) :
  Calls Tryz.prog 117 #[h] w (PopEnd less R enc xs) := heapPop_of ho hH hE.pops xs w hr hh hne
end
end Go.Proofs.YtcchkkdbagpgjaaGreat
namespace Go.Proofs.YtcchkkdbagpgjaaGreat
open Go Go.RowKit
section
variable {α : Type} {less : α → α → Bool} {R : List α → World → Prop} {h : Value} {enc : α → Value}
theorem rem_split {n : Nat} {xs ys zs : List α} {x : α} (hl : ys.length = n + 1) (hlast : ys[n]? = some x) (hk : Hkept n ys zs) (hp : ys.Perm xs) (hheap : IsHeap less n zs) : ∃ ws, zs = ws ++ [x] ∧ (x :: ws).Perm xs ∧ IsHeap less ws.length ws := by
 have hl' : zs.length = n + 1 := by rw [hk.perm.length_eq, hl]
 have hx' : zs[n]? = some x := (hk.out n (Nat.le_refl _)).trans hlast
 have hsp : zs = zs.take n ++ [x] := by
  have h3 := List.take_append_drop n zs
  have h4 : zs.drop n = [x] := by
   obtain ⟨hlt, hg⟩ := List.getElem?_eq_some_iff.1 hx'
   rw [List.drop_eq_getElem_cons hlt, hg, List.drop_eq_nil_of_le (by omega)]
  rw [h4] at h3
  exact h3.symm
 refine ⟨zs.take n, hsp, ?_, ?_⟩
 ·refine List.Perm.trans ?_ (hk.perm.trans hp)
  conv => rhs; rw [hsp]
  exact List.perm_append_singleton x (zs.take n) |>.symm
 ·have e : (zs.take n).length = n := by simp; omega
  rw [e]
  intro k hk hkn _ u v hu hv
  have hp : par k < k := by unfold par; omega
  rw [List.getElem?_take_of_lt (by omega)] at hu hv
  exact hheap k hk hkn trivial u v hu hv
theorem fixPre_swap (ho : Ordered less) {xs : List α} {n i : Nat} {x y : α} (hh : IsHeap less (n + 1) xs) (hi : i < n) (hn : xs.length = n + 1) (hx : xs[i]? = some x) (hy : xs[n]? = some y) : FixPre less n (swapL xs i n) i := by
 have hat := swapL_at xs hx hy
 refine ⟨?_, ?_⟩
 ·rintro k hk hkn ⟨h1, h2⟩ u v hu hv
  have hp : par k < k := by unfold par; omega
  rw [hat, if_neg (by omega), if_neg h1] at hu
  rw [hat, if_neg (by omega), if_neg h2] at hv
  exact hh k hk (by omega) trivial u v hu hv
 ·intro h0 c hc hcn hpc u v hu hv
  have hp : par c < c := by unfold par; omega
  have hpi : par i < i := by unfold par; omega
  rw [hat, if_neg (by omega), if_neg (by omega)] at hu
  rw [hat, if_neg (by omega), if_neg (by omega)] at hv
  exact ho.le_trans (hh i h0 (by omega) trivial _ _ hu hx) (hh c hc (by omega) trivial _ _ (by rw [hpc]; exact hx) hv)
def RemEnd (less : α → α → Bool) (R : List α → World → Prop) (enc : α → Value) (ys : List α) (x : α) (e : Ending) (W' : World) : Prop :=
 e = .returned (enc x) ∧ ∃ xs', R xs' W' ∧ (x :: xs').Perm ys ∧ IsHeap less xs'.length xs'
set_option maxHeartbeats 1000000 in
set_option maxRecDepth 100000 in
theorem heapRemove_of (ho : Ordered less) (hH : HeapIf Tryz.prog h less R) (hE : HeapPops Tryz.prog h enc R) (xs : List α) (i : Nat) (x : α) (w : World) (hr : R xs w) (hh : IsHeap less xs.length xs) (hx : xs[i]? = some x) :
  Calls Tryz.prog 56 #[h, .int .i64 i] w (RemEnd less R enc xs x) := by
 have hil := (List.getElem?_eq_some_iff.1 hx).1
 obtain ⟨n, hn⟩ : ∃ n, xs.length = n + 1 := ⟨xs.length - 1, by omega⟩
 have hxn : xs[n]? = some (xs[n]'(by omega)) := List.getElem?_eq_getElem (by omega)
 obtain ⟨y, hye⟩ : ∃ y, xs[n]'(by omega) = y := ⟨_, rfl⟩
 rw [hye] at hxn
 have hsz := hH.size _ _ hr
 have HL : Hid (Via Tryz.prog h "Len" #[] w fun e w' => ∃ v, e = .returned v ∧ v = .int .i64 (n + 1) ∧ R xs w') := Lib.hid ((hH.len _ w hr).mono fun e w' ⟨he, hR⟩ => ⟨_, he, by rw [hn]; simp, hR⟩)
 have HQ : Hid (∀ zs W, R (zs ++ [x]) W → Via Tryz.prog h "Pop" #[] W fun e w' => ∃ v, e = .returned v ∧ v = enc x ∧ R zs w') := Lib.hid fun zs W hr => (hE.pop zs x W hr).mono fun e w' ⟨he, hR⟩ => ⟨_, he, rfl, hR⟩
 rw [hn] at hsz hh
 by_cases hin : i = n
 ·subst hin
  obtain ⟨ws, hws, hwp, hwh⟩ := rem_split (less := less) (xs := xs) hn hx (Hkept.refl i xs) (List.Perm.refl _) (fun k hk hkn _ => hh k hk (by omega) trivial)
  have HW2 := Lib.hid hwp
  have HW3 := Lib.hid hwh
  rw [hws] at HL
  clear hE hH ho hr hh hn hx hxn hye hil hwp hwh
  go_enter Tryz.func56, Tryz.ntmps56
  go_wp2_with (first | (refine wpList_invoke0 rfl _ "Len" _ rfl rfl HL.out ?_; rintro _ w1 ⟨rfl, hr1⟩) | (refine wpList_invoke0 rfl _ "Pop" _ rfl rfl (HQ.out ws _ hr1) ?_; rintro _ w4 ⟨rfl, hr4⟩))
  go_ret
  exact ⟨rfl, ws, hr4, HW2.out, HW3.out⟩
 ·have hin' : i < n := by omega
  have hlen := swapL_len xs i n
  have hat := swapL_at xs hx hxn
  have hf := fixPre_swap ho hh hin' hn hx hxn
  have hlast : (swapL xs i n)[n]? = some x := by rw [hat, if_pos rfl]
  have HSpl : Hid (∀ zs, Hkept n (swapL xs i n) zs → IsHeap less n zs → ∃ ws, zs = ws ++ [x] ∧ (x :: ws).Perm xs ∧ IsHeap less ws.length ws) := Lib.hid fun zs hk hz => rem_split (by rw [hlen, hn]) hlast hk (swapL_perm _ _ _) hz
  have HS : Hid (∀ W, R xs W → Via Tryz.prog h "Swap" #[.int .i64 i, .int .i64 n] W fun e w' => ∃ v, e = .returned v ∧ R (swapL xs i n) w') := Lib.hid fun W hr => (hH.swap xs W i n x y hr hx hxn).mono fun e w' ⟨⟨v, he⟩, hR⟩ => ⟨v, he, hR⟩
  have HD : Hid (∀ W, R (swapL xs i n) W → Calls Tryz.prog 96 #[h, .int .i64 i, .int .i64 n] W fun e W' => (e = .returned (.bool true) ∧ Hid (∃ ws, R (ws ++ [x]) W' ∧ (x :: ws).Perm xs ∧ IsHeap less ws.length ws)) ∨ (e = .returned (.bool false) ∧ Hid (R (swapL xs i n) W' ∧ UpInv less n (swapL xs i n) i))) :=
   Lib.hid fun W hr => (down_any ho hH 0 n i (swapL xs i n) W hr (hf.down (by omega)) (by omega)).mono fun e W' ⟨b, xs', he, hR, hk, h1, h2⟩ => by
    cases b with
    | true =>
     obtain ⟨ws, rfl, e2, e3⟩ := HSpl.out xs' hk (heap_of_holds (h1 rfl))
     exact .inl ⟨he, Lib.hid ⟨ws, hR, e2, e3⟩⟩
    | false =>
     obtain ⟨rfl, hd⟩ := h2 rfl
     exact .inr ⟨he, Lib.hid ⟨hR, hf.up hin' (by omega) hd⟩⟩
  have HU : Hid (∀ W, R (swapL xs i n) W → UpInv less n (swapL xs i n) i → Calls Tryz.prog 97 #[h, .int .i64 i] W fun e W' => (∃ v, e = .returned v) ∧ Hid (∃ ws, R (ws ++ [x]) W' ∧ (x :: ws).Perm xs ∧ IsHeap less ws.length ws)) :=
   Lib.hid fun W hr hu => (up_any ho hH n i (swapL xs i n) W hr hu).mono fun e W' ⟨hv, xs', hR, hk, hi⟩ => by
    obtain ⟨ws, rfl, e2, e3⟩ := HSpl.out xs' hk hi
    exact ⟨hv, Lib.hid ⟨ws, hR, e2, e3⟩⟩
  have gin : ((n : Int) == (i : Int)) = false := by rw [beq_eq_false_iff_ne]; omega
  have gin2 : ((n : Int) != (i : Int)) = true := by rw [bne_iff_ne]; omega
  clear hE hH ho hr hh hn hx hxn hye hil hat hf hlast hlen HSpl
  go_enter Tryz.func56, Tryz.ntmps56
  go_wp2_with (first | (refine wpList_invoke0 rfl _ "Len" _ rfl rfl HL.out ?_; rintro _ w1 ⟨rfl, hr1⟩) | (refine wpList_invoke2 rfl _ "Swap" _ _ _ rfl rfl rfl rfl (HS.out _ hr1) ?_; intro v w2 hr2))
  refine (HD.out _ hr2).mono ?_
  rintro e w3 (⟨rfl, HT⟩ | ⟨rfl, HF⟩)
  ·obtain ⟨ws, hz1, hz2, hz3⟩ := HT.out
   have HZ2 := Lib.hid hz2
   have HZ3 := Lib.hid hz3
   clear HT hz2 hz3
   go_wp2_with (refine wpList_invoke0 rfl _ "Pop" _ rfl rfl (HQ.out ws _ hz1) ?_; rintro _ w4 ⟨rfl, hr4⟩)
   go_ret
   exact ⟨rfl, ws, hr4, HZ2.out, HZ3.out⟩
  ·go_wp2_with fail
   refine (HU.out _ HF.out.1 HF.out.2).mono ?_
   rintro e w4 ⟨⟨v, rfl⟩, HZ⟩
   obtain ⟨ws, hz1, hz2, hz3⟩ := HZ.out
   have HZ2 := Lib.hid hz2
   have HZ3 := Lib.hid hz3
   clear HZ hz2 hz3
   go_wp2_with (refine wpList_invoke0 rfl _ "Pop" _ rfl rfl (HQ.out ws _ hz1) ?_; rintro _ w5 ⟨rfl, hr5⟩)
   go_ret
   exact ⟨rfl, ws, hr5, HZ2.out, HZ3.out⟩
end
end Go.Proofs.YtcchkkdbagpgjaaGreat
namespace Go.Proofs.YtcchkkdbagpgjaaGreat
open Go Go.RowKit
theorem run_wrapCheck {P : Program} (t : TypeId) (a : Addr) (s m : ByteArray) (W : World) : (Builtin.ssaWrapNilChk_ #[t] t #[.pointer (some a), .string s, .string m]).run P W = .ok (.pointer (some a)) W := rfl
theorem method_value {P : Program} {T elem f : Nat} {name : String} {fuel : Nat} {a : Addr} {v : Value} {W : World} (hu : P.underlying T = some (.pointer elem))
  (hm : ((P.info? T).bind fun i => i.methods.find? (·.name == name)).map (fun m => (m.path.toList, m.func)) = some ([], some (f, false))) (hl : (loadVar elem a).run P W = .ok v W) :
  (method (fuel + 1) T (.pointer (some a)) name).run P W = .ok (f, v) W := by
 cases hi : P.info? T with
 | none => simp [hi] at hm
 | some i =>
  cases hf : i.methods.find? (·.name == name) with
  | none => simp [hi, hf] at hm
  | some m =>
   simp only [hi, Option.bind_some, hf, Option.map_some, Option.some.injEq, Prod.mk.injEq] at hm
   obtain ⟨hp, hfn⟩ := hm
   have ht : (typeInfo T).run P W = .ok i W := by simp [typeInfo, hi]
   have hun : (underlying T).run P W = .ok (.pointer elem) W := run_underlying hu W
   have he : m.path.isEmpty = true := by simpa using hp
   have hp' : m.path = #[] := Array.toList_inj.1 hp
   unfold method
   simp [Sem.run_bind, ht, hf, hp, hfn, follow, receiverAt, hun, Place.get, Result.andThen, strVal, asAddr]
   rw [if_pos hp']
   simp [Sem.run_bind, run_wrapCheck, Result.andThen, hl]
theorem via_value {P : Program} {T elem f : Nat} {name : String} {a : Addr} {v : Value} {W : World} {args : Array Value} {Q : Ending → World → Prop} (hu : P.underlying T = some (.pointer elem))
  (hm : ((P.info? T).bind fun i => i.methods.find? (·.name == name)).map (fun m => (m.path.toList, m.func)) = some ([], some (f, false))) (hl : (loadVar elem a).run P W = .ok v W)
  (eg : ∀ args w, (callFunc f args).run P w = .ok (.enter f args) w) (hc : Calls P f (#[v] ++ args) W Q) : Via P (.iface T (.pointer (some a))) name args W Q := by
 refine ⟨f, #[v] ++ args, ?_, hc⟩
 have h1 := method_value (P := P) (fuel := P.types.size + Made.depth - 1) (a := a) hu hm hl
 have h0 : 0 < Made.depth := by decide
 rw [show P.types.size + Made.depth - 1 + 1 = P.types.size + Made.depth from by omega] at h1
 unfold callMethod
 simp [Sem.run_bind, h1, Result.andThen, eg]
theorem method_pointer {P : Program} {T elem f : Nat} {name : String} {fuel : Nat} {a : Addr} {W : World} (hu : P.underlying T = some (.pointer elem))
  (hm : ((P.info? T).bind fun i => i.methods.find? (·.name == name)).map (fun m => (m.path.toList, m.func)) = some ([], some (f, true))) :
  (method (fuel + 1) T (.pointer (some a)) name).run P W = .ok (f, .pointer (some a)) W := by
 cases hi : P.info? T with
 | none => simp [hi] at hm
 | some i =>
  cases hf : i.methods.find? (·.name == name) with
  | none => simp [hi, hf] at hm
  | some m =>
   simp only [hi, Option.bind_some, hf, Option.map_some, Option.some.injEq, Prod.mk.injEq] at hm
   obtain ⟨hp, hfn⟩ := hm
   have ht : (typeInfo T).run P W = .ok i W := by simp [typeInfo, hi]
   have hun : (underlying T).run P W = .ok (.pointer elem) W := run_underlying hu W
   unfold method
   simp [Sem.run_bind, ht, hf, hp, hfn, follow, receiverAt, hun, Place.get, Result.andThen]
theorem via_pointer {P : Program} {T f : Nat} {name : String} {v : Value} {W : World} {args : Array Value} {Q : Ending → World → Prop} {n : Nat} (hn : P.types.size + Made.depth = n)
  (hm : (method n T v name).run P W = .ok (f, v) W)
  (eg : ∀ args w, (callFunc f args).run P w = .ok (.enter f args) w) (hc : Calls P f (#[v] ++ args) W Q) : Via P (.iface T v) name args W Q := by
 subst hn
 refine ⟨f, #[v] ++ args, ?_, hc⟩
 unfold callMethod
 simp [Sem.run_bind, hm, Result.andThen, eg]
end Go.Proofs.YtcchkkdbagpgjaaGreat
