/- MHeap: HeapMath, Heap, HeapDown, HeapOps, HeapRemove, Via. -/
import Derived.Test.YtjbihgfdgaiecaaGreatPA
import Derived.Test.YtjbihgfdgaiecaaGreatProg
import Derived.WalkKit
import Derived.LoopTactic
import Derived.Outline
import Derived.BigFrame
import Derived.BigGuard
import Derived.Lib.Small
import Derived.StillTailTactics
import Derived.OwnWalk
import Derived.OneCell
import Derived.RangeFuncBox
import Derived.Laws.AppendOwn
import Derived.BigQuiet
import Derived.Deep.Cut
import Derived.RegionTactic
import Derived.BigRegion
import Derived.Deep.RegionLaw
namespace Go.Proofs.YtjbihgfdgaiecaaGreat
section
open Go Go.RowKit
section
variable {α : Type}
def swapL (xs : List α) (i j : Nat) : List α :=
 match xs[i]?, xs[j]? with
 | some x, some y => (xs.set i y).set j x
 | _, _ => xs
theorem swapL_some {xs : List α} {i j : Nat} {x y : α} (hi : xs[i]? = some x) (hj : xs[j]? = some y) : swapL xs i j = (xs.set i y).set j x := by simp [swapL, hi, hj]
theorem swapL_len (xs : List α) (i j : Nat) : (swapL xs i j).length = xs.length := by unfold swapL; split <;> simp
theorem swapL_at (xs : List α) {i j : Nat} {x y : α} (hi : xs[i]? = some x) (hj : xs[j]? = some y) (k : Nat) : (swapL xs i j)[k]? = if k = j then some x else if k = i then some y else xs[k]? := by
 have h1 := (List.getElem?_eq_some_iff.1 hi).1
 have h2 := (List.getElem?_eq_some_iff.1 hj).1
 rw [swapL_some hi hj]
 by_cases hkj : k = j
 ·subst hkj; simp [h2]
 ·rw [if_neg hkj, List.getElem?_set_ne (Ne.symm hkj)]
  by_cases hki : k = i
  ·subst hki; simp [h1]
  ·rw [if_neg hki, List.getElem?_set_ne (Ne.symm hki)]
theorem swapL_perm (xs : List α) (i j : Nat) : (swapL xs i j).Perm xs := by
 unfold swapL
 split
 ·rename_i x y hi hj
  by_cases e : i = j
  ·subst e
   rw [hi] at hj
   obtain rfl := Option.some.inj hj
   obtain ⟨h1, rfl⟩ := List.getElem?_eq_some_iff.1 hi
   simp
  ·obtain ⟨h1, rfl⟩ := List.getElem?_eq_some_iff.1 hi
   obtain ⟨h2, rfl⟩ := List.getElem?_eq_some_iff.1 hj
   exact List.set_set_perm h1 h2
 ·exact List.Perm.refl _
structure Ordered (less : α → α → Bool) : Prop where
 asym : ∀ x y, less x y = true → less y x = false
 trans : ∀ x y z, less y x = false → less z y = false → less z x = false
variable {less : α → α → Bool}
def Le (less : α → α → Bool) (x y : α) : Prop := less y x = false
theorem Ordered.le_trans (h : Ordered less) {x y z : α} (a : Le less x y) (b : Le less y z) : Le less x z := h.trans x y z a b
theorem Ordered.le_of (h : Ordered less) {x y : α} (a : less x y = true) : Le less x y := h.asym x y a
def par (k : Nat) : Nat := (k - 1) / 2
def Holds (less : α → α → Bool) (n : Nat) (c : Nat → Prop) (xs : List α) : Prop := ∀ k, 0 < k → k < n → c k → ∀ x y, xs[par k]? = some x → xs[k]? = some y → Le less x y
def IsHeap (less : α → α → Bool) (n : Nat) (xs : List α) : Prop := Holds less n (fun _ => True) xs
structure UpInv (less : α → α → Bool) (n : Nat) (xs : List α) (j : Nat) : Prop where
 lt : j < n
 le : n ≤ xs.length
 a : Holds less n (fun k => k ≠ j) xs
 b : 0 < j → ∀ c, 0 < c → c < n → par c = j → ∀ x y, xs[par j]? = some x → xs[c]? = some y → Le less x y
theorem UpInv.done {n : Nat} {xs : List α} {j : Nat} (h : UpInv less n xs j) (h0 : j = 0 ∨ ∃ x y, xs[par j]? = some x ∧ xs[j]? = some y ∧ less y x = false) : IsHeap less n xs := by
 intro k hk hkn _ x y hx hy
 by_cases e : k = j
 ·subst e
  rcases h0 with h0 | ⟨x', y', hx', hy', hl⟩
  ·omega
  ·rw [hx] at hx'; rw [hy] at hy'
   obtain rfl := Option.some.inj hx'
   obtain rfl := Option.some.inj hy'
   exact hl
 ·exact h.a k hk hkn e x y hx hy
theorem UpInv.step (ho : Ordered less) {n : Nat} {xs : List α} {j : Nat} (h : UpInv less n xs j) (hj : 0 < j) {x y : α} (hx : xs[par j]? = some x) (hy : xs[j]? = some y) (hl : less y x = true) : UpInv less n (swapL xs (par j) j) (par j) := by
 have hpj : par j < j := by unfold par; omega
 have hat := swapL_at xs hx hy
 have hle := h.le
 have hlt := h.lt
 refine ⟨by omega, by rw [swapL_len]; exact h.le, ?_, ?_⟩
 ·intro k hk hkn hne u v hu hv
  have hpk : par k < k := by unfold par; omega
  rw [hat] at hu hv
  by_cases e1 : k = j
  ·subst e1
   rw [if_neg (by omega), if_pos rfl] at hu
   rw [if_pos rfl] at hv
   obtain rfl := Option.some.inj hu
   obtain rfl := Option.some.inj hv
   exact ho.le_of hl
  ·rw [if_neg e1, if_neg hne] at hv
   by_cases e2 : par k = j
   ·rw [if_pos e2] at hu
    obtain rfl := Option.some.inj hu
    exact h.b hj k hk hkn e2 _ _ hx hv
   ·rw [if_neg e2] at hu
    by_cases e3 : par k = par j
    ·rw [if_pos e3] at hu
     obtain rfl := Option.some.inj hu
     exact ho.le_trans (ho.le_of hl) (h.a k hk hkn e1 _ _ (by rw [e3]; exact hx) hv)
    ·rw [if_neg e3] at hu
     exact h.a k hk hkn e1 _ _ hu hv
 ·intro hp c hc hcn hpc u v hu hv
  have hpp : par (par j) < par j := by unfold par; unfold par at hp; omega
  rw [hat, if_neg (by omega), if_neg (by omega)] at hu
  rw [hat] at hv
  by_cases e1 : c = j
  ·rw [if_pos e1] at hv
   obtain rfl := Option.some.inj hv
   exact h.a (par j) hp (by omega) (by omega) _ _ hu hx
  ·have hpc' : par c < c := by unfold par; omega
   rw [if_neg e1, if_neg (by omega)] at hv
   have h1 : Le less u x := h.a (par j) hp (by omega) (by omega) _ _ hu hx
   exact ho.le_trans h1 (h.a c hc hcn e1 _ _ (by rw [hpc]; exact hx) hv)
structure DownInv (less : α → α → Bool) (lo n i0 : Nat) (xs : List α) (i : Nat) : Prop where
 le : n ≤ xs.length
 low : lo ≤ i0
 ge : i0 ≤ i
 a : Holds less n (fun k => lo ≤ par k ∧ par k ≠ i ∧ k ≠ i) xs
 b : 0 < i → lo ≤ par i → ∀ c, 0 < c → c < n → par c = i → ∀ x y, xs[par i]? = some x → xs[c]? = some y → Le less x y
 c : i ≠ i0 → lo ≤ par i → ∀ x y, xs[par i]? = some x → xs[i]? = some y → Le less x y
def Below2 (less : α → α → Bool) (n : Nat) (xs : List α) (i : Nat) : Prop := ∀ k, 0 < k → k < n → par k = i → ∀ x y, xs[i]? = some x → xs[k]? = some y → Le less x y
theorem DownInv.done {lo n i0 : Nat} {xs : List α} {i : Nat} (h : DownInv less lo n i0 xs i) (hb : Below2 less n xs i) : Holds less n (fun k => lo ≤ par k ∧ (i = i0 → k ≠ i0)) xs := by
 intro k hk hkn hc x y hx hy
 by_cases e1 : par k = i
 ·exact hb k hk hkn e1 x y (by rw [← e1]; exact hx) hy
 ·by_cases e2 : k = i
  ·subst e2
   exact h.c (fun e => hc.2 e e) hc.1 x y hx hy
  ·exact h.a k hk hkn ⟨hc.1, e1, e2⟩ x y hx hy
theorem par_left (i : Nat) : par (2 * i + 1) = i := by unfold par; omega
theorem par_right (i : Nat) : par (2 * i + 2) = i := by unfold par; omega
theorem par_eq {k i : Nat} (hk : 0 < k) (h : par k = i) : k = 2 * i + 1 ∨ k = 2 * i + 2 := by unfold par at h; omega
theorem DownInv.step (ho : Ordered less) {lo n i0 : Nat} {xs : List α} {i j : Nat} (h : DownInv less lo n i0 xs i) (hj0 : 0 < j) (hjn : j < n) (hpj : par j = i) {x y : α} (hx : xs[i]? = some x) (hy : xs[j]? = some y) (hl : less y x = true)
  (hbro : ∀ k, 0 < k → k < n → par k = i → ∀ z, xs[k]? = some z → Le less y z) : DownInv less lo n i0 (swapL xs i j) j := by
 have hij : i < j := by unfold par at hpj; omega
 have hat := swapL_at xs hx hy
 refine ⟨by rw [swapL_len]; exact h.le, h.low, by have := h.ge; omega, ?_, ?_, ?_⟩
 ·rintro k hk hkn ⟨hlo, hne1, hne2⟩ u v hu hv
  have hpk : par k < k := by unfold par; omega
  rw [hat, if_neg hne1] at hu
  rw [hat, if_neg hne2] at hv
  by_cases e1 : par k = i
  ·rw [if_pos e1] at hu
   obtain rfl := Option.some.inj hu
   rw [if_neg (by omega)] at hv
   exact hbro k hk hkn e1 _ hv
  ·rw [if_neg e1] at hu
   by_cases e2 : k = i
   ·subst e2
    rw [if_pos rfl] at hv
    obtain rfl := Option.some.inj hv
    exact h.b hk hlo j hj0 hjn hpj _ _ hu hy
   ·rw [if_neg e2] at hv
    exact h.a k hk hkn ⟨hlo, e1, e2⟩ _ _ hu hv
 ·intro _ hlo c hc hcn hpc u v hu hv
  have hpc' : par c < c := by unfold par; omega
  rw [hpj, hat, if_neg (by omega), if_pos rfl] at hu
  rw [hat, if_neg (by omega), if_neg (by omega)] at hv
  obtain rfl := Option.some.inj hu
  rw [hpj] at hlo
  exact h.a c hc hcn ⟨by omega, by omega, by omega⟩ _ _ (by rw [hpc]; exact hy) hv
 ·intro _ _ u v hu hv
  rw [hpj, hat, if_neg (by omega), if_pos rfl] at hu
  rw [hat, if_pos rfl] at hv
  obtain rfl := Option.some.inj hu
  obtain rfl := Option.some.inj hv
  exact ho.le_of hl
theorem IsHeap.first (ho : Ordered less) {n : Nat} {xs : List α} (h : IsHeap less n xs) (hn : n ≤ xs.length) {x : α} (hx : xs[0]? = some x) : ∀ k y, k < n → xs[k]? = some y → Le less x y := by
 intro k
 induction k using Nat.strongRecOn with
 | _ k ih =>
  intro y hk hy
  by_cases h0 : k = 0
  ·subst h0
   rw [hx] at hy
   obtain rfl := Option.some.inj hy
   cases hxx : less x x with
   | false => exact hxx
   | true => exact ho.asym x x hxx
  ·have hp : par k < k := by unfold par; omega
   have hpl : par k < xs.length := by omega
   have hz : xs[par k]? = some xs[par k] := List.getElem?_eq_getElem hpl
   exact ho.le_trans (ih (par k) hp _ (by omega) hz) (h k (by omega) hk trivial _ _ hz hy)
end
end
section
open Go Go.RowKit
def Via (P : Program) (h : Value) (name : String) (args : Array Value) (W : World) (Q : Ending → World → Prop) : Prop :=
 ∃ f args', (callMethod h name args).run P W = .ok (.enter f args') W ∧ Calls P f args' W Q
theorem Via.mono {P : Program} {h : Value} {name : String} {args : Array Value} {W : World} {Q Q' : Ending → World → Prop} (hv : Via P h name args W Q) (hq : ∀ e w, Q e w → Q' e w) : Via P h name args W Q' := by
 obtain ⟨f, args', h1, h2⟩ := hv
 exact ⟨f, args', h1, h2.mono hq⟩
theorem wp_invoke {P : Program} {o : Oper} {a : Act} {W : World} {K : Act → World → Prop} {Q : Exit → Act → World → Prop} (recv : Operand) (name : String) (xs : Array Operand) (ts : Array TypeId)
  (ho : o.op = .call { callee := .invoke recv name, args := xs, argTypes := ts }) {h : Value} (hr : a.eval recv = h) {args : Array Value} (hx : xs.map a.eval = args) {R : Value → World → Prop}
  (hv : Via P h name args W fun e w' => ∃ v, e = .returned v ∧ R v w') (hK : ∀ v w', R v w' → K (a.put o.dst v) w') : o.wp P a W K Q := by
 obtain ⟨f, args', hcm, hC⟩ := hv
 have hex : (#[h] ++ args).extract 1 (#[h] ++ args).size = args := by
  apply Array.toList_inj.1
  simp
 have h0 : (#[h] ++ args)[0]? = some h := by rw [Array.getElem?_append_left (by simp)]; rfl
 have hrun : (execOp a.eval o).run P W = .ok (.enter f args') W := by
  unfold execOp
  simp only [ho, resolve, invoke, Sem.run_bind, Sem.run_pure, Result.andThen_ok, hr, hx, hex, h0]
  exact hcm
 unfold Oper.wp
 rw [hrun]
 exact hC.mono fun e w' ⟨v, he, hR⟩ => by subst he; exact hK v w' hR
theorem wpList_invoke0 {P : Program} {ops : Array Oper} {rest : List Oper} {o : Oper} {a : Act} {W : World} {Q : Exit → Act → World → Prop} (hw : Region.wanted o (yielded ops a.tmps) = true) (recv : Operand) (name : String) (ts : Array TypeId)
  (ho : o.op = .call { callee := .invoke recv name, args := #[], argTypes := ts }) {h : Value} (hr : a.eval recv = h) {R : Value → World → Prop}
  (hv : Via P h name #[] W fun e w' => ∃ v, e = .returned v ∧ R v w') (hK : ∀ v w', R v w' → wpList P ops Q rest (a.put o.dst v) w') : wpList P ops Q (o :: rest) a W :=
 BigFrame.wpList_want hw fun _ hk => wp_invoke recv name #[] ts ho hr (by simp) hv fun v w' h => hk _ _ (hK v w' h)
theorem wpList_invoke1 {P : Program} {ops : Array Oper} {rest : List Oper} {o : Oper} {a : Act} {W : World} {Q : Exit → Act → World → Prop} (hw : Region.wanted o (yielded ops a.tmps) = true) (recv : Operand) (name : String) (x0 : Operand) (ts : Array TypeId)
  (ho : o.op = .call { callee := .invoke recv name, args := #[x0], argTypes := ts }) {h v0 : Value} (hr : a.eval recv = h) (hx0 : a.eval x0 = v0) {R : Value → World → Prop}
  (hv : Via P h name #[v0] W fun e w' => ∃ v, e = .returned v ∧ R v w') (hK : ∀ v w', R v w' → wpList P ops Q rest (a.put o.dst v) w') : wpList P ops Q (o :: rest) a W :=
 BigFrame.wpList_want hw fun _ hk => wp_invoke recv name #[x0] ts ho hr (by simp [hx0]) hv fun v w' h => hk _ _ (hK v w' h)
theorem wpList_invoke2 {P : Program} {ops : Array Oper} {rest : List Oper} {o : Oper} {a : Act} {W : World} {Q : Exit → Act → World → Prop} (hw : Region.wanted o (yielded ops a.tmps) = true) (recv : Operand) (name : String) (x0 x1 : Operand) (ts : Array TypeId)
  (ho : o.op = .call { callee := .invoke recv name, args := #[x0, x1], argTypes := ts }) {h v0 v1 : Value} (hr : a.eval recv = h) (hx0 : a.eval x0 = v0) (hx1 : a.eval x1 = v1) {R : Value → World → Prop}
  (hv : Via P h name #[v0, v1] W fun e w' => ∃ v, e = .returned v ∧ R v w') (hK : ∀ v w', R v w' → wpList P ops Q rest (a.put o.dst v) w') : wpList P ops Q (o :: rest) a W :=
 BigFrame.wpList_want hw fun _ hk => wp_invoke recv name #[x0, x1] ts ho hr (by simp [hx0, hx1]) hv fun v w' h => hk _ _ (hK v w' h)
structure HeapIf {α : Type} (P : Program) (h : Value) (less : α → α → Bool) (R : List α → World → Prop) : Prop where
 size : ∀ xs W, R xs W → xs.length ≤ 1000000000
 len : ∀ xs W, R xs W → Via P h "Len" #[] W fun e W' => e = .returned (.int .i64 xs.length) ∧ R xs W'
 less : ∀ xs W (i j : Nat) x y, R xs W → xs[i]? = some x → xs[j]? = some y → Via P h "Less" #[.int .i64 i, .int .i64 j] W fun e W' => e = .returned (.bool (less x y)) ∧ R xs W'
 swap : ∀ xs W (i j : Nat) x y, R xs W → xs[i]? = some x → xs[j]? = some y → Via P h "Swap" #[.int .i64 i, .int .i64 j] W fun e W' => (∃ v, e = .returned v) ∧ R (swapL xs i j) W'
section
variable {α : Type} {less : α → α → Bool} {R : List α → World → Prop} {h : Value}
structure Kept (n : Nat) (xs xs' : List α) : Prop where
 perm : xs'.Perm xs
 out : ∀ k, n ≤ k → xs'[k]? = xs[k]?
theorem Kept.refl (n : Nat) (xs : List α) : Kept n xs xs := ⟨List.Perm.refl _, fun _ _ => rfl⟩
theorem Kept.swap {n : Nat} {xs xs' : List α} (hk : Kept n xs xs') {i j : Nat} (hi : i < n) (hj : j < n) (hn : n ≤ xs'.length) : Kept n xs (swapL xs' i j) :=
 ⟨(swapL_perm _ _ _).trans hk.perm, fun k hk' => by
  rw [swapL_at xs' (List.getElem?_eq_getElem (by omega : i < xs'.length)) (List.getElem?_eq_getElem (by omega : j < xs'.length)), if_neg (by omega), if_neg (by omega)]
  exact hk.out k hk'⟩
structure UpAt (less : α → α → Bool) (R : List α → World → Prop) (n : Nat) (xs : List α) (j : Nat) (xs' : List α) (W : World) : Prop where
 r : R xs' W
 kept : Kept n xs xs'
 inv : UpInv less n xs' j
def UpEnd (less : α → α → Bool) (R : List α → World → Prop) (n : Nat) (xs : List α) (e : Ending) (W' : World) : Prop := (∃ v, e = .returned v) ∧ ∃ xs', R xs' W' ∧ Kept n xs xs' ∧ IsHeap less n xs'
set_option maxHeartbeats 1000000 in
set_option maxRecDepth 100000 in
theorem up_any (ho : Ordered less) (hH : HeapIf Tryz.prog h less R) (n j : Nat) (xs : List α) (w : World) (hr : R xs w) (hu : UpInv less n xs j) :
  Calls Tryz.prog 109 #[h, .int .i64 j] w (UpEnd less R n xs) := by
 have H0 := Lib.hid (show UpAt less R n xs j xs w from ⟨hr, Kept.refl _ _, hu⟩)
 have HH := Lib.hid hH
 have HO := Lib.hid ho
 clear hr hu hH ho
 go_enter Tryz.func109, Tryz.ntmps109
 go_wp2_with fail
 go_loopw [1] (fun jv wr => ∃ (j : Nat) (xs' : List α), jv = .int .i64 j ∧ UpAt less R n xs j xs' wr) (fun jv _ => (intOf jv).toNat)
 case atStart => exact ⟨j, xs, rfl, H0.out⟩
 case round =>
  clear H0
  obtain ⟨j, xs', rfl, hu⟩ := hrel
  have hlen := HH.out.size _ _ hu.r
  have hjn := hu.inv.lt
  have hnl := hu.inv.le
  by_cases hj : j = 0
  ·subst hj
   have HU := Lib.hid hu
   clear hu
   go_wp2_with fail
   go_end0
   exact ⟨⟨_, rfl⟩, xs', HU.out.r, HU.out.kept, HU.out.inv.done (.inl rfl)⟩
  ·have hpj : par j < j := by unfold par; omega
   have hx : xs'[par j]? = some xs'[par j] := List.getElem?_eq_getElem (by omega)
   have hy : xs'[j]? = some xs'[j] := List.getElem?_eq_getElem (by omega)
   obtain ⟨x, hxe⟩ : ∃ x, xs'[par j] = x := ⟨_, rfl⟩
   obtain ⟨y, hye⟩ : ∃ y, xs'[j] = y := ⟨_, rfl⟩
   rw [hxe] at hx
   rw [hye] at hy
   have HL := Lib.hid ((HH.out.less xs' wr j (par j) y x hu.r hy hx).mono (Q' := fun e w' => ∃ v, e = .returned v ∧ v = .bool (less y x) ∧ R xs' w') fun e w' ⟨he, h⟩ => ⟨_, he, rfl, h⟩)
   have HU := Lib.hid hu
   have HX := Lib.hid hx
   have HY := Lib.hid hy
   clear hu hx hy hxe hye
   have hp1 : ((j : Int) - 1) / 2 = ((par j : Nat) : Int) := by unfold par; omega
   have hp2 : (((par j : Nat) : Int) == (j : Int)) = false := by simp; omega
   have hj1 : 1 ≤ (j : Int) := by omega
   have HP := Lib.hid hp1
   cases hless : less y x
   ·rw [hless] at HL
    have HE := Lib.hid hless
    clear hless
    go_wp2_with (refine wpList_invoke2 rfl _ "Less" _ _ _ rfl rfl rfl (by first | rfl | (rw [HP.out]; rfl)) HL.out ?_; rintro _ w1 ⟨rfl, hr1⟩)
    go_end0
    exact ⟨⟨_, rfl⟩, xs', hr1, HU.out.kept, HU.out.inv.done (.inr ⟨x, y, HX.out, HY.out, HE.out⟩)⟩
   ·rw [hless] at HL
    have HE := Lib.hid hless
    clear hless
    go_wp2_with (first | (refine wpList_invoke2 rfl _ "Less" _ _ _ rfl rfl rfl (by first | rfl | (rw [HP.out]; rfl)) HL.out ?_; rintro _ w1 ⟨rfl, hr1⟩; have HS := Lib.hid ((HH.out.swap xs' w1 (par j) j x y hr1 HX.out HY.out).mono (Q' := fun e w' => ∃ v, e = .returned v ∧ R (swapL xs' (par j) j) w') fun e w' ⟨⟨v, he⟩, h⟩ => ⟨v, he, h⟩)) | (refine wpList_invoke2 rfl _ "Swap" _ _ _ rfl rfl (by first | rfl | (rw [HP.out]; rfl)) rfl HS.out ?_; intro v w2 hr2))
    go_roundw
    case rel => exact ⟨par j, swapL xs' (par j) j, by first | rfl | rw [HP.out], hr2, HU.out.kept.swap (by omega) hjn hnl, HU.out.inv.step HO.out (by omega) HX.out HY.out HE.out⟩
    case measure => simp [intOf]; omega
end
end
section
open Go Go.RowKit
section
variable {α : Type} {less : α → α → Bool} {R : List α → World → Prop} {h : Value}
structure DownAt (less : α → α → Bool) (R : List α → World → Prop) (lo n i0 : Nat) (xs : List α) (i : Nat) (xs' : List α) (W : World) : Prop where
 r : R xs' W
 kept : Kept n xs xs'
 inv : DownInv less lo n i0 xs' i
 still : i = i0 → xs' = xs
def DownEnd (less : α → α → Bool) (R : List α → World → Prop) (lo n i0 : Nat) (xs : List α) (e : Ending) (W' : World) : Prop :=
 ∃ (b : Bool) (xs' : List α), e = .returned (.bool b) ∧ R xs' W' ∧ Kept n xs xs' ∧ (b = true → Holds less n (fun k => lo ≤ par k) xs') ∧ (b = false → xs' = xs ∧ Holds less n (fun k => lo ≤ par k ∧ k ≠ i0) xs')
theorem downEnd_mk {lo n i0 : Nat} {xs : List α} {i : Nat} {xs' : List α} {W : World} {b : Bool} (hd : DownAt less R lo n i0 xs i xs' W) (hb : Below2 less n xs' i) (he : b = decide (i0 < i)) : DownEnd less R lo n i0 xs (.returned (.bool b)) W := by
 have h1 := hd.inv.done hb
 have h2 := hd.inv.ge
 refine ⟨b, xs', rfl, hd.r, hd.kept, fun e => ?_, fun e => ?_⟩
 ·rw [he, decide_eq_true_eq] at e
  exact fun k hk hkn hc => h1 k hk hkn ⟨hc, fun e' => by omega⟩
 ·rw [he, decide_eq_false_iff_not] at e
  have e' : i = i0 := by omega
  exact ⟨hd.still e', fun k hk hkn hc => h1 k hk hkn ⟨hc.1, fun _ => hc.2⟩⟩
set_option maxHeartbeats 4000000 in
set_option maxRecDepth 100000 in
theorem down_any (ho : Ordered less) (hH : HeapIf Tryz.prog h less R) (lo n i0 : Nat) (xs : List α) (w : World) (hr : R xs w) (hu : DownInv less lo n i0 xs i0) (hi0 : i0 ≤ n) :
  Calls Tryz.prog 95 #[h, .int .i64 i0, .int .i64 n] w (DownEnd less R lo n i0 xs) := by
 have H0 := Lib.hid (show DownAt less R lo n i0 xs i0 xs w from ⟨hr, Kept.refl _ _, hu, fun _ => rfl⟩)
 have HH := Lib.hid hH
 have HO := Lib.hid ho
 have hsz := hH.size _ _ hr
 have hnx := hu.le
 clear hr hu hH ho
 go_enter Tryz.func95, Tryz.ntmps95
 go_wp2_with fail
 go_loopw [7] (fun iv wr => ∃ (i : Nat) (xs' : List α), i ≤ n ∧ iv = .int .i64 i ∧ DownAt less R lo n i0 xs i xs' wr) (fun iv _ => n - (intOf iv).toNat)
 case atStart => exact ⟨i0, xs, hi0, rfl, H0.out⟩
 case round =>
  clear H0
  obtain ⟨i, xs', hin, rfl, hu⟩ := hrel
  have hlen := HH.out.size _ _ hu.r
  have hnl := hu.inv.le
  have hge := hu.inv.ge
  obtain ⟨j1, hj1⟩ : ∃ j : Nat, j = 2 * i + 1 := ⟨_, rfl⟩
  obtain ⟨j2, hj2⟩ : ∃ j : Nat, j = 2 * i + 2 := ⟨_, rfl⟩
  have hq1 : 2 * (i : Int) + 1 = (j1 : Int) := by omega
  have hq2 : (j1 : Int) + 1 = (j2 : Int) := by omega
  have P1 := Lib.hid (show par j1 = i by rw [hj1]; exact par_left i)
  have P2 := Lib.hid (show par j2 = i by rw [hj2]; exact par_right i)
  have HK := Lib.hid (show ∀ k, 0 < k → par k = i → k = j1 ∨ k = j2 from fun k hk hp => by rw [hj1, hj2]; exact par_eq hk hp)
  have hij1 : i < j1 := by omega
  have hj12 : j1 < j2 := by omega
  have hj2b : j2 ≤ 2 * i + 2 := by omega
  clear hj1 hj2
  by_cases hlt1 : j1 < n
  ·have hx : xs'[i]? = some xs'[i] := List.getElem?_eq_getElem (by omega)
   have hy : xs'[j1]? = some xs'[j1] := List.getElem?_eq_getElem (by omega)
   obtain ⟨x, hxe⟩ : ∃ x, xs'[i] = x := ⟨_, rfl⟩
   obtain ⟨y, hye⟩ : ∃ y, xs'[j1] = y := ⟨_, rfl⟩
   rw [hxe] at hx
   rw [hye] at hy
   have HU := Lib.hid hu
   have HX := Lib.hid hx
   have HY := Lib.hid hy
   clear hu hx hy hxe hye
   -- the child that is compared with i, in whatever world
   have HLess : Hid (∀ (a b : Nat) u v W, R xs' W → xs'[a]? = some u → xs'[b]? = some v → Via Tryz.prog h "Less" #[.int .i64 a, .int .i64 b] W fun e w' => ∃ r, e = .returned r ∧ r = .bool (less u v) ∧ R xs' w') :=
    Lib.hid fun a b u v W hr ha hb => (HH.out.less xs' W a b u v hr ha hb).mono fun e w' ⟨he, hR⟩ => ⟨_, he, rfl, hR⟩
   have HSwap : Hid (∀ (b : Nat) v W, R xs' W → xs'[b]? = some v → Via Tryz.prog h "Swap" #[.int .i64 i, .int .i64 b] W fun e w' => ∃ r, e = .returned r ∧ R (swapL xs' i b) w') :=
    Lib.hid fun b v W hr hb => (HH.out.swap xs' W i b x v hr HX.out hb).mono fun e w' ⟨⟨r, he⟩, hR⟩ => ⟨r, he, hR⟩
   have HStep : Hid (∀ (j : Nat) v W, 0 < j → j < n → par j = i → xs'[j]? = some v → less v x = true → (∀ k, 0 < k → k < n → par k = i → ∀ z, xs'[k]? = some z → Le less v z) → R (swapL xs' i j) W → DownAt less R lo n i0 xs j (swapL xs' i j) W) :=
    Lib.hid fun j v W h0 hjn hp hv hl hbro hR => ⟨hR, HU.out.kept.swap (by omega) hjn hnl, HU.out.inv.step HO.out h0 hjn hp HX.out hv hl hbro, fun e => by exfalso; have : par j < j := (by unfold par; omega); omega⟩
   have HEnd : Hid (∀ v W, R xs' W → less v x = false → (∀ k, 0 < k → k < n → par k = i → ∀ z, xs'[k]? = some z → Le less v z) → ∀ b, b = decide (i0 < i) → DownEnd less R lo n i0 xs (.returned (.bool b)) W) :=
    Lib.hid fun v W hR hl hbro b hb => downEnd_mk ⟨hR, HU.out.kept, HU.out.inv, HU.out.still⟩ (fun k hk hkn hp u z hu hz => by
     rw [HX.out] at hu
     obtain rfl := Option.some.inj hu
     exact HO.out.le_trans hl (hbro k hk hkn hp z hz)) hb
   by_cases hlt2 : j2 < n
   ·have hz : xs'[j2]? = some xs'[j2] := List.getElem?_eq_getElem (by omega)
    obtain ⟨z, hze⟩ : ∃ z, xs'[j2] = z := ⟨_, rfl⟩
    rw [hze] at hz
    have HZ := Lib.hid hz
    clear hz hze
    have HL0 := Lib.hid (HLess.out j2 j1 z y wr HU.out.r HZ.out HY.out)
    cases hbl : less z y
    ·rw [hbl] at HL0
     have HBro : Hid (∀ k, 0 < k → k < n → par k = i → ∀ u, xs'[k]? = some u → Le less y u) := Lib.hid fun k hk hkn hp u hu => by
      rcases HK.out k hk hp with e | e
      ·rw [e, HY.out] at hu
       obtain rfl := Option.some.inj hu
       cases hyy : less y y with
       | false => exact hyy
       | true => exact HO.out.asym y y hyy
      ·rw [e, HZ.out] at hu
       obtain rfl := Option.some.inj hu
       exact hbl
     clear hbl
     cases hless : less y x
     ·have HE := Lib.hid hless
      have HL := Lib.hid (fun W hr => HLess.out j1 i y x W hr HY.out HX.out)
      rw [hless] at HL
      clear hless
      by_cases hmv : i0 < i
      ·go_wp2_with (first | (refine wpList_invoke2 rfl _ "Less" _ _ _ rfl rfl rfl rfl HL0.out ?_; rintro _ w1 ⟨rfl, hr1⟩) | (refine wpList_invoke2 rfl _ "Less" _ _ _ rfl rfl rfl rfl (HL.out _ hr1) ?_; rintro _ w2 ⟨rfl, hr2⟩))
       go_ret
       exact HEnd.out y _ hr2 HE.out HBro.out _ (by simp; omega)
      ·go_wp2_with (first | (refine wpList_invoke2 rfl _ "Less" _ _ _ rfl rfl rfl rfl HL0.out ?_; rintro _ w1 ⟨rfl, hr1⟩) | (refine wpList_invoke2 rfl _ "Less" _ _ _ rfl rfl rfl rfl (HL.out _ hr1) ?_; rintro _ w2 ⟨rfl, hr2⟩))
       go_ret
       exact HEnd.out y _ hr2 HE.out HBro.out _ (by simp; omega)
     ·have HE := Lib.hid hless
      have HL := Lib.hid (fun W hr => HLess.out j1 i y x W hr HY.out HX.out)
      rw [hless] at HL
      clear hless
      go_wp2_with (first | (refine wpList_invoke2 rfl _ "Less" _ _ _ rfl rfl rfl rfl HL0.out ?_; rintro _ w1 ⟨rfl, hr1⟩) | (refine wpList_invoke2 rfl _ "Less" _ _ _ rfl rfl rfl rfl (HL.out _ hr1) ?_; rintro _ w2 ⟨rfl, hr2⟩) | (refine wpList_invoke2 rfl _ "Swap" _ _ _ rfl rfl rfl rfl (HSwap.out j1 y _ hr2 HY.out) ?_; intro v w3 hr3))
      go_roundw
      case rel => exact ⟨j1, swapL xs' i j1, by omega, rfl, HStep.out j1 y _ (by omega) (by omega) P1.out HY.out HE.out HBro.out hr3⟩
      case measure => simp [intOf]; omega
    ·rw [hbl] at HL0
     have HBro : Hid (∀ k, 0 < k → k < n → par k = i → ∀ u, xs'[k]? = some u → Le less z u) := Lib.hid fun k hk hkn hp u hu => by
      rcases HK.out k hk hp with e | e
      ·rw [e, HY.out] at hu
       obtain rfl := Option.some.inj hu
       exact HO.out.le_of hbl
      ·rw [e, HZ.out] at hu
       obtain rfl := Option.some.inj hu
       cases hyy : less z z with
       | false => exact hyy
       | true => exact HO.out.asym z z hyy
     clear hbl
     cases hless : less z x
     ·have HE := Lib.hid hless
      have HL := Lib.hid (fun W hr => HLess.out j2 i z x W hr HZ.out HX.out)
      rw [hless] at HL
      clear hless
      by_cases hmv : i0 < i
      ·go_wp2_with (first | (refine wpList_invoke2 rfl _ "Less" _ _ _ rfl rfl rfl rfl HL0.out ?_; rintro _ w1 ⟨rfl, hr1⟩) | (refine wpList_invoke2 rfl _ "Less" _ _ _ rfl rfl rfl rfl (HL.out _ hr1) ?_; rintro _ w2 ⟨rfl, hr2⟩))
       go_ret
       exact HEnd.out z _ hr2 HE.out HBro.out _ (by simp; omega)
      ·go_wp2_with (first | (refine wpList_invoke2 rfl _ "Less" _ _ _ rfl rfl rfl rfl HL0.out ?_; rintro _ w1 ⟨rfl, hr1⟩) | (refine wpList_invoke2 rfl _ "Less" _ _ _ rfl rfl rfl rfl (HL.out _ hr1) ?_; rintro _ w2 ⟨rfl, hr2⟩))
       go_ret
       exact HEnd.out z _ hr2 HE.out HBro.out _ (by simp; omega)
     ·have HE := Lib.hid hless
      have HL := Lib.hid (fun W hr => HLess.out j2 i z x W hr HZ.out HX.out)
      rw [hless] at HL
      clear hless
      go_wp2_with (first | (refine wpList_invoke2 rfl _ "Less" _ _ _ rfl rfl rfl rfl HL0.out ?_; rintro _ w1 ⟨rfl, hr1⟩) | (refine wpList_invoke2 rfl _ "Less" _ _ _ rfl rfl rfl rfl (HL.out _ hr1) ?_; rintro _ w2 ⟨rfl, hr2⟩) | (refine wpList_invoke2 rfl _ "Swap" _ _ _ rfl rfl rfl rfl (HSwap.out j2 z _ hr2 HZ.out) ?_; intro v w3 hr3))
      go_roundw
      case rel => exact ⟨j2, swapL xs' i j2, by omega, rfl, HStep.out j2 z _ (by omega) (by omega) P2.out HZ.out HE.out HBro.out hr3⟩
      case measure => simp [intOf]; omega
   ·have HBro : Hid (∀ k, 0 < k → k < n → par k = i → ∀ z, xs'[k]? = some z → Le less y z) := Lib.hid fun k hk hkn hp z hz => by
     rcases HK.out k hk hp with e | e
     ·rw [e, HY.out] at hz
      obtain rfl := Option.some.inj hz
      cases hyy : less y y with
      | false => exact hyy
      | true => exact HO.out.asym y y hyy
     ·omega
    cases hless : less y x
    ·have HE := Lib.hid hless
     have HL := Lib.hid (HLess.out j1 i y x wr HU.out.r HY.out HX.out)
     rw [hless] at HL
     clear hless
     by_cases hmv : i0 < i
     ·go_wp2_with (refine wpList_invoke2 rfl _ "Less" _ _ _ rfl rfl rfl rfl HL.out ?_; rintro _ w1 ⟨rfl, hr1⟩)
      go_ret
      exact HEnd.out y _ hr1 HE.out HBro.out _ (by simp; omega)
     ·go_wp2_with (refine wpList_invoke2 rfl _ "Less" _ _ _ rfl rfl rfl rfl HL.out ?_; rintro _ w1 ⟨rfl, hr1⟩)
      go_ret
      exact HEnd.out y _ hr1 HE.out HBro.out _ (by simp; omega)
    ·have HE := Lib.hid hless
     have HL := Lib.hid (HLess.out j1 i y x wr HU.out.r HY.out HX.out)
     rw [hless] at HL
     clear hless
     go_wp2_with (first | (refine wpList_invoke2 rfl _ "Less" _ _ _ rfl rfl rfl rfl HL.out ?_; rintro _ w1 ⟨rfl, hr1⟩) | (refine wpList_invoke2 rfl _ "Swap" _ _ _ rfl rfl rfl rfl (HSwap.out j1 y _ hr1 HY.out) ?_; intro v w2 hr2))
     go_roundw
     case rel => exact ⟨j1, swapL xs' i j1, by omega, rfl, HStep.out j1 y _ (by omega) hlt1 P1.out HY.out HE.out HBro.out hr2⟩
     case measure => simp [intOf]; omega
  ·have HU := Lib.hid hu
   clear hu
   have HB : Hid (Below2 less n xs' i) := Lib.hid fun k hk hkn hp => by
    rcases HK.out k hk hp with e | e <;> omega
   by_cases hmv : i0 < i
   ·go_wp2_with fail
    go_ret
    exact downEnd_mk HU.out HB.out (by simp; omega)
   ·go_wp2_with fail
    go_ret
    exact downEnd_mk HU.out HB.out (by simp; omega)
end
end
section
open Go Go.RowKit
section
variable {α : Type} {less : α → α → Bool} {R : List α → World → Prop} {h : Value} {enc : α → Value}
structure HeapEnds {α : Type} (P : Program) (h : Value) (enc : α → Value) (cap : Nat) (R : List α → World → Prop) : Prop where
 push : ∀ xs x W, R xs W → xs.length < cap → Via P h "Push" #[enc x] W fun e W' => (∃ v, e = .returned v) ∧ R (xs ++ [x]) W'
 pop : ∀ xs x W, R (xs ++ [x]) W → Via P h "Pop" #[] W fun e W' => e = .returned (enc x) ∧ R xs W'
theorem IsHeap.upInv {xs : List α} (x : α) (hh : IsHeap less xs.length xs) : UpInv less (xs.length + 1) (xs ++ [x]) xs.length := by
 refine ⟨by omega, by simp, ?_, ?_⟩
 ·intro k hk hkn hne u v hu hv
  have hp : par k < k := by unfold par; omega
  rw [List.getElem?_append_left (by omega)] at hu hv
  exact hh k hk (by omega) trivial u v hu hv
 ·intro h0 c hc hcn hpc
  have hp : par c < c := by unfold par; omega
  omega
structure FixPre (less : α → α → Bool) (n : Nat) (xs : List α) (i : Nat) : Prop where
 a : Holds less n (fun k => par k ≠ i ∧ k ≠ i) xs
 b : 0 < i → ∀ c, 0 < c → c < n → par c = i → ∀ x y, xs[par i]? = some x → xs[c]? = some y → Le less x y
theorem fixPre_set (ho : Ordered less) {xs : List α} {n i : Nat} (z : α) (hh : IsHeap less n xs) (hi : i < n) (hn : n ≤ xs.length) : FixPre less n (xs.set i z) i := by
 refine ⟨?_, ?_⟩
 ·rintro k hk hkn ⟨h1, h2⟩ u v hu hv
  rw [List.getElem?_set_ne (Ne.symm h1)] at hu
  rw [List.getElem?_set_ne (Ne.symm h2)] at hv
  exact hh k hk hkn trivial u v hu hv
 ·intro h0 c hc hcn hpc u v hu hv
  have hp : par c < c := by unfold par; omega
  have hpi : par i < i := by unfold par; omega
  rw [List.getElem?_set_ne (by omega)] at hu hv
  have hx : xs[i]? = some xs[i] := List.getElem?_eq_getElem (by omega)
  exact ho.le_trans (hh i h0 (by omega) trivial _ _ hu hx) (hh c hc hcn trivial _ _ (by rw [hpc]; exact hx) hv)
theorem FixPre.down {n i : Nat} {xs : List α} (hf : FixPre less n xs i) (hn : n ≤ xs.length) : DownInv less 0 n i xs i :=
 ⟨hn, Nat.zero_le _, Nat.le_refl _, fun k hk hkn hc => hf.a k hk hkn ⟨hc.2.1, hc.2.2⟩, fun h0 _ => hf.b h0, fun h0 => (h0 rfl).elim⟩
theorem FixPre.up {n i : Nat} {xs : List α} (hf : FixPre less n xs i) (hi : i < n) (hn : n ≤ xs.length) (hd : Holds less n (fun k => 0 ≤ par k ∧ k ≠ i) xs) : UpInv less n xs i :=
 ⟨hi, hn, fun k hk hkn hc => hd k hk hkn ⟨Nat.zero_le _, hc⟩, hf.b⟩
theorem heap_of_holds {n : Nat} {xs : List α} (hd : Holds less n (fun k => 0 ≤ par k) xs) : IsHeap less n xs := fun k hk hkn _ => hd k hk hkn (Nat.zero_le _)
def HeapEnd (less : α → α → Bool) (R : List α → World → Prop) (ys : List α) (e : Ending) (W' : World) : Prop := (∃ v, e = .returned v) ∧ ∃ xs', R xs' W' ∧ xs'.Perm ys ∧ IsHeap less xs'.length xs'
def PopEnd (less : α → α → Bool) (R : List α → World → Prop) (enc : α → Value) (ys : List α) (e : Ending) (W' : World) : Prop :=
 ∃ x xs', e = .returned (enc x) ∧ R xs' W' ∧ (x :: xs').Perm ys ∧ (∀ y ∈ ys, Le less x y) ∧ IsHeap less xs'.length xs'
set_option maxHeartbeats 1000000 in
set_option maxRecDepth 100000 in
theorem heapPush_any (ho : Ordered less) (hH : HeapIf Tryz.prog h less R) {cap : Nat} (hE : HeapEnds Tryz.prog h enc cap R) (xs : List α) (x : α) (w : World) (hr : R xs w) (hh : IsHeap less xs.length xs) (hc : xs.length < cap) :
  Calls Tryz.prog 90 #[h, enc x] w (HeapEnd less R (xs ++ [x])) := by
 have HP := Lib.hid ((hE.push xs x w hr hc).mono (Q' := fun e w' => ∃ v, e = .returned v ∧ R (xs ++ [x]) w') fun e w' ⟨⟨v, he⟩, h⟩ => ⟨v, he, h⟩)
 have HL : Hid (∀ W, R (xs ++ [x]) W → Via Tryz.prog h "Len" #[] W fun e w' => ∃ v, e = .returned v ∧ v = .int .i64 (xs.length + 1) ∧ R (xs ++ [x]) w') := Lib.hid fun W hr => (hH.len _ W hr).mono fun e w' ⟨he, hR⟩ => ⟨_, he, by simp, hR⟩
 have HU : Hid (∀ W, R (xs ++ [x]) W → Calls Tryz.prog 109 #[h, .int .i64 xs.length] W fun e W' => (∃ v, e = .returned v) ∧ Hid (∃ xs', R xs' W' ∧ xs'.Perm (xs ++ [x]) ∧ IsHeap less xs'.length xs')) :=
  Lib.hid fun W hr => (up_any ho hH (xs.length + 1) xs.length (xs ++ [x]) W hr (hh.upInv x)).mono fun e W' ⟨hv, xs', hR, hk, hi⟩ => ⟨hv, Lib.hid ⟨xs', hR, hk.perm, by
   have := hk.perm.length_eq
   simp only [List.length_append, List.length_cons, List.length_nil] at this
   rw [this]; exact hi⟩⟩
 have hsz := hH.size _ _ hr
 clear hE hH ho hr hh hc
 go_enter Tryz.func90, Tryz.ntmps90
 go_wp2_with (first | (refine wpList_invoke1 rfl _ "Push" _ _ rfl rfl rfl HP.out ?_; intro v w1 hr1) | (refine wpList_invoke0 rfl _ "Len" _ rfl rfl (HL.out _ hr1) ?_; rintro _ w2 ⟨rfl, hr2⟩) | (go_at_call 109; refine (HU.out _ hr2).mono ?_; rintro e w3 ⟨⟨v, rfl⟩, HZ⟩))
 go_end0
 exact ⟨⟨_, rfl⟩, HZ.out⟩
set_option maxHeartbeats 1000000 in
set_option maxRecDepth 100000 in
theorem heapFix_any (ho : Ordered less) (hH : HeapIf Tryz.prog h less R) (xs : List α) (i : Nat) (w : World) (hr : R xs w) (hf : FixPre less xs.length xs i) (hi : i < xs.length) :
  Calls Tryz.prog 91 #[h, .int .i64 i] w (HeapEnd less R xs) := by
 have HL : Hid (Via Tryz.prog h "Len" #[] w fun e w' => ∃ v, e = .returned v ∧ v = .int .i64 xs.length ∧ R xs w') := Lib.hid ((hH.len _ w hr).mono fun e w' ⟨he, hR⟩ => ⟨_, he, rfl, hR⟩)
 have HD : Hid (∀ W, R xs W → Calls Tryz.prog 95 #[h, .int .i64 i, .int .i64 xs.length] W fun e W' => (e = .returned (.bool true) ∧ Hid (∃ xs', R xs' W' ∧ xs'.Perm xs ∧ IsHeap less xs'.length xs')) ∨ (e = .returned (.bool false) ∧ Hid (R xs W' ∧ UpInv less xs.length xs i))) :=
  Lib.hid fun W hr => (down_any ho hH 0 xs.length i xs W hr (hf.down (Nat.le_refl _)) (by omega)).mono fun e W' ⟨b, xs', he, hR, hk, h1, h2⟩ => by
   cases b with
   | true => exact .inl ⟨he, Lib.hid ⟨xs', hR, hk.perm, by rw [hk.perm.length_eq]; exact heap_of_holds (h1 rfl)⟩⟩
   | false =>
    obtain ⟨rfl, hd⟩ := h2 rfl
    exact .inr ⟨he, Lib.hid ⟨hR, hf.up hi (Nat.le_refl _) hd⟩⟩
 have HU : Hid (∀ W, R xs W → UpInv less xs.length xs i → Calls Tryz.prog 109 #[h, .int .i64 i] W fun e W' => (∃ v, e = .returned v) ∧ Hid (∃ xs', R xs' W' ∧ xs'.Perm xs ∧ IsHeap less xs'.length xs')) :=
  Lib.hid fun W hr hu => (up_any ho hH xs.length i xs W hr hu).mono fun e W' ⟨hv, xs', hR, hk, hi⟩ => ⟨hv, Lib.hid ⟨xs', hR, hk.perm, by rw [hk.perm.length_eq]; exact hi⟩⟩
 clear hH ho hr hf
 go_enter Tryz.func91, Tryz.ntmps91
 go_wp2_with (refine wpList_invoke0 rfl _ "Len" _ rfl rfl HL.out ?_; rintro _ w1 ⟨rfl, hr1⟩)
 refine (HD.out _ hr1).mono ?_
 rintro e w2 (⟨rfl, HT⟩ | ⟨rfl, HF⟩)
 ·go_wp2_with fail
  go_end0
  exact ⟨⟨_, rfl⟩, HT.out⟩
 ·go_wp2_with fail
  refine (HU.out _ HF.out.1 HF.out.2).mono ?_
  rintro e w3 ⟨⟨v, rfl⟩, HZ⟩
  go_wp2_with fail
  go_end0
  exact ⟨⟨_, rfl⟩, HZ.out⟩
set_option maxHeartbeats 1000000 in
set_option maxRecDepth 100000 in
theorem heapPop_any (ho : Ordered less) (hH : HeapIf Tryz.prog h less R) {cap : Nat} (hE : HeapEnds Tryz.prog h enc cap R) (xs : List α) (w : World) (hr : R xs w) (hh : IsHeap less xs.length xs) (hne : 0 < xs.length) :
  Calls Tryz.prog 74 #[h] w (PopEnd less R enc xs) := by
 obtain ⟨n, hn⟩ : ∃ n, xs.length = n + 1 := ⟨xs.length - 1, by omega⟩
 have hx0 : xs[0]? = some xs[0] := List.getElem?_eq_getElem hne
 obtain ⟨x, hxe⟩ : ∃ x, xs[0] = x := ⟨_, rfl⟩
 rw [hxe] at hx0
 have hxn : xs[n]? = some (xs[n]'(by omega)) := List.getElem?_eq_getElem (by omega)
 obtain ⟨y, hye⟩ : ∃ y, xs[n]'(by omega) = y := ⟨_, rfl⟩
 rw [hye] at hxn
 have hmin : ∀ y ∈ xs, Le less x y := fun y hy => by
  obtain ⟨k, hk, rfl⟩ := List.getElem_of_mem hy
  exact hh.first ho (Nat.le_refl _) hx0 k _ hk (List.getElem?_eq_getElem hk)
 have hat := swapL_at xs hx0 hxn
 have hlen := swapL_len xs 0 n
 have hd : DownInv less 0 n 0 (swapL xs 0 n) 0 := by
  refine ⟨by rw [hlen]; omega, Nat.le_refl _, Nat.le_refl _, ?_, fun h0 => by omega, fun h0 => (h0 rfl).elim⟩
  rintro k hk hkn ⟨_, h1, h2⟩ u v hu hv
  have hp : par k < k := by unfold par; omega
  rw [hat, if_neg (by omega), if_neg h1] at hu
  rw [hat, if_neg (by omega), if_neg h2] at hv
  exact hh k hk (by omega) trivial u v hu hv
 have hlast : (swapL xs 0 n)[n]? = some x := by rw [hat, if_pos rfl]
 have HL : Hid (Via Tryz.prog h "Len" #[] w fun e w' => ∃ v, e = .returned v ∧ v = .int .i64 (n + 1) ∧ R xs w') := Lib.hid ((hH.len _ w hr).mono fun e w' ⟨he, hR⟩ => ⟨_, he, by rw [hn]; simp, hR⟩)
 have HS : Hid (∀ W, R xs W → Via Tryz.prog h "Swap" #[.int .i64 0, .int .i64 n] W fun e w' => ∃ v, e = .returned v ∧ R (swapL xs 0 n) w') := Lib.hid fun W hr => (hH.swap xs W 0 n x y hr hx0 hxn).mono fun e w' ⟨⟨v, he⟩, hR⟩ => ⟨v, he, hR⟩
 have HD : Hid (∀ W, R (swapL xs 0 n) W → Calls Tryz.prog 95 #[h, .int .i64 0, .int .i64 n] W fun e W' => ∃ b : Bool, e = .returned (.bool b) ∧ Hid (∃ zs, R (zs ++ [x]) W' ∧ (x :: zs).Perm xs ∧ IsHeap less zs.length zs)) :=
  Lib.hid fun W hr => (down_any ho hH 0 n 0 (swapL xs 0 n) W hr hd (Nat.zero_le _)).mono fun e W' ⟨b, xs', he, hR, hk, h1, h2⟩ => by
   refine ⟨b, he, Lib.hid ?_⟩
   have hl' : xs'.length = n + 1 := by rw [hk.perm.length_eq, hlen, hn]
   have hheap : IsHeap less n xs' := by
    cases b with
    | true => exact heap_of_holds (h1 rfl)
    | false => exact fun k hk hkn _ => (h2 rfl).2 k hk hkn ⟨Nat.zero_le _, by omega⟩
   have hx' : xs'[n]? = some x := (hk.out n (Nat.le_refl _)).trans hlast
   have hsp : xs' = xs'.take n ++ [x] := by
    have h3 := List.take_append_drop n xs'
    have h4 : xs'.drop n = [x] := by
     obtain ⟨hlt, hg⟩ := List.getElem?_eq_some_iff.1 hx'
     rw [List.drop_eq_getElem_cons hlt, hg, List.drop_eq_nil_of_le (by omega)]
    rw [h4] at h3
    exact h3.symm
   refine ⟨xs'.take n, by rw [← hsp]; exact hR, ?_, ?_⟩
   ·refine List.Perm.trans ?_ (hk.perm.trans (swapL_perm _ _ _))
    conv => rhs; rw [hsp]
    exact List.perm_append_singleton x (xs'.take n) |>.symm
   ·have e : (xs'.take n).length = n := by simp; omega
    rw [e]
    intro k hk hkn _ u v hu hv
    have hp : par k < k := by unfold par; omega
    rw [List.getElem?_take_of_lt (by omega)] at hu hv
    exact hheap k hk hkn trivial u v hu hv
 have HQ : Hid (∀ zs W, R (zs ++ [x]) W → Via Tryz.prog h "Pop" #[] W fun e w' => ∃ v, e = .returned v ∧ v = enc x ∧ R zs w') := Lib.hid fun zs W hr => (hE.pop zs x W hr).mono fun e w' ⟨he, hR⟩ => ⟨_, he, rfl, hR⟩
 have HM := Lib.hid hmin
 have hsz := hH.size _ _ hr
 rw [hn] at hsz
 clear hE hH ho hr hh hne hn hx0 hxe hxn hye hmin hat hlen hd hlast
 go_enter Tryz.func74, Tryz.ntmps74
 go_wp2_with (first | (refine wpList_invoke0 rfl _ "Len" _ rfl rfl HL.out ?_; rintro _ w1 ⟨rfl, hr1⟩) | (refine wpList_invoke2 rfl _ "Swap" _ _ _ rfl rfl rfl rfl (HS.out _ hr1) ?_; intro v w2 hr2) | (go_at_call 95; refine (HD.out _ hr2).mono ?_; rintro e w3 ⟨b, rfl, HZ⟩; obtain ⟨zs, hz1, hz2, hz3⟩ := HZ.out; have HZ2 := Lib.hid hz2; have HZ3 := Lib.hid hz3; clear HZ hz2 hz3) | (refine wpList_invoke0 rfl _ "Pop" _ rfl rfl (HQ.out zs _ hz1) ?_; rintro _ w4 ⟨rfl, hr4⟩))
 go_ret
 exact ⟨x, zs, rfl, hr4, HZ2.out, HM.out, HZ3.out⟩
end
end
section
open Go Go.RowKit
section
variable {α : Type} {less : α → α → Bool} {R : List α → World → Prop} {h : Value} {enc : α → Value}
theorem rem_split {n : Nat} {xs ys zs : List α} {x : α} (hl : ys.length = n + 1) (hlast : ys[n]? = some x) (hk : Kept n ys zs) (hp : ys.Perm xs) (hheap : IsHeap less n zs) : ∃ ws, zs = ws ++ [x] ∧ (x :: ws).Perm xs ∧ IsHeap less ws.length ws := by
 have hl' : zs.length = n + 1 := by rw [hk.perm.length_eq, hl]
 have hx' : zs[n]? = some x := (hk.out n (Nat.le_refl _)).trans hlast
 have hsp : zs = zs.take n ++ [x] := by
  have h3 := List.take_append_drop n zs
  have h4 : zs.drop n = [x] := by
   obtain ⟨hlt, hg⟩ := List.getElem?_eq_some_iff.1 hx'
   rw [List.drop_eq_getElem_cons hlt, hg, List.drop_eq_nil_of_le (by omega)]
  rw [h4] at h3
  exact h3.symm
 refine ⟨zs.take n, hsp, ?_, ?_⟩
 ·refine List.Perm.trans ?_ (hk.perm.trans hp)
  conv => rhs; rw [hsp]
  exact List.perm_append_singleton x (zs.take n) |>.symm
 ·have e : (zs.take n).length = n := by simp; omega
  rw [e]
  intro k hk hkn _ u v hu hv
  have hp : par k < k := by unfold par; omega
  rw [List.getElem?_take_of_lt (by omega)] at hu hv
  exact hheap k hk hkn trivial u v hu hv
theorem fixPre_swap (ho : Ordered less) {xs : List α} {n i : Nat} {x y : α} (hh : IsHeap less (n + 1) xs) (hi : i < n) (hn : xs.length = n + 1) (hx : xs[i]? = some x) (hy : xs[n]? = some y) : FixPre less n (swapL xs i n) i := by
 have hat := swapL_at xs hx hy
 refine ⟨?_, ?_⟩
 ·rintro k hk hkn ⟨h1, h2⟩ u v hu hv
  have hp : par k < k := by unfold par; omega
  rw [hat, if_neg (by omega), if_neg h1] at hu
  rw [hat, if_neg (by omega), if_neg h2] at hv
  exact hh k hk (by omega) trivial u v hu hv
 ·intro h0 c hc hcn hpc u v hu hv
  have hp : par c < c := by unfold par; omega
  have hpi : par i < i := by unfold par; omega
  rw [hat, if_neg (by omega), if_neg (by omega)] at hu
  rw [hat, if_neg (by omega), if_neg (by omega)] at hv
  exact ho.le_trans (hh i h0 (by omega) trivial _ _ hu hx) (hh c hc (by omega) trivial _ _ (by rw [hpc]; exact hx) hv)
def RemEnd (less : α → α → Bool) (R : List α → World → Prop) (enc : α → Value) (ys : List α) (x : α) (e : Ending) (W' : World) : Prop :=
 e = .returned (enc x) ∧ ∃ xs', R xs' W' ∧ (x :: xs').Perm ys ∧ IsHeap less xs'.length xs'
set_option maxHeartbeats 1000000 in
set_option maxRecDepth 100000 in
theorem heapRemove_any (ho : Ordered less) (hH : HeapIf Tryz.prog h less R) {cap : Nat} (hE : HeapEnds Tryz.prog h enc cap R) (xs : List α) (i : Nat) (x : α) (w : World) (hr : R xs w) (hh : IsHeap less xs.length xs) (hx : xs[i]? = some x) :
  Calls Tryz.prog 94 #[h, .int .i64 i] w (RemEnd less R enc xs x) := by
 have hil := (List.getElem?_eq_some_iff.1 hx).1
 obtain ⟨n, hn⟩ : ∃ n, xs.length = n + 1 := ⟨xs.length - 1, by omega⟩
 have hxn : xs[n]? = some (xs[n]'(by omega)) := List.getElem?_eq_getElem (by omega)
 obtain ⟨y, hye⟩ : ∃ y, xs[n]'(by omega) = y := ⟨_, rfl⟩
 rw [hye] at hxn
 have hsz := hH.size _ _ hr
 have HL : Hid (Via Tryz.prog h "Len" #[] w fun e w' => ∃ v, e = .returned v ∧ v = .int .i64 (n + 1) ∧ R xs w') := Lib.hid ((hH.len _ w hr).mono fun e w' ⟨he, hR⟩ => ⟨_, he, by rw [hn]; simp, hR⟩)
 have HQ : Hid (∀ zs W, R (zs ++ [x]) W → Via Tryz.prog h "Pop" #[] W fun e w' => ∃ v, e = .returned v ∧ v = enc x ∧ R zs w') := Lib.hid fun zs W hr => (hE.pop zs x W hr).mono fun e w' ⟨he, hR⟩ => ⟨_, he, rfl, hR⟩
 rw [hn] at hsz hh
 by_cases hin : i = n
 ·subst hin
  obtain ⟨ws, hws, hwp, hwh⟩ := rem_split (less := less) (xs := xs) hn hx (Kept.refl i xs) (List.Perm.refl _) (fun k hk hkn _ => hh k hk (by omega) trivial)
  have HW2 := Lib.hid hwp
  have HW3 := Lib.hid hwh
  rw [hws] at HL
  clear hE hH ho hr hh hn hx hxn hye hil hwp hwh
  go_enter Tryz.func94, Tryz.ntmps94
  go_wp2_with (first | (refine wpList_invoke0 rfl _ "Len" _ rfl rfl HL.out ?_; rintro _ w1 ⟨rfl, hr1⟩) | (refine wpList_invoke0 rfl _ "Pop" _ rfl rfl (HQ.out ws _ hr1) ?_; rintro _ w4 ⟨rfl, hr4⟩))
  go_ret
  exact ⟨rfl, ws, hr4, HW2.out, HW3.out⟩
 ·have hin' : i < n := by omega
  have hlen := swapL_len xs i n
  have hat := swapL_at xs hx hxn
  have hf := fixPre_swap ho hh hin' hn hx hxn
  have hlast : (swapL xs i n)[n]? = some x := by rw [hat, if_pos rfl]
  have HSpl : Hid (∀ zs, Kept n (swapL xs i n) zs → IsHeap less n zs → ∃ ws, zs = ws ++ [x] ∧ (x :: ws).Perm xs ∧ IsHeap less ws.length ws) := Lib.hid fun zs hk hz => rem_split (by rw [hlen, hn]) hlast hk (swapL_perm _ _ _) hz
  have HS : Hid (∀ W, R xs W → Via Tryz.prog h "Swap" #[.int .i64 i, .int .i64 n] W fun e w' => ∃ v, e = .returned v ∧ R (swapL xs i n) w') := Lib.hid fun W hr => (hH.swap xs W i n x y hr hx hxn).mono fun e w' ⟨⟨v, he⟩, hR⟩ => ⟨v, he, hR⟩
  have HD : Hid (∀ W, R (swapL xs i n) W → Calls Tryz.prog 95 #[h, .int .i64 i, .int .i64 n] W fun e W' => (e = .returned (.bool true) ∧ Hid (∃ ws, R (ws ++ [x]) W' ∧ (x :: ws).Perm xs ∧ IsHeap less ws.length ws)) ∨ (e = .returned (.bool false) ∧ Hid (R (swapL xs i n) W' ∧ UpInv less n (swapL xs i n) i))) :=
   Lib.hid fun W hr => (down_any ho hH 0 n i (swapL xs i n) W hr (hf.down (by omega)) (by omega)).mono fun e W' ⟨b, xs', he, hR, hk, h1, h2⟩ => by
    cases b with
    | true =>
     obtain ⟨ws, rfl, e2, e3⟩ := HSpl.out xs' hk (heap_of_holds (h1 rfl))
     exact .inl ⟨he, Lib.hid ⟨ws, hR, e2, e3⟩⟩
    | false =>
     obtain ⟨rfl, hd⟩ := h2 rfl
     exact .inr ⟨he, Lib.hid ⟨hR, hf.up hin' (by omega) hd⟩⟩
  have HU : Hid (∀ W, R (swapL xs i n) W → UpInv less n (swapL xs i n) i → Calls Tryz.prog 109 #[h, .int .i64 i] W fun e W' => (∃ v, e = .returned v) ∧ Hid (∃ ws, R (ws ++ [x]) W' ∧ (x :: ws).Perm xs ∧ IsHeap less ws.length ws)) :=
   Lib.hid fun W hr hu => (up_any ho hH n i (swapL xs i n) W hr hu).mono fun e W' ⟨hv, xs', hR, hk, hi⟩ => by
    obtain ⟨ws, rfl, e2, e3⟩ := HSpl.out xs' hk hi
    exact ⟨hv, Lib.hid ⟨ws, hR, e2, e3⟩⟩
  have gin : ((n : Int) == (i : Int)) = false := by rw [beq_eq_false_iff_ne]; omega
  have gin2 : ((n : Int) != (i : Int)) = true := by rw [bne_iff_ne]; omega
  clear hE hH ho hr hh hn hx hxn hye hil hat hf hlast hlen HSpl
  go_enter Tryz.func94, Tryz.ntmps94
  go_wp2_with (first | (refine wpList_invoke0 rfl _ "Len" _ rfl rfl HL.out ?_; rintro _ w1 ⟨rfl, hr1⟩) | (refine wpList_invoke2 rfl _ "Swap" _ _ _ rfl rfl rfl rfl (HS.out _ hr1) ?_; intro v w2 hr2))
  refine (HD.out _ hr2).mono ?_
  rintro e w3 (⟨rfl, HT⟩ | ⟨rfl, HF⟩)
  ·obtain ⟨ws, hz1, hz2, hz3⟩ := HT.out
   have HZ2 := Lib.hid hz2
   have HZ3 := Lib.hid hz3
   clear HT hz2 hz3
   go_wp2_with (refine wpList_invoke0 rfl _ "Pop" _ rfl rfl (HQ.out ws _ hz1) ?_; rintro _ w4 ⟨rfl, hr4⟩)
   go_ret
   exact ⟨rfl, ws, hr4, HZ2.out, HZ3.out⟩
  ·go_wp2_with fail
   refine (HU.out _ HF.out.1 HF.out.2).mono ?_
   rintro e w4 ⟨⟨v, rfl⟩, HZ⟩
   obtain ⟨ws, hz1, hz2, hz3⟩ := HZ.out
   have HZ2 := Lib.hid hz2
   have HZ3 := Lib.hid hz3
   clear HZ hz2 hz3
   go_wp2_with (refine wpList_invoke0 rfl _ "Pop" _ rfl rfl (HQ.out ws _ hz1) ?_; rintro _ w5 ⟨rfl, hr5⟩)
   go_ret
   exact ⟨rfl, ws, hr5, HZ2.out, HZ3.out⟩
end
end
section
open Go Go.RowKit
theorem run_wrapCheck {P : Program} (t : TypeId) (a : Addr) (s m : ByteArray) (W : World) : (Builtin.ssaWrapNilChk_ #[t] t #[.pointer (some a), .string s, .string m]).run P W = .ok (.pointer (some a)) W := rfl
theorem method_value {P : Program} {T elem f : Nat} {name : String} {fuel : Nat} {a : Addr} {v : Value} {W : World} (hu : P.underlying T = some (.pointer elem))
  (hm : ((P.info? T).bind fun i => i.methods.find? (·.name == name)).map (fun m => (m.path.toList, m.func)) = some ([], some (f, false))) (hl : (loadVar elem a).run P W = .ok v W) :
  (method (fuel + 1) T (.pointer (some a)) name).run P W = .ok (f, v) W := by
 cases hi : P.info? T with
 | none => simp [hi] at hm
 | some i =>
  cases hf : i.methods.find? (·.name == name) with
  | none => simp [hi, hf] at hm
  | some m =>
   simp only [hi, Option.bind_some, hf, Option.map_some, Option.some.injEq, Prod.mk.injEq] at hm
   obtain ⟨hp, hfn⟩ := hm
   have ht : (typeInfo T).run P W = .ok i W := by simp [typeInfo, hi]
   have hun : (underlying T).run P W = .ok (.pointer elem) W := run_underlying hu W
   have he : m.path.isEmpty = true := by simpa using hp
   have hp' : m.path = #[] := Array.toList_inj.1 hp
   unfold method
   simp [Sem.run_bind, ht, hf, hp, hfn, follow, receiverAt, hun, Place.get, Result.andThen, strVal, asAddr]
   rw [if_pos hp']
   simp [Sem.run_bind, run_wrapCheck, Result.andThen, hl]
theorem via_value {P : Program} {T elem f : Nat} {name : String} {a : Addr} {v : Value} {W : World} {args : Array Value} {Q : Ending → World → Prop} (hu : P.underlying T = some (.pointer elem))
  (hm : ((P.info? T).bind fun i => i.methods.find? (·.name == name)).map (fun m => (m.path.toList, m.func)) = some ([], some (f, false))) (hl : (loadVar elem a).run P W = .ok v W)
  (eg : ∀ args w, (callFunc f args).run P w = .ok (.enter f args) w) (hc : Calls P f (#[v] ++ args) W Q) : Via P (.iface T (.pointer (some a))) name args W Q := by
 refine ⟨f, #[v] ++ args, ?_, hc⟩
 have h1 := method_value (P := P) (fuel := P.types.size + Made.depth - 1) (a := a) hu hm hl
 have h0 : 0 < Made.depth := by decide
 rw [show P.types.size + Made.depth - 1 + 1 = P.types.size + Made.depth from by omega] at h1
 unfold callMethod
 simp [Sem.run_bind, h1, Result.andThen, eg]
theorem method_pointer {P : Program} {T elem f : Nat} {name : String} {fuel : Nat} {a : Addr} {W : World} (hu : P.underlying T = some (.pointer elem))
  (hm : ((P.info? T).bind fun i => i.methods.find? (·.name == name)).map (fun m => (m.path.toList, m.func)) = some ([], some (f, true))) :
  (method (fuel + 1) T (.pointer (some a)) name).run P W = .ok (f, .pointer (some a)) W := by
 cases hi : P.info? T with
 | none => simp [hi] at hm
 | some i =>
  cases hf : i.methods.find? (·.name == name) with
  | none => simp [hi, hf] at hm
  | some m =>
   simp only [hi, Option.bind_some, hf, Option.map_some, Option.some.injEq, Prod.mk.injEq] at hm
   obtain ⟨hp, hfn⟩ := hm
   have ht : (typeInfo T).run P W = .ok i W := by simp [typeInfo, hi]
   have hun : (underlying T).run P W = .ok (.pointer elem) W := run_underlying hu W
   unfold method
   simp [Sem.run_bind, ht, hf, hp, hfn, follow, receiverAt, hun, Place.get, Result.andThen]
theorem via_pointer {P : Program} {T f : Nat} {name : String} {v : Value} {W : World} {args : Array Value} {Q : Ending → World → Prop} {n : Nat} (hn : P.types.size + Made.depth = n)
  (hm : (method n T v name).run P W = .ok (f, v) W)
  (eg : ∀ args w, (callFunc f args).run P w = .ok (.enter f args) w) (hc : Calls P f (#[v] ++ args) W Q) : Via P (.iface T v) name args W Q := by
 subst hn
 refine ⟨f, #[v] ++ args, ?_, hc⟩
 unfold callMethod
 simp [Sem.run_bind, hm, Result.andThen, eg]
end
end Go.Proofs.YtjbihgfdgaiecaaGreat

/- MClaims: Claims, RefClaims, Cl, TakeMath, ClList, Same. -/
namespace Go.Proofs.YtjbihgfdgaiecaaGreat
section
open Go Go.RowKit
def orI (a b : Int) : Int := if a ≠ 0 then a else b
def cmpC (i1 h1 i2 h2 : Int) : Int := if h1 = 4 then (if h2 = 4 then 0 else 1) else if h2 = 4 then -1 else orI (Lib.compareInt i1 i2) (Lib.compareInt h1 h2)
set_option maxHeartbeats 400000 in
theorem isNaN_int (x : Int) (w : World) : Calls Tryz.prog 105 #[.int .i64 x] w fun e w' => e = .returned (.bool false) ∧ w' = w := by
 have e1 : (x != x) = false := by simp
 go_enter Tryz.func105, Tryz.ntmps105
 go_wp2
 all_goals go_ret
 all_goals exact ⟨by first | rfl | simp, rfl⟩
set_option maxHeartbeats 400000 in
theorem cmp_Compare_int (x y : Int) (w : World) : Calls Tryz.prog 86 #[.int .i64 x, .int .i64 y] w fun e w' => e = .returned (.int .i64 (Lib.compareInt x y)) ∧ w' = w := by
 rcases Int.lt_trichotomy x y with h | h | h
 ·have H : Hid (Lib.compareInt x y = -1) := Lib.hid (by simp [Lib.compareInt, h])
  go_enter Tryz.func86, Tryz.ntmps86
  go_wp2_with (go_at_call 105; refine (isNaN_int _ _).mono ?_; rintro e w' ⟨rfl, rfl⟩)
  all_goals go_ret
  all_goals exact ⟨by rw [H.out]; rfl, rfl⟩
 ·have H : Hid (Lib.compareInt x y = 0) := Lib.hid (by simp [Lib.compareInt, h])
  have h1 : x ≤ y := by omega
  have h2 : y ≤ x := by omega
  clear h
  go_enter Tryz.func86, Tryz.ntmps86
  go_wp2_with (go_at_call 105; refine (isNaN_int _ _).mono ?_; rintro e w' ⟨rfl, rfl⟩)
  all_goals go_ret
  all_goals exact ⟨by rw [H.out]; rfl, rfl⟩
 ·have H : Hid (Lib.compareInt x y = 1) := Lib.hid (by unfold Lib.compareInt; rw [if_neg (by omega), if_pos (by omega)])
  have h1 : y ≤ x := by omega
  go_enter Tryz.func86, Tryz.ntmps86
  go_wp2_with (go_at_call 105; refine (isNaN_int _ _).mono ?_; rintro e w' ⟨rfl, rfl⟩)
  all_goals go_ret
  all_goals exact ⟨by rw [H.out]; rfl, rfl⟩
set_option maxHeartbeats 400000 in
theorem or_two (b : Nat) (x y : Int) (w : World) (h0 : w.cell? ⟨b, 0, none⟩ = some (.int .i64 x)) (h1 : w.cell? ⟨b, 1, none⟩ = some (.int .i64 y)) :
  Calls Tryz.prog 85 #[.slice (some ⟨b, 0, none⟩) 2 2] w fun e w' => e = .returned (.int .i64 (orI x y)) ∧ w = w' := by
 by_cases hx : x = 0
 ·have e1 : (x == 0) = true := by simp [hx]
  have e2 : (x != 0) = false := by simp [hx]
  have H : Hid (orI x y = y) := Lib.hid (by simp [orI, hx])
  clear hx
  by_cases hy : y = 0
  ·have e3 : (y != 0) = false := by simp [hy]
   have H2 : Hid (y = 0) := Lib.hid hy
   clear hy
   go_enter Tryz.func85, Tryz.ntmps85
   go_wp2
   go_rounds 3
   all_goals go_ret
   all_goals exact ⟨by rw [H.out, H2.out]; rfl, rfl⟩
  ·have e3 : (y != 0) = true := by simp [hy]
   clear hy
   go_enter Tryz.func85, Tryz.ntmps85
   go_wp2
   go_rounds 3
   all_goals go_ret
   all_goals exact ⟨by rw [H.out]; rfl, rfl⟩
 ·have e2 : (x != 0) = true := by simp [hx]
  have H : Hid (orI x y = x) := Lib.hid (by simp [orI, hx])
  clear hx
  go_enter Tryz.func85, Tryz.ntmps85
  go_wp2
  go_rounds 3
  all_goals go_ret
  all_goals exact ⟨by rw [H.out]; rfl, rfl⟩
set_option maxHeartbeats 400000 in
set_option maxRecDepth 100000 in
theorem compare_any (n1 i1 h1 n2 i2 h2 : Int) (w : World) : Gives Tryz.prog 60 #[.agg #[.int .i64 n1, .int .i64 i1, .int .i64 h1], .agg #[.int .i64 n2, .int .i64 i2, .int .i64 h2]] w (.int .i64 (cmpC i1 h1 i2 h2)) := by
 unfold Gives
 by_cases ha : h1 = 4
 ·by_cases hb : h2 = 4
  ·have e1 : ((h1 : Int) == 4) = true := by simp [ha]
   have e2 : ((h2 : Int) == 4) = true := by simp [hb]
   have H : Hid (cmpC i1 h1 i2 h2 = 0) := Lib.hid (by simp [cmpC, ha, hb])
   clear ha hb
   go_enter Tryz.func60, Tryz.ntmps60
   go_wp2
   refine wp_region_later (by kernel_rfl) (by kernel_rfl) ?_
   repeat (go_big_quiet_step (fail))
   refine wpQuiet_nil ?_
   rintro _ ⟨x1, rfl⟩
   go_wp2
   all_goals go_ret
   all_goals exact ⟨by rw [H.out]; rfl, Later.ex (by repeat (first | exact ext_refl _ | refine ext_alloc ?_ _ | refine ext_later ?_ _ | refine ext_drew ?_ | refine ext_drewN ?_ _))⟩
  ·have e1 : ((h1 : Int) == 4) = true := by simp [ha]
   have e2 : ((h2 : Int) == 4) = false := by simp [hb]
   have H : Hid (cmpC i1 h1 i2 h2 = 1) := Lib.hid (by simp [cmpC, ha, hb])
   clear ha hb
   go_enter Tryz.func60, Tryz.ntmps60
   go_wp2
   refine wp_region_later (by kernel_rfl) (by kernel_rfl) ?_
   repeat (go_big_quiet_step (fail))
   refine wpQuiet_nil ?_
   rintro _ ⟨x1, rfl⟩
   go_wp2
   all_goals go_ret
   all_goals exact ⟨by rw [H.out]; rfl, Later.ex (by repeat (first | exact ext_refl _ | refine ext_alloc ?_ _ | refine ext_later ?_ _ | refine ext_drew ?_ | refine ext_drewN ?_ _))⟩
 ·by_cases hb : h2 = 4
  ·have e1 : ((h1 : Int) == 4) = false := by simp [ha]
   have e2 : ((h2 : Int) == 4) = true := by simp [hb]
   have H : Hid (cmpC i1 h1 i2 h2 = -1) := Lib.hid (by simp [cmpC, ha, hb])
   clear ha hb
   go_enter Tryz.func60, Tryz.ntmps60
   go_wp2
   refine wp_region_later (by kernel_rfl) (by kernel_rfl) ?_
   repeat (go_big_quiet_step (fail))
   refine wpQuiet_nil ?_
   rintro _ ⟨x1, rfl⟩
   go_wp2
   all_goals go_ret
   all_goals exact ⟨by rw [H.out]; rfl, Later.ex (by repeat (first | exact ext_refl _ | refine ext_alloc ?_ _ | refine ext_later ?_ _ | refine ext_drew ?_ | refine ext_drewN ?_ _))⟩
  ·have e1 : ((h1 : Int) == 4) = false := by simp [ha]
   have e2 : ((h2 : Int) == 4) = false := by simp [hb]
   have H : Hid (cmpC i1 h1 i2 h2 = orI (Lib.compareInt i1 i2) (Lib.compareInt h1 h2)) := Lib.hid (by simp [cmpC, ha, hb])
   clear ha hb
   go_enter Tryz.func60, Tryz.ntmps60
   go_wp2
   refine wp_region_later (by kernel_rfl) (by kernel_rfl) ?_
   repeat (go_big_quiet_step (fail))
   refine wpQuiet_nil ?_
   rintro _ ⟨x1, rfl⟩
   go_wp2
   go_still_tail 10, (by kernel_rfl)
   repeat (first | still_step | still_call (cmp_Compare_int _ _ _))
   refine wpStill_nil ?_
   change wpList _ _ _ _ _ (World.drew _)
   go_wp2_with fail
   refine (or_two _ (Lib.compareInt i1 i2) (Lib.compareInt h1 h2) _ ?c0 ?c1).mono ?_
   case c0 => simp
   case c1 => simp
   rintro e _ ⟨rfl, rfl⟩
   go_wp2
   all_goals go_ret
   all_goals exact ⟨by rw [H.out]; rfl, Later.ex (by repeat (first | exact ext_refl _ | refine ext_alloc ?_ _ | refine ext_later ?_ _ | refine ext_drew ?_ | refine ext_drewN ?_ _))⟩
def nodeB (n : Int) : Bool := decide (0 ≤ n ∧ n < 8)
def incB (i : Int) : Bool := decide (0 ≤ i ∧ i ≤ 1000000)
def accB (h : Int) : Bool := decide (h = 2 ∨ h = 3)
def nothingB (i h : Int) : Bool := decide (i = 0 ∧ h = 0)
def mayB (n i h : Int) : Bool := decide ((0 ≤ n ∧ n < 8) ∧ ((i = 0 ∧ h = 0) ∨ ((0 ≤ i ∧ i ≤ 1000000) ∧ 1 ≤ h ∧ h ≤ 4)))
set_option maxHeartbeats 400000 in
theorem isNode_any (n : Int) (w : World) : Gives Tryz.prog 62 #[.int .i64 n] w (.bool (nodeB n)) := by
 unfold Gives
 by_cases q0 : 0 ≤ n <;> by_cases q1 : n < 8
 all_goals try (exfalso; omega)
 all_goals first | (have H : Hid (nodeB n = true) := Lib.hid (by simp [nodeB]; omega)) | (have H : Hid (nodeB n = false) := Lib.hid (by simp [nodeB]; omega))
 all_goals
  go_enter Tryz.func62, Tryz.ntmps62
  go_wp2
  all_goals go_ret
  all_goals exact ⟨by rw [H.out]; rfl, Later.ex (by repeat (first | exact ext_refl _ | refine ext_alloc ?_ _ | refine ext_later ?_ _ | refine ext_drew ?_ | refine ext_drewN ?_ _))⟩
set_option maxHeartbeats 400000 in
theorem isInc_any (n : Int) (w : World) : Gives Tryz.prog 64 #[.int .i64 n] w (.bool (incB n)) := by
 unfold Gives
 by_cases q0 : 0 ≤ n <;> by_cases q1 : n ≤ 1000000
 all_goals try (exfalso; omega)
 all_goals first | (have H : Hid (incB n = true) := Lib.hid (by simp [incB]; omega)) | (have H : Hid (incB n = false) := Lib.hid (by simp [incB]; omega))
 all_goals
  go_enter Tryz.func64, Tryz.ntmps64
  go_wp2
  all_goals go_ret
  all_goals exact ⟨by rw [H.out]; rfl, Later.ex (by repeat (first | exact ext_refl _ | refine ext_alloc ?_ _ | refine ext_later ?_ _ | refine ext_drew ?_ | refine ext_drewN ?_ _))⟩
set_option maxHeartbeats 400000 in
theorem saysNothing_any (n i h : Int) (w : World) : Gives Tryz.prog 63 #[.agg #[.int .i64 n, .int .i64 i, .int .i64 h]] w (.bool (nothingB i h)) := by
 unfold Gives
 by_cases q0 : i = 0 <;> by_cases q1 : h = 0
 all_goals try (exfalso; omega)
 all_goals first | (have H : Hid (nothingB i h = true) := Lib.hid (by simp [nothingB]; omega)) | (have H : Hid (nothingB i h = false) := Lib.hid (by simp [nothingB]; omega))
 all_goals first | (have eq0 : ((i : Int) == 0) = true := by simp [q0]) | (have eq0 : ((i : Int) == 0) = false := by simp [q0])
 all_goals first | (have eq1 : ((h : Int) == 0) = true := by simp [q1]) | (have eq1 : ((h : Int) == 0) = false := by simp [q1])
 all_goals clear q0 q1
 all_goals
  go_enter Tryz.func63, Tryz.ntmps63
  go_wp2
  all_goals go_ret
  all_goals exact ⟨by rw [H.out]; rfl, Later.ex (by repeat (first | exact ext_refl _ | refine ext_alloc ?_ _ | refine ext_later ?_ _ | refine ext_drew ?_ | refine ext_drewN ?_ _))⟩
set_option maxHeartbeats 400000 in
theorem may_any (n i h : Int) (w : World) : Gives Tryz.prog 36 #[.agg #[.int .i64 n, .int .i64 i, .int .i64 h]] w (.bool (mayB n i h)) := by
 unfold Gives
 rcases (show (¬ (0 ≤ n ∧ n < 8)) ∨ ((0 ≤ n ∧ n < 8) ∧ h = 0 ∧ i = 0) ∨ ((0 ≤ n ∧ n < 8) ∧ h = 0 ∧ i ≠ 0) ∨ ((0 ≤ n ∧ n < 8) ∧ h ≠ 0 ∧ ¬ (0 ≤ i ∧ i ≤ 1000000)) ∨ ((0 ≤ n ∧ n < 8) ∧ h ≠ 0 ∧ (0 ≤ i ∧ i ≤ 1000000) ∧ h < 1) ∨ ((0 ≤ n ∧ n < 8) ∧ h ≠ 0 ∧ (0 ≤ i ∧ i ≤ 1000000) ∧ 1 ≤ h ∧ 4 < h) ∨ ((0 ≤ n ∧ n < 8) ∧ h ≠ 0 ∧ (0 ≤ i ∧ i ≤ 1000000) ∧ 1 ≤ h ∧ h ≤ 4) from by omega) with q | q | q | q | q | q | q
 all_goals first | (have HH : Hid (mayB n i h = true) := Lib.hid (by simp only [mayB, decide_eq_true_eq]; omega)) | (have HH : Hid (mayB n i h = false) := Lib.hid (by simp only [mayB, decide_eq_false_iff_not]; omega))
 all_goals try (first | (have HN : Hid (∀ w, Gives Tryz.prog 62 #[.int .i64 n] w (.bool true)) := Lib.hid (fun w => (isNode_any n w).cast (by rw [show nodeB n = true from by simp only [nodeB, decide_eq_true_eq]; omega]))) | (have HN : Hid (∀ w, Gives Tryz.prog 62 #[.int .i64 n] w (.bool false)) := Lib.hid (fun w => (isNode_any n w).cast (by rw [show nodeB n = false from by simp only [nodeB, decide_eq_false_iff_not]; omega]))))
 all_goals try (first | (have HS : Hid (∀ w, Gives Tryz.prog 63 #[.agg #[.int .i64 n, .int .i64 i, .int .i64 h]] w (.bool true)) := Lib.hid (fun w => (saysNothing_any n i h w).cast (by rw [show nothingB i h = true from by simp only [nothingB, decide_eq_true_eq]; omega]))) | (have HS : Hid (∀ w, Gives Tryz.prog 63 #[.agg #[.int .i64 n, .int .i64 i, .int .i64 h]] w (.bool false)) := Lib.hid (fun w => (saysNothing_any n i h w).cast (by rw [show nothingB i h = false from by simp only [nothingB, decide_eq_false_iff_not]; omega]))))
 all_goals try (first | (have HI : Hid (∀ w, Gives Tryz.prog 64 #[.int .i64 i] w (.bool true)) := Lib.hid (fun w => (isInc_any i w).cast (by rw [show incB i = true from by simp only [incB, decide_eq_true_eq]; omega]))) | (have HI : Hid (∀ w, Gives Tryz.prog 64 #[.int .i64 i] w (.bool false)) := Lib.hid (fun w => (isInc_any i w).cast (by rw [show incB i = false from by simp only [incB, decide_eq_false_iff_not]; omega]))))
 all_goals try (first | (have e1 : ((h : Int) == 0) = true := by first | exact beq_iff_eq.2 (by omega) | (rw [bne_iff_ne]; omega)) | (have e1 : ((h : Int) == 0) = false := by first | exact beq_eq_false_iff_ne.2 (by omega) | exact bne_eq_false_iff_eq.2 (by omega)))
 all_goals first | (have l1 : 1 ≤ h := by omega) | (have l1 : h < 1 := by omega) | skip
 all_goals first | (have l2 : h ≤ 4 := by omega) | (have l2 : 4 < h := by omega) | skip
 all_goals clear q
 all_goals
  go_enter Tryz.func36, Tryz.ntmps36
  go_wp2_with (first | (go_at_call 62; (first | (with_reducible refine Gives.on (HN.out _) ?_) | (refine Gives.mono' (HN.out _) ?_)); intro x) | (go_at_call 63; (first | (with_reducible refine Gives.on (HS.out _) ?_) | (refine Gives.mono' (HS.out _) ?_)); intro x) | (go_at_call 64; (first | (with_reducible refine Gives.on (HI.out _) ?_) | (refine Gives.mono' (HI.out _) ?_)); intro x))
  all_goals (go_ret; exact ⟨by rw [HH.out]; first | rfl | (simp [go_sem]; omega), Later.ex (by repeat (first | exact ext_refl _ | refine ext_alloc ?_ _ | refine ext_later ?_ _ | refine ext_drew ?_ | refine ext_drewN ?_ _))⟩)
theorem orI_neg (a b a' b' : Int) (ha : a' = -a) (hb : b' = -b) : orI a' b' = -(orI a b) := by
 unfold orI; by_cases h : a = 0
 ·simp [h, ha, hb]
 ·rw [if_pos (by omega), if_pos h, ha]
theorem cmpI_neg (a b : Int) : Lib.compareInt b a = -(Lib.compareInt a b) := by unfold Lib.compareInt; split <;> split <;> (try split) <;> omega
theorem cmpC_neg (i1 h1 i2 h2 : Int) : cmpC i2 h2 i1 h1 = -(cmpC i1 h1 i2 h2) := by
 unfold cmpC
 by_cases a : h1 = 4
 ·by_cases b : h2 = 4
  ·rw [if_pos b, if_pos a, if_pos a, if_pos b]; rfl
  ·rw [if_neg b, if_pos a, if_pos a, if_neg b]
 ·by_cases b : h2 = 4
  ·rw [if_pos b, if_neg a, if_neg a, if_pos b]; rfl
  ·rw [if_neg b, if_neg a, if_neg a, if_neg b]
   exact orI_neg _ _ _ _ (cmpI_neg _ _) (cmpI_neg _ _)
theorem cmpI_spec (a b : Int) : (a < b ∧ Lib.compareInt a b = -1) ∨ (a = b ∧ Lib.compareInt a b = 0) ∨ (b < a ∧ Lib.compareInt a b = 1) := by
 unfold Lib.compareInt; split <;> (try split) <;> omega
theorem cmpC_spec (i1 h1 i2 h2 : Int) : cmpC i1 h1 i2 h2 = (if h1 = 4 then (if h2 = 4 then 0 else 1) else if h2 = 4 then -1 else if i1 < i2 then -1 else if i2 < i1 then 1 else if h1 < h2 then -1 else if h2 < h1 then 1 else 0) := by
 unfold cmpC
 split
 ·rfl
 ·split
  ·rfl
  ·rcases cmpI_spec i1 i2 with ⟨a, b⟩ | ⟨a, b⟩ | ⟨a, b⟩
   ·rw [b, if_pos a]; rfl
   ·rw [b, if_neg (by omega), if_neg (by omega)]
    show Lib.compareInt h1 h2 = _
    rfl
   ·rw [b, if_neg (by omega), if_pos a]; rfl
theorem cmpC_self (i h : Int) : cmpC i h i h = 0 := by rw [cmpC_spec]; repeat' split <;> omega
theorem cmpC_le {i1 h1 i2 h2 : Int} : cmpC i1 h1 i2 h2 ≤ 0 ↔ (h2 = 4 ∨ (h1 ≠ 4 ∧ (i1 < i2 ∨ (i1 = i2 ∧ h1 ≤ h2)))) := by rw [cmpC_spec]; repeat' split <;> omega
theorem cmpC_trans {i1 h1 i2 h2 i3 h3 : Int} (a : cmpC i1 h1 i2 h2 ≤ 0) (b : cmpC i2 h2 i3 h3 ≤ 0) : cmpC i1 h1 i3 h3 ≤ 0 := by rw [cmpC_le] at *; omega
end
section
open Go Go.RowKit
set_option maxHeartbeats 400000 in
theorem refNode_any (n : Int) (w : World) : Gives Tryz.prog 32 #[.int .i64 n] w (.bool (nodeB n)) := by
 unfold Gives
 by_cases q0 : 0 ≤ n <;> by_cases q1 : n < 8
 all_goals try (exfalso; omega)
 all_goals first | (have H : Hid (nodeB n = true) := Lib.hid (by simp [nodeB]; omega)) | (have H : Hid (nodeB n = false) := Lib.hid (by simp [nodeB]; omega))
 all_goals
  go_enter Tryz.func32, Tryz.ntmps32
  go_wp2
  all_goals go_ret
  all_goals exact ⟨by rw [H.out]; rfl, Later.ex (by repeat (first | exact ext_refl _ | refine ext_alloc ?_ _ | refine ext_later ?_ _ | refine ext_drew ?_ | refine ext_drewN ?_ _))⟩
set_option maxHeartbeats 400000 in
theorem refNothing_any (n i h : Int) (w : World) : Gives Tryz.prog 39 #[.agg #[.int .i64 n, .int .i64 i, .int .i64 h]] w (.bool (nothingB i h)) := by
 unfold Gives
 by_cases q0 : i = 0 <;> by_cases q1 : h = 0
 all_goals try (exfalso; omega)
 all_goals first | (have H : Hid (nothingB i h = true) := Lib.hid (by simp [nothingB]; omega)) | (have H : Hid (nothingB i h = false) := Lib.hid (by simp [nothingB]; omega))
 all_goals first | (have eq0 : ((i : Int) == 0) = true := by simp [q0]) | (have eq0 : ((i : Int) == 0) = false := by simp [q0])
 all_goals first | (have eq1 : ((h : Int) == 0) = true := by simp [q1]) | (have eq1 : ((h : Int) == 0) = false := by simp [q1])
 all_goals clear q0 q1
 all_goals
  go_enter Tryz.func39, Tryz.ntmps39
  go_wp2
  all_goals go_ret
  all_goals exact ⟨by rw [H.out]; rfl, Later.ex (by repeat (first | exact ext_refl _ | refine ext_alloc ?_ _ | refine ext_later ?_ _ | refine ext_drew ?_ | refine ext_drewN ?_ _))⟩
set_option maxHeartbeats 400000 in
theorem refMay_any (n i h : Int) (w : World) : Gives Tryz.prog 38 #[.agg #[.int .i64 n, .int .i64 i, .int .i64 h]] w (.bool (mayB n i h)) := by
 unfold Gives
 rcases (show (¬ (0 ≤ n ∧ n < 8)) ∨ ((0 ≤ n ∧ n < 8) ∧ h = 0 ∧ i = 0) ∨ ((0 ≤ n ∧ n < 8) ∧ ¬ (h = 0 ∧ i = 0) ∧ i < 0) ∨ ((0 ≤ n ∧ n < 8) ∧ ¬ (h = 0 ∧ i = 0) ∧ 0 ≤ i ∧ 1000000 < i) ∨ ((0 ≤ n ∧ n < 8) ∧ ¬ (h = 0 ∧ i = 0) ∧ 0 ≤ i ∧ i ≤ 1000000 ∧ h < 1) ∨ ((0 ≤ n ∧ n < 8) ∧ ¬ (h = 0 ∧ i = 0) ∧ 0 ≤ i ∧ i ≤ 1000000 ∧ 1 ≤ h ∧ 4 < h) ∨ ((0 ≤ n ∧ n < 8) ∧ ¬ (h = 0 ∧ i = 0) ∧ 0 ≤ i ∧ i ≤ 1000000 ∧ 1 ≤ h ∧ h ≤ 4) from by omega) with q | q | q | q | q | q | q
 all_goals first | (have HH : Hid (mayB n i h = true) := Lib.hid (by simp only [mayB, decide_eq_true_eq]; omega)) | (have HH : Hid (mayB n i h = false) := Lib.hid (by simp only [mayB, decide_eq_false_iff_not]; omega))
 all_goals try (first | (have HN : Hid (∀ w, Gives Tryz.prog 32 #[.int .i64 n] w (.bool true)) := Lib.hid (fun w => (refNode_any n w).cast (by rw [show nodeB n = true from by simp only [nodeB, decide_eq_true_eq]; omega]))) | (have HN : Hid (∀ w, Gives Tryz.prog 32 #[.int .i64 n] w (.bool false)) := Lib.hid (fun w => (refNode_any n w).cast (by rw [show nodeB n = false from by simp only [nodeB, decide_eq_false_iff_not]; omega]))))
 all_goals try (first | (have HS : Hid (∀ w, Gives Tryz.prog 39 #[.agg #[.int .i64 n, .int .i64 i, .int .i64 h]] w (.bool true)) := Lib.hid (fun w => (refNothing_any n i h w).cast (by rw [show nothingB i h = true from by simp only [nothingB, decide_eq_true_eq]; omega]))) | (have HS : Hid (∀ w, Gives Tryz.prog 39 #[.agg #[.int .i64 n, .int .i64 i, .int .i64 h]] w (.bool false)) := Lib.hid (fun w => (refNothing_any n i h w).cast (by rw [show nothingB i h = false from by simp only [nothingB, decide_eq_false_iff_not]; omega]))))
 all_goals first | (have l1 : 1 ≤ h := by omega) | (have l1 : h < 1 := by omega) | skip
 all_goals first | (have l2 : h ≤ 4 := by omega) | (have l2 : 4 < h := by omega) | skip
 all_goals first | (have l3 : 0 ≤ i := by omega) | (have l3 : i < 0 := by omega) | skip
 all_goals first | (have l4 : i ≤ 1000000 := by omega) | (have l4 : 1000000 < i := by omega) | skip
 all_goals clear q
 all_goals
  go_enter Tryz.func38, Tryz.ntmps38
  go_wp2_with (first | (go_at_call 32; (first | (with_reducible refine Gives.on (HN.out _) ?_) | (refine Gives.mono' (HN.out _) ?_)); intro x) | (go_at_call 39; (first | (with_reducible refine Gives.on (HS.out _) ?_) | (refine Gives.mono' (HS.out _) ?_)); intro x))
  all_goals (go_ret; exact ⟨by rw [HH.out]; first | rfl | (simp [go_sem]; omega), Later.ex (by repeat (first | exact ext_refl _ | refine ext_alloc ?_ _ | refine ext_later ?_ _ | refine ext_drew ?_ | refine ext_drewN ?_ _))⟩)
set_option maxHeartbeats 400000 in
theorem refCmp_any (a b : Int) (w : World) : Gives Tryz.prog 87 #[.int .i64 a, .int .i64 b] w (.int .i64 (Lib.compareInt a b)) := by
 unfold Gives
 by_cases q0 : a < b <;> by_cases q1 : b < a
 all_goals try (exfalso; omega)
 all_goals first | (have HH : Hid (Lib.compareInt a b = -1) := Lib.hid (by unfold Lib.compareInt; rw [if_pos (by omega)])) | (have HH : Hid (Lib.compareInt a b = 1) := Lib.hid (by unfold Lib.compareInt; rw [if_neg (by omega), if_pos (by omega)])) | (have HH : Hid (Lib.compareInt a b = 0) := Lib.hid (by unfold Lib.compareInt; rw [if_neg (by omega), if_neg (by omega)]))
 all_goals
  go_enter Tryz.func87, Tryz.ntmps87
  go_wp2_with (fail)
  all_goals (go_ret; exact ⟨by rw [HH.out]; first | rfl | (simp [go_sem]; omega), Later.ex (by repeat (first | exact ext_refl _ | refine ext_alloc ?_ _ | refine ext_later ?_ _ | refine ext_drew ?_ | refine ext_drewN ?_ _))⟩)
set_option maxHeartbeats 400000 in
theorem refCompare_any (n1 i1 h1 n2 i2 h2 : Int) (w : World) : Gives Tryz.prog 61 #[.agg #[.int .i64 n1, .int .i64 i1, .int .i64 h1], .agg #[.int .i64 n2, .int .i64 i2, .int .i64 h2]] w (.int .i64 (cmpC i1 h1 i2 h2)) := by
 unfold Gives
 by_cases q0 : h1 = 4 <;> by_cases q1 : h2 = 4 <;> by_cases q2 : i1 = i2
 all_goals try (exfalso; omega)
 all_goals first | (have HH : Hid (cmpC i1 h1 i2 h2 = 0) := Lib.hid (by unfold cmpC; rw [if_pos (by omega), if_pos (by omega)])) | (have HH : Hid (cmpC i1 h1 i2 h2 = 1) := Lib.hid (by unfold cmpC; rw [if_pos (by omega), if_neg (by omega)])) | (have HH : Hid (cmpC i1 h1 i2 h2 = -1) := Lib.hid (by unfold cmpC; rw [if_neg (by omega), if_pos (by omega)])) | (have HH : Hid (cmpC i1 h1 i2 h2 = Lib.compareInt h1 h2) := Lib.hid (by unfold cmpC; rw [if_neg (by omega), if_neg (by omega), (show Lib.compareInt i1 i2 = 0 by unfold Lib.compareInt; rw [if_neg (by omega), if_neg (by omega)])]; simp [orI])) | (have HH : Hid (cmpC i1 h1 i2 h2 = Lib.compareInt i1 i2) := Lib.hid (by unfold cmpC; rw [if_neg (by omega), if_neg (by omega)]; unfold orI Lib.compareInt; rw [if_pos]; split <;> (try split) <;> omega))
 all_goals try (first | (have e1 : ((h1 : Int) == 4) = true := by first | exact beq_iff_eq.2 (by omega) | (rw [bne_iff_ne]; omega)) | (have e1 : ((h1 : Int) == 4) = false := by first | exact beq_eq_false_iff_ne.2 (by omega) | exact bne_eq_false_iff_eq.2 (by omega)))
 all_goals try (first | (have e2 : ((h2 : Int) == 4) = true := by first | exact beq_iff_eq.2 (by omega) | (rw [bne_iff_ne]; omega)) | (have e2 : ((h2 : Int) == 4) = false := by first | exact beq_eq_false_iff_ne.2 (by omega) | exact bne_eq_false_iff_eq.2 (by omega)))
 all_goals try (first | (have e3 : ((i1 : Int) != i2) = true := by first | exact beq_iff_eq.2 (by omega) | (rw [bne_iff_ne]; omega)) | (have e3 : ((i1 : Int) != i2) = false := by first | exact beq_eq_false_iff_ne.2 (by omega) | exact bne_eq_false_iff_eq.2 (by omega)))
 all_goals clear q0 q1 q2
 all_goals
  go_enter Tryz.func61, Tryz.ntmps61
  go_wp2
  refine wp_region_later (by kernel_rfl) (by kernel_rfl) ?_
  repeat (go_big_quiet_step (fail))
  refine wpQuiet_nil ?_
  rintro _ ⟨x1, rfl⟩
  go_wp2_with (go_at_call 87; refine Gives.mono' (refCmp_any _ _ _) ?_; intro x)
  all_goals (go_ret; exact ⟨by rw [HH.out]; first | rfl | (simp [go_sem]; omega), Later.ex (by repeat (first | exact ext_refl _ | refine ext_alloc ?_ _ | refine ext_later ?_ _ | refine ext_drew ?_ | refine ext_drewN ?_ _))⟩)
end
section
open Go Go.RowKit
structure Cl where
 n : Int
 i : Int
 h : Int
def Cl.val (c : Cl) : Value := .agg #[.int .i64 c.n, .int .i64 c.i, .int .i64 c.h]
def Cl.zero : Cl := ⟨0, 0, 0⟩
def cmpK (a b : Cl) : Int := cmpC a.i a.h b.i b.h
def mayK (c : Cl) : Bool := mayB c.n c.i c.h
def nothingK (c : Cl) : Bool := nothingB c.i c.h
structure Td where
 c : Cl
 n : Nat
def cells4 (t : Td) : List Value := [.int .i64 t.c.n, .int .i64 t.c.i, .int .i64 t.c.h, .int .i64 t.n]
def cellsT (l : List Td) : List Value := l.flatMap cells4
theorem cells4_len (t : Td) : (cells4 t).length = 4 := rfl
theorem cellsT_snoc (l : List Td) (t : Td) : cellsT (l ++ [t]) = cellsT l ++ [.int .i64 t.c.n, .int .i64 t.c.i, .int .i64 t.c.h, .int .i64 t.n] := by simp [cellsT, cells4]
theorem cellsT_len (l : List Td) : (cellsT l).length = l.length * 4 := by
 induction l with
 | nil => rfl
 | cons c l ih => rw [show cellsT (c :: l) = cells4 c ++ cellsT l from rfl, List.length_append, ih, cells4_len, List.length_cons]; omega
theorem cellsT_at (xs : List Td) : ∀ (k : Nat) (t : Td), xs[k]? = some t → (cellsT xs)[k * 4]? = some (.int .i64 t.c.n) ∧ (cellsT xs)[k * 4 + 1]? = some (.int .i64 t.c.i) ∧ (cellsT xs)[k * 4 + 2]? = some (.int .i64 t.c.h) ∧ (cellsT xs)[k * 4 + 3]? = some (.int .i64 t.n) := by
 induction xs with
 | nil => intro k c h; simp at h
 | cons x xs ih =>
  intro k c h
  cases k with
  | zero =>
   simp at h
   subst h
   exact ⟨rfl, rfl, rfl, rfl⟩
  | succ k =>
   have := ih k c (by simpa using h)
   have e : cellsT (x :: xs) = cells4 x ++ cellsT xs := rfl
   have g : ∀ j, (cellsT (x :: xs))[(k + 1) * 4 + j]? = (cellsT xs)[k * 4 + j]? := fun j => by
    rw [e, List.getElem?_append_right (by rw [cells4_len]; omega), cells4_len]
    congr 1
    omega
   exact ⟨(g 0).trans this.1, (g 1).trans this.2.1, (g 2).trans this.2.2.1, (g 3).trans this.2.2.2⟩
theorem addr_at (g i : Nat) : (⟨g, 0, none⟩ : Addr).add i = ⟨g, i, none⟩ := by unfold Addr.add; split <;> simp_all
theorem cell_four_new (W : World) (x y z u : Value) (t : TypeId) (j : Nat) (v : Value) (h : [x, y, z, u][j]? = some v) : (W.alloc (.cells #[x, y, z, u] t)).cell? ((⟨W.heap.size, 0, none⟩ : Addr).add j) = some v := by
 have hb := heap_alloc_new W (.cells #[x, y, z, u] t)
 rw [addr_at]
 simp only [World.cell?, hb]
 simpa using h
theorem row_set {W : World} {g cap : Nat} {cur : Array Value} {T : TypeId} {L : List Td} {k : Nat} (t : Td) (hg : W.heap[g]? = some (.cells cur T (0, 0))) (hs : cur.size = cap * 4) (hc : L.length ≤ cap) (hk : k < L.length)
  (ht : cur.toList.take (L.length * 4) = cellsT L) :
  ∃ cur', ((((W.setCell ⟨g, k * 4, none⟩ (.int .i64 t.c.n)).setCell ⟨g, k * 4 + 1, none⟩ (.int .i64 t.c.i)).setCell ⟨g, k * 4 + 2, none⟩ (.int .i64 t.c.h)).setCell ⟨g, k * 4 + 3, none⟩ (.int .i64 t.n)).heap[g]? = some (.cells cur' T (0, 0)) ∧
   cur'.size = cap * 4 ∧ cur'.toList.take ((L.set k t).length * 4) = cellsT (L.set k t) := by
 have h1 := heap_setCell_same W g (k * 4) _ _ (.int .i64 t.c.n) hg
 have h2 := heap_setCell_same _ g (k * 4 + 1) _ _ (.int .i64 t.c.i) h1
 have h3 := heap_setCell_same _ g (k * 4 + 2) _ _ (.int .i64 t.c.h) h2
 have h4 := heap_setCell_same _ g (k * 4 + 3) _ _ (.int .i64 t.n) h3
 refine ⟨_, h4, by simp [hs], ?_⟩
 apply List.ext_getElem?
 intro j
 rw [List.length_set]
 by_cases hj : j < L.length * 4
 ·obtain ⟨q, r, hr, rfl⟩ : ∃ q r, r < 4 ∧ j = q * 4 + r := ⟨j / 4, j % 4, by omega, by omega⟩
  have hq : q < L.length := by omega
  rw [List.getElem?_take_of_lt hj]
  have hold : cur.toList[q * 4 + r]? = (cellsT L)[q * 4 + r]? := by rw [← ht, List.getElem?_take_of_lt hj]
  have hold' : cur[q * 4 + r]? = (cellsT L)[q * 4 + r]? := by simpa using hold
  by_cases e : q = k
  ·subst e
   have hset : (L.set q t)[q]? = some t := by simp [hq]
   obtain ⟨a0, a1, a2, a3⟩ := cellsT_at _ q t hset
   rcases (by omega : r = 0 ∨ r = 1 ∨ r = 2 ∨ r = 3) with rfl | rfl | rfl | rfl
   ·simp only [Nat.add_zero]
    rw [a0]
    have hb : q * 4 < cur.size := by omega
    simp [hb]
   ·rw [a1]
    have hb : q * 4 + 1 < cur.size := by omega
    simp [hb]
   ·rw [a2]
    have hb : q * 4 + 2 < cur.size := by omega
    simp [hb]
   ·rw [a3]
    have hb : q * 4 + 3 < cur.size := by omega
    simp [hb]
  ·have hset : (L.set k t)[q]? = some L[q] := by rw [List.getElem?_set_ne (Ne.symm e)]; exact List.getElem?_eq_getElem hq
   obtain ⟨a0, a1, a2, a3⟩ := cellsT_at _ q _ hset
   obtain ⟨b0, b1, b2, b3⟩ := cellsT_at L q _ (List.getElem?_eq_getElem hq)
   have hne : ∀ j, j < 4 → (k * 4 + j) ≠ q * 4 + r := fun j hj => by omega
   have n0 := hne 0 (by omega)
   have n1 := hne 1 (by omega)
   have n2 := hne 2 (by omega)
   have n3 := hne 3 (by omega)
   have hl : (cellsT (L.set k t))[q * 4 + r]? = (cellsT L)[q * 4 + r]? := by
    rcases (by omega : r = 0 ∨ r = 1 ∨ r = 2 ∨ r = 3) with rfl | rfl | rfl | rfl
    ·exact a0.trans b0.symm
    ·exact a1.trans b1.symm
    ·exact a2.trans b2.symm
    ·exact a3.trans b3.symm
   rw [hl, ← hold']
   simp only [Nat.add_zero] at n0
   simp [n0, n1, n2, n3]
 ·rw [List.getElem?_eq_none (by simp; omega), List.getElem?_eq_none (by rw [cellsT_len, List.length_set]; omega)]
end
section
open Go Go.RowKit
def Td.lt (t u : Td) : Prop := t.n < u.n ∨ (t.n = u.n ∧ t.c.n < u.c.n)
theorem Td.lt_trans {a b c : Td} (h : a.lt b) (k : b.lt c) : a.lt c := by unfold Td.lt at *; omega
theorem Td.lt_asymm {a b : Td} (h : a.lt b) : ¬ b.lt a := by unfold Td.lt at *; omega
theorem Td.lt_total {a b : Td} (h : ¬ a.lt b) (hn : a.c.n ≠ b.c.n) : b.lt a := by unfold Td.lt at *; omega
structure Picked (L O rem : List Td) : Prop where
 perm : (O ++ rem).Perm L
 sorted : O.Pairwise Td.lt
 low : ∀ x ∈ O, ∀ y ∈ rem, x.lt y
theorem Picked.nil (L : List Td) : Picked L [] L := ⟨List.Perm.refl _, List.Pairwise.nil, fun _ h => by simp at h⟩
theorem picked_unique (O : List Td) : ∀ (L L' O' rem rem' : List Td), Picked L O rem → Picked L' O' rem' → L.Perm L' → O.length = O'.length → O = O' ∧ rem.Perm rem' := by
 induction O with
 | nil =>
  intro L L' O' rem rem' h h' hp hl
  obtain rfl : O' = [] := List.eq_nil_of_length_eq_zero hl.symm
  exact ⟨rfl, by simpa using (h.perm.trans hp).trans h'.perm.symm⟩
 | cons x O ih =>
  intro L L' O' rem rem' h h' hp hl
  cases O' with
  | nil => simp at hl
  | cons x' O' =>
   have hp' : (x :: O ++ rem).Perm (x' :: O' ++ rem') := (h.perm.trans hp).trans h'.perm.symm
   have a : x = x' ∨ x'.lt x := by
    have : x ∈ x' :: O' ++ rem' := hp'.subset (by simp)
    rcases List.mem_append.1 this with h1 | h1
    ·rcases List.mem_cons.1 h1 with h2 | h2
     ·exact .inl h2
     ·exact .inr ((List.pairwise_cons.1 h'.sorted).1 x h2)
    ·exact .inr (h'.low x' (by simp) x h1)
   have b : x' = x ∨ x.lt x' := by
    have : x' ∈ x :: O ++ rem := hp'.symm.subset (by simp)
    rcases List.mem_append.1 this with h1 | h1
    ·rcases List.mem_cons.1 h1 with h2 | h2
     ·exact .inl h2
     ·exact .inr ((List.pairwise_cons.1 h.sorted).1 x' h2)
    ·exact .inr (h.low x (by simp) x' h1)
   obtain rfl : x = x' := by
    rcases a with e | a
    ·exact e
    ·rcases b with e | b
     ·exact e.symm
     ·exact absurd b (Td.lt_asymm a)
   have hp2 : (O ++ rem).Perm (O' ++ rem') := by simpa using hp'
   obtain ⟨rfl, hr⟩ := ih (O ++ rem) (O' ++ rem') O' rem rem' ⟨List.Perm.refl _, (List.pairwise_cons.1 h.sorted).2, fun y hy => h.low y (by simp [hy])⟩ ⟨List.Perm.refl _, (List.pairwise_cons.1 h'.sorted).2, fun y hy => h'.low y (by simp [hy])⟩ hp2 (by simpa using hl)
   exact ⟨rfl, hr⟩
def Once (L : List Td) : Prop := L.Pairwise fun t u => t.c.n ≠ u.c.n
theorem once_filter (R : List Td) (u : Td) (h : Once R) (hu : u ∈ R) : R.Perm (u :: R.filter fun t => !(t.c.n == u.c.n)) := by
 unfold Once at h
 induction R with
 | nil => simp at hu
 | cons x R ih =>
  rw [List.pairwise_cons] at h
  rcases List.mem_cons.1 hu with rfl | h1
  ·have : R.filter (fun t => !(t.c.n == u.c.n)) = R := by
    rw [List.filter_eq_self]
    intro t ht
    have := h.1 t ht
    simp only [Bool.not_eq_true', beq_eq_false_iff_ne, ne_eq]
    exact fun e => this e.symm
   simp [this]
  ·have hne : x.c.n ≠ u.c.n := h.1 u h1
   have : (x :: R).filter (fun t => !(t.c.n == u.c.n)) = x :: R.filter (fun t => !(t.c.n == u.c.n)) := by simp [hne]
   rw [this]
   exact ((ih h.2 h1).cons x).trans (List.Perm.swap _ _ _)
theorem Once.sub {L R : List Td} (h : Once L) (hs : R.Sublist L) : Once R := List.Pairwise.sublist hs h
def BestOf (L : List Td) (tk : Int → Bool) (k : Nat) (b : Int) : Prop :=
 (b = -1 ∧ ∀ j, j < k → ∀ t, L[j]? = some t → tk t.c.n = true) ∨
 (∃ (m : Nat) (u : Td), b = m ∧ m < k ∧ L[m]? = some u ∧ tk u.c.n = false ∧ ∀ j, j < k → ∀ t, L[j]? = some t → tk t.c.n = false → ¬ t.lt u)
theorem BestOf.zero (L : List Td) (tk : Int → Bool) : BestOf L tk 0 (-1) := .inl ⟨rfl, fun j hj => by omega⟩
theorem BestOf.skip {L : List Td} {tk : Int → Bool} {k : Nat} {b : Int} {t : Td} (h : BestOf L tk k b) (hk : L[k]? = some t) (ht : tk t.c.n = true) : BestOf L tk (k + 1) b := by
 rcases h with ⟨hb, h⟩ | ⟨m, u, hb, hm, hu, hn, h⟩
 ·refine .inl ⟨hb, fun j hj s hs => ?_⟩
  rcases (by omega : j < k ∨ j = k) with h1 | rfl
  ·exact h j h1 s hs
  ·rw [hk] at hs; obtain rfl := Option.some.inj hs; exact ht
 ·refine .inr ⟨m, u, hb, by omega, hu, hn, fun j hj s hs hns => ?_⟩
  rcases (by omega : j < k ∨ j = k) with h1 | rfl
  ·exact h j h1 s hs hns
  ·rw [hk] at hs; obtain rfl := Option.some.inj hs; rw [ht] at hns; simp at hns
theorem BestOf.first {L : List Td} {tk : Int → Bool} {k : Nat} {t : Td} (h : BestOf L tk k (-1)) (hk : L[k]? = some t) (ht : tk t.c.n = false) : BestOf L tk (k + 1) k := by
 rcases h with ⟨_, h⟩ | ⟨m, u, hb, _⟩
 ·refine .inr ⟨k, t, rfl, by omega, hk, ht, fun j hj s hs hns => ?_⟩
  rcases (by omega : j < k ∨ j = k) with h1 | rfl
  ·have := h j h1 s hs; rw [this] at hns; simp at hns
  ·rw [hk] at hs; obtain rfl := Option.some.inj hs; exact fun e => Td.lt_asymm e e
 ·omega
theorem BestOf.better {L : List Td} {tk : Int → Bool} {k m : Nat} {t u : Td} (h : BestOf L tk k m) (hu : L[m]? = some u) (hk : L[k]? = some t) (ht : tk t.c.n = false) (hlt : t.lt u) : BestOf L tk (k + 1) k := by
 rcases h with ⟨hb, h⟩ | ⟨m', u', hb, hm, hu', hn, h⟩
 ·omega
 ·obtain rfl : m = m' := by omega
  rw [hu] at hu'; obtain rfl := Option.some.inj hu'
  refine .inr ⟨k, t, rfl, by omega, hk, ht, fun j hj s hs hns => ?_⟩
  rcases (by omega : j < k ∨ j = k) with h1 | rfl
  ·exact fun e => h j h1 s hs hns (Td.lt_trans e hlt)
  ·rw [hk] at hs; obtain rfl := Option.some.inj hs; exact fun e => Td.lt_asymm e e
theorem BestOf.stays {L : List Td} {tk : Int → Bool} {k m : Nat} {t u : Td} (h : BestOf L tk k m) (hu : L[m]? = some u) (hk : L[k]? = some t) (hlt : ¬ t.lt u) : BestOf L tk (k + 1) m := by
 rcases h with ⟨hb, h⟩ | ⟨m', u', hb, hm, hu', hn, h⟩
 ·omega
 ·obtain rfl : m = m' := by omega
  rw [hu] at hu'; obtain rfl := Option.some.inj hu'
  refine .inr ⟨m, u, rfl, by omega, hu, hn, fun j hj s hs hns => ?_⟩
  rcases (by omega : j < k ∨ j = k) with h1 | rfl
  ·exact h j h1 s hs hns
  ·rw [hk] at hs; obtain rfl := Option.some.inj hs; exact hlt
def leftOf (L : List Td) (tk : Int → Bool) : List Td := L.filter fun t => !tk t.c.n
def takeN (tk : Int → Bool) (n : Int) : Int → Bool := fun m => tk m || (m == n)
theorem BestOf.picks {L O : List Td} {tk : Int → Bool} {b : Int} (h : BestOf L tk L.length b) (hL : Once L) (hp : Picked L O (leftOf L tk)) (hlen : O.length < L.length) :
  ∃ (m : Nat) (u : Td), b = m ∧ L[m]? = some u ∧ tk u.c.n = false ∧ Picked L (O ++ [u]) (leftOf L (takeN tk u.c.n)) := by
 rcases h with ⟨hb, h⟩ | ⟨m, u, hb, hm, hu, hn, h⟩
 ·exfalso
  have : leftOf L tk = [] := by
   unfold leftOf
   rw [List.filter_eq_nil_iff]
   intro t ht
   obtain ⟨j, hj, rfl⟩ := List.getElem_of_mem ht
   simp [h j hj _ (List.getElem?_eq_getElem hj)]
  have hl := hp.perm.length_eq
  rw [this] at hl
  simp at hl
  omega
 ·refine ⟨m, u, hb, hu, hn, ?_⟩
  have hmem : u ∈ L := List.mem_of_getElem? hu
  have hleft : u ∈ leftOf L tk := by unfold leftOf; rw [List.mem_filter]; exact ⟨hmem, by simp [hn]⟩
  have he : leftOf L (takeN tk u.c.n) = (leftOf L tk).filter fun t => !(t.c.n == u.c.n) := by
   unfold leftOf takeN
   rw [List.filter_filter]
   congr 1
   funext t
   cases tk t.c.n <;> cases (t.c.n == u.c.n) <;> rfl
  have hperm := once_filter (leftOf L tk) u (hL.sub List.filter_sublist) hleft
  rw [← he] at hperm
  refine ⟨?_, ?_, ?_⟩
  ·rw [List.append_assoc]
   exact ((hperm.symm).append_left O).trans hp.perm
  ·rw [List.pairwise_append]
   refine ⟨hp.sorted, by simp, fun x hx y hy => ?_⟩
   obtain rfl : y = u := by simpa using hy
   exact hp.low x hx y hleft
  ·intro x hx y hy
   have hy' := hy
   rw [he, List.mem_filter] at hy'
   rcases List.mem_append.1 hx with h1 | h1
   ·exact hp.low x h1 y hy'.1
   ·obtain rfl : x = u := by simpa using h1
    have hyL : y ∈ L := (List.mem_filter.1 hy'.1).1
    have hyt : tk y.c.n = false := by have := (List.mem_filter.1 hy'.1).2; simpa using this
    obtain ⟨j, hj, rfl⟩ := List.getElem_of_mem hyL
    have hnl := h j hj _ (List.getElem?_eq_getElem hj) hyt
    exact Td.lt_total hnl (by simpa using hy'.2)
def toldUp (tk : Int → Bool) (t : Td) : Td := if tk t.c.n then ⟨t.c, t.n + 1⟩ else t
def restOf (often : Nat) (tk : Int → Bool) (L : List Td) : List Td := (L.map (toldUp tk)).filter fun t => decide (t.n < often)
theorem restOf_len (often : Nat) (tk : Int → Bool) (L : List Td) : (restOf often tk L).length ≤ L.length := by
 unfold restOf
 exact Nat.le_trans (List.length_filter_le _ _) (by simp)
theorem restOf_up {often : Nat} {tk : Int → Bool} {L : List Td} {k : Nat} {t : Td} (hk : L[k]? = some t) (h : (toldUp tk t).n < often) : restOf often tk (L.take (k + 1)) = restOf often tk (L.take k) ++ [toldUp tk t] := by
 have : L.take (k + 1) = L.take k ++ [t] := by rw [List.take_add_one, hk]; rfl
 rw [this]
 simp [restOf, h]
theorem restOf_out {often : Nat} {tk : Int → Bool} {L : List Td} {k : Nat} {t : Td} (hk : L[k]? = some t) (h : ¬ (toldUp tk t).n < often) : restOf often tk (L.take (k + 1)) = restOf often tk (L.take k) := by
 have : L.take (k + 1) = L.take k ++ [t] := by rw [List.take_add_one, hk]; rfl
 rw [this]
 simp [restOf, h]
theorem restOf_perm {often : Nat} {tk : Int → Bool} {L L' : List Td} (h : L.Perm L') : (restOf often tk L).Perm (restOf often tk L') := (h.map _).filter _
end
section
open Go Go.RowKit
def cells3 (c : Cl) : List Value := [.int .i64 c.n, .int .i64 c.i, .int .i64 c.h]
def cellsOf (l : List Cl) : List Value := l.flatMap cells3
theorem cellsOf_snoc (l : List Cl) (c : Cl) : cellsOf (l ++ [c]) = cellsOf l ++ [.int .i64 c.n, .int .i64 c.i, .int .i64 c.h] := by simp [cellsOf, cells3]
theorem infoClaim : (Tryz.prog.info? 30).map (fun i => (i.zero, i.size, i.bytes)) = some (some (.agg #[.int .i64 0, .int .i64 0, .int .i64 0]), 3, 24) := by kernel_rfl
theorem cell_three_new (W : World) (x y z : Value) (t : TypeId) (j : Nat) (u : Value) (h : [x, y, z][j]? = some u) : (W.alloc (.cells #[x, y, z] t)).cell? ((⟨W.heap.size, 0, none⟩ : Addr).add j) = some u := by
 have hb := heap_alloc_new W (.cells #[x, y, z] t)
 rw [addr_at]
 simp only [World.cell?, hb]
 simpa using h
theorem own_below {W W' w : World} {base : Nat} {e : TypeId} {size : Nat} {v : Value} {k : Nat} {xs : List Value} {B : Nat} (hr : W.ownsRow base e size v k xs) (hB : Below B w W) (hg : W.grownBy W' v.ownBlock) (h1 : B ≤ W.heap.size) (h2 : B ≤ base) : Below B w W' :=
 hB.grown hg h1 (fun j e => Nat.le_trans h2 (hr.lt j e).1)
def lenOf : Value → Nat
 | .slice _ n _ => n
 | _ => 0
theorem ownsRow_form {W : World} {base : Nat} {e : TypeId} {size : Nat} {v : Value} {k : Nat} {xs : List Value} (h : W.ownsRow base e size v k xs) : ∃ p cap, v = .slice p k cap := by
 rcases h.2 with ⟨rfl, rfl⟩ | ⟨g, cap, _, rfl, _⟩
 ·exact ⟨_, _, rfl⟩
 ·exact ⟨_, _, rfl⟩
structure TakeInv (w : World) (L : List Td) (n : Int) (O : List Td) (tk : Int → Bool) (v : Value) (W : World) : Prop where
 below : Below w.heap.size w W
 lt : w.heap.size < W.heap.size
 row : W.ownsRow (w.heap.size + 1) 30 3 v O.length (cellsOf (O.map (·.c)))
 tbl : ∀ j : Nat, j < 8 → W.cell? ⟨w.heap.size, j, none⟩ = some (.bool (tk j))
 fz : ∀ j, W.frozen? ⟨w.heap.size, j, none⟩ = false
 picked : Picked L O (leftOf L tk)
 le : (O.length : Int) ≤ max n 0
theorem TakeInv.len {w : World} {L : List Td} {n : Int} {O : List Td} {tk : Int → Bool} {v : Value} {W : World} (h : TakeInv w L n O tk v W) : O.length ≤ L.length := by
 have := h.picked.perm.length_eq
 rw [List.length_append] at this
 omega
theorem TakeInv.later {w : World} {L : List Td} {n : Int} {O : List Td} {tk : Int → Bool} {v : Value} {W : World} (h : TakeInv w L n O tk v W) (x : Later W) : TakeInv w L n O tk v x.w where
 below := h.below.trans (x.below.mono h.below.size)
 lt := Nat.lt_of_lt_of_le h.lt x.below.size
 row := h.row.kept (grownBy_of_below' x.below none) (by cases hv : v.ownBlock <;> simp)
 tbl j hj := (x.below.cell (p := ⟨_, _, none⟩) h.lt).trans (h.tbl j hj)
 fz j := (x.below.frozen (p := ⟨_, _, none⟩) h.lt).trans (h.fz j)
 picked := h.picked
 le := h.le
theorem takeInv_step {w : World} {L : List Td} {n : Int} {O : List Td} {tk : Int → Bool} {v v' : Value} {W W' : World} {u : Td} {j : Nat} {ob : Obj} (h : TakeInv w L n O tk v W) (hj : u.c.n = (j : Int)) (hj8 : j < 8)
  (hp : Picked L (O ++ [u]) (leftOf L (takeN tk u.c.n))) (hle : (O.length : Int) < n)
  (hown : W'.ownsRow (w.heap.size + 1) 30 3 v' (O.length + 1) (cellsOf (O.map (·.c)) ++ [.int .i64 u.c.n, .int .i64 u.c.i, .int .i64 u.c.h])) (hg : ((W.setCell ⟨w.heap.size, j, none⟩ (.bool true)).alloc ob).grownBy W' v.ownBlock) : TakeInv w L n (O ++ [u]) (takeN tk u.c.n) v' W' := by
 have hrow := (ownsRow_setCell_below h.row (a := ⟨w.heap.size, j, none⟩) (Nat.lt_succ_self _) (.bool true)).alloc ob
 have hlt : w.heap.size < ((W.setCell ⟨w.heap.size, j, none⟩ (.bool true)).alloc ob).heap.size := by have := h.lt; simp; omega
 have hne : some w.heap.size ≠ v.ownBlock := fun e => by have := (hrow.lt _ e.symm).1; omega
 have hblk := hg.block _ hlt hne
 have hold : ((W.setCell ⟨w.heap.size, j, none⟩ (.bool true)).alloc ob).heap[w.heap.size]? = (W.setCell ⟨w.heap.size, j, none⟩ (.bool true)).heap[w.heap.size]? := Below.heap_alloc _ _ _ (by have := h.lt; simp; omega)
 have hcell : ∀ i, W'.cell? ⟨w.heap.size, i, none⟩ = (W.setCell ⟨w.heap.size, j, none⟩ (.bool true)).cell? ⟨w.heap.size, i, none⟩ := fun i => by simp only [World.cell?, hblk, hold]
 have hfz : ∀ i, W'.frozen? ⟨w.heap.size, i, none⟩ = (W.setCell ⟨w.heap.size, j, none⟩ (.bool true)).frozen? ⟨w.heap.size, i, none⟩ := fun i => by simp only [World.frozen?, hblk, hold]
 refine ⟨?_, ?_, ?_, ?_, ?_, hp, ?_⟩
 ·exact own_below hrow (ext_alloc (ext_setCell h.below _ _ (Nat.le_refl _)) ob) hg (by omega) (by omega)
 ·exact Nat.lt_of_lt_of_le hlt hg.size
 ·rw [List.map_append, List.map_cons, List.map_nil, cellsOf_snoc, List.length_append]
  exact hown
 ·intro i hi
  rw [hcell]
  by_cases e : i = j
  ·subst e
   rw [World.cell?_setCell_same _ _ _ (h.tbl i hi)]
   simp [takeN, hj]
  ·rw [World.cell?_setCell_other _ _ _ _ (by intro h; simp only [Addr.mk.injEq] at h; omega), h.tbl i hi]
   have : ((i : Int) == u.c.n) = false := by simp [hj]; omega
   simp [takeN, this]
 ·intro i
  rw [hfz, World.frozen?_setCell]
  exact h.fz i
 ·rw [List.length_append]
  simp
  omega
theorem takeInv_start (w : World) (L : List Td) (n : Int) (T : TypeId) : TakeInv w L n [] (fun _ => false) (.slice none 0 0) (w.alloc (.cells #[.bool false, .bool false, .bool false, .bool false, .bool false, .bool false, .bool false, .bool false] T)) where
 below := ext_alloc (ext_refl w) _
 lt := by simp
 row := World.ownsRow_nil _ _ _ _
 tbl j hj := by
  have hb := heap_alloc_new w (.cells #[.bool false, .bool false, .bool false, .bool false, .bool false, .bool false, .bool false, .bool false] T)
  simp only [World.cell?, hb]
  rcases (by omega : j = 0 ∨ j = 1 ∨ j = 2 ∨ j = 3 ∨ j = 4 ∨ j = 5 ∨ j = 6 ∨ j = 7) with rfl | rfl | rfl | rfl | rfl | rfl | rfl | rfl <;> rfl
 fz j := by
  have hb := heap_alloc_new w (.cells #[.bool false, .bool false, .bool false, .bool false, .bool false, .bool false, .bool false, .bool false] T)
  simp only [World.frozen?, hb]
  simp
 picked := by
  have : leftOf L (fun _ => false) = L := by unfold leftOf; rw [List.filter_eq_self]; intro a _; rfl
  rw [this]
  exact Picked.nil L
 le := by simp; omega
end
section
open Go Go.RowKit
def ListAt (W : World) (v : Value) (l : List Cl) : Prop :=
 (l = [] ∧ ∃ p cap, v = .slice p 0 cap) ∨ ∃ b o cap, v = .slice (some ⟨b, o, none⟩) l.length cap ∧ b < W.heap.size ∧ ∀ k c, l[k]? = some c → W.cell? ⟨b, o + k * 3, none⟩ = some (.int .i64 c.n) ∧ W.cell? ⟨b, o + k * 3 + 1, none⟩ = some (.int .i64 c.i) ∧ W.cell? ⟨b, o + k * 3 + 2, none⟩ = some (.int .i64 c.h)
theorem ListAt.form {W : World} {v : Value} {l : List Cl} (h : ListAt W v l) : ∃ p cap, v = .slice p l.length cap ∧ (l = [] ∨ ∃ b o, p = some ⟨b, o, none⟩ ∧ b < W.heap.size ∧ ∀ k c, l[k]? = some c → W.cell? ⟨b, o + k * 3, none⟩ = some (.int .i64 c.n) ∧ W.cell? ⟨b, o + k * 3 + 1, none⟩ = some (.int .i64 c.i) ∧ W.cell? ⟨b, o + k * 3 + 2, none⟩ = some (.int .i64 c.h)) := by
 rcases h with ⟨rfl, p, cap, rfl⟩ | ⟨b, o, cap, rfl, hlt, hc⟩
 ·exact ⟨_, _, rfl, .inl rfl⟩
 ·exact ⟨_, _, rfl, .inr ⟨b, o, rfl, hlt, hc⟩⟩
set_option maxHeartbeats 800000 in
set_option maxRecDepth 100000 in
theorem same_any (v u : Value) (l : List Cl) (w : World) (hv : ListAt w v l) (hu : ListAt w u l) (hl : l.length ≤ 1000) : Gives Tryz.prog 20 #[v, u] w (.bool true) := by
 unfold Gives
 obtain ⟨p, cap, rfl, hp⟩ := hv.form
 obtain ⟨r, cap', rfl, hr⟩ := hu.form
 have HP := Lib.hid hp
 have HR := Lib.hid hr
 clear hv hu hp hr
 go_enter Tryz.func20, Tryz.ntmps20
 go_wp2_with fail
 go_loopw [5, 13] (fun _ i wr => ∃ k : Nat, k ≤ l.length ∧ i = .int .i64 k ∧ ∃ x : Later w, wr = x.w) (fun _ i _ => l.length - (intOf i).toNat)
 case atStart => exact ⟨0, by omega, rfl, ⟨w, Below.refl _ _⟩, rfl⟩
 case round =>
  obtain ⟨k, hk, rfl, x, rfl⟩ := hrel
  by_cases hkl : k < l.length
  ·obtain ⟨⟨m, i, s⟩, hkc⟩ : ∃ c, l[k]? = some c := ⟨_, List.getElem?_eq_getElem hkl⟩
   rcases HP.out with h0 | ⟨b, o, rfl, hlt, hc⟩
   ·rw [h0] at hkl; simp at hkl
   rcases HR.out with h0 | ⟨b', o', rfl, hlt', hc'⟩
   ·rw [h0] at hkl; simp at hkl
   obtain ⟨a0, a1, a2⟩ := hc k _ hkc
   obtain ⟨c0, c1, c2⟩ := hc' k _ hkc
   clear hc hc' hkc
   go_upto_region 6 with fail
   go_quiet (fail)
   go_wp2_with fail
   go_roundw
   case rel => exact ⟨k + 1, by omega, by go_num, Later.ex (ext_drewN x.below _)⟩
   case measure => simp [intOf]; omega
  ·obtain rfl : k = l.length := by omega
   go_wp2_with fail
   go_ret
   exact ⟨rfl, Later.ex x.below⟩
end
end Go.Proofs.YtjbihgfdgaiecaaGreat

/- MQueRef: RefQueue, RefPut, RefTake. -/
namespace Go.Proofs.YtjbihgfdgaiecaaGreat
section
open Go Go.RowKit
def RefQ (q : Nat) (often : Nat) (L : List Td) (W : World) (F : Nat → Prop) : Prop :=
 ∃ v, W.heap[q]? = some (.cells #[.int .i64 often, v] 118 (0, 0)) ∧ W.ownsRow 0 123 4 v L.length (cellsT L) ∧ ∀ k, F k ↔ (k = q ∨ v.ownBlock = some k)
theorem refQ_owns (q often : Nat) (L : List Td) : Owns (RefQ q often L) where
 lt W F h k hk := by
  obtain ⟨v, hq, hr, hF⟩ := h
  rcases (hF k).1 hk with rfl | h1
  ·exact (Array.getElem?_eq_some_iff.1 hq).1
  ·exact (hr.lt k h1).2
 kept W W' F h hs hk := by
  obtain ⟨v, hq, hr, hF⟩ := h
  refine ⟨v, (hk q ((hF q).2 (.inl rfl))).trans hq, ⟨hr.1, ?_⟩, hF⟩
  rcases hr.2 with h1 | ⟨g, cap, cur, rfl, hb, hg, rest⟩
  ·exact .inl h1
  ·exact .inr ⟨g, cap, cur, rfl, hb, (hk g ((hF g).2 (.inr rfl))).trans hg, rest⟩
structure RefCells (W : World) (q often : Nat) (L : List Td) (p : Option Addr) (cap : Nat) : Prop where
 lt : q < W.heap.size
 h0 : W.cell? ⟨q, 0, none⟩ = some (.int .i64 often)
 h1 : W.cell? ⟨q, 1, none⟩ = some (.slice p L.length cap)
 f1 : W.frozen? ⟨q, 1, none⟩ = false
 row : L = [] ∨ ∃ g, p = some ⟨g, 0, none⟩ ∧ g < W.heap.size ∧ g ≠ q ∧ (∀ j, W.frozen? ⟨g, j, none⟩ = false) ∧ ∀ k t, L[k]? = some t → W.cell? ⟨g, k * 4, none⟩ = some (.int .i64 t.c.n) ∧ W.cell? ⟨g, k * 4 + 1, none⟩ = some (.int .i64 t.c.i) ∧ W.cell? ⟨g, k * 4 + 2, none⟩ = some (.int .i64 t.c.h) ∧ W.cell? ⟨g, k * 4 + 3, none⟩ = some (.int .i64 t.n)
theorem RefQ.cells {q often : Nat} {L : List Td} {W : World} {F : Nat → Prop} (h : RefQ q often L W F) : ∃ p cap, RefCells W q often L p cap := by
 obtain ⟨v, hq, hr, hF⟩ := h
 have hlt := (Array.getElem?_eq_some_iff.1 hq).1
 have e0 : W.cell? ⟨q, 0, none⟩ = some (.int .i64 often) := by simp [World.cell?, hq]
 have e1 : W.cell? ⟨q, 1, none⟩ = some v := by simp [World.cell?, hq]
 have e2 : W.frozen? ⟨q, 1, none⟩ = false := by simp [World.frozen?, hq]
 have hc := fun g (hg : v.ownBlock = some g) => hr.cells hg
 have hl := hr.lt
 rcases hr.2 with ⟨rfl, hn⟩ | ⟨g, cap, cur, rfl, hb, hg, _⟩
 ·exact ⟨none, 0, hlt, e0, by rw [e1, hn], e2, .inl (List.eq_nil_of_length_eq_zero hn)⟩
 ·refine ⟨_, cap, hlt, e0, e1, e2, .inr ⟨g, rfl, (hl g rfl).2, ?_, fun j => by simp [World.frozen?, hg], fun k t hk => ?_⟩⟩
  ·rintro rfl
   rw [hq] at hg
   simp at hg
  ·obtain ⟨a0, a1, a2, a3⟩ := cellsT_at L k t hk
   have := hc g rfl
   simp only [addr_at] at this
   exact ⟨this _ _ a0, this _ _ a1, this _ _ a2, this _ _ a3⟩
theorem newRefQ (w : World) (x : Int) (k : Nat) (hx : x = k) : RefQ w.heap.size k [] (w.alloc (.cells #[.int .i64 x, .slice none 0 0] 118)) (fun j => j = w.heap.size) := by
 subst hx
 exact ⟨.slice none 0 0, heap_alloc_new _ _, World.ownsRow_nil _ _ _ _, fun j => by simp [Value.ownBlock]⟩
set_option maxHeartbeats 1000000 in
set_option maxRecDepth 100000 in
theorem newQ_any (often : Int) (w : World) (k : Nat) (hk : max 1 (min often 20) = (k : Int)) : Calls Tryz.prog 34 #[.int .i64 often] w fun e w' => e = .returned (.pointer (some ⟨w.heap.size, 0, none⟩)) ∧ RefQ w.heap.size k [] w' (fun j => j = w.heap.size) ∧ Below w.heap.size w w' := by
 have HK := Lib.hid hk
 clear hk
 go_enter Tryz.func34, Tryz.ntmps34
 go_wp2
 all_goals go_ret
 all_goals exact ⟨rfl, newRefQ _ _ k (by have := HK.out; omega), (Below.refl _ _).alloc (Nat.le_refl _) _⟩
def atIx (L : List Td) (n : Int) : Int := match L.findIdx? (fun t => t.c.n == n) with | some k => k | none => -1
theorem atIx_hit {L : List Td} {n : Int} {k : Nat} {t : Td} (hk : L[k]? = some t) (ht : t.c.n = n) (hb : ∀ j, j < k → ∀ u, L[j]? = some u → u.c.n ≠ n) : atIx L n = k := by
 obtain ⟨hlt, rfl⟩ := List.getElem?_eq_some_iff.1 hk
 have : L.findIdx? (fun t => t.c.n == n) = some k := by
  rw [List.findIdx?_eq_some_iff_getElem]
  exact ⟨hlt, by simp [ht], fun j hj => by simpa using hb j hj _ (List.getElem?_eq_getElem (by omega))⟩
 simp [atIx, this]
theorem atIx_none {L : List Td} {n : Int} (hb : ∀ j, j < L.length → ∀ u, L[j]? = some u → u.c.n ≠ n) : atIx L n = -1 := by
 have : L.findIdx? (fun t => t.c.n == n) = none := by
  rw [List.findIdx?_eq_none_iff]
  intro x hx
  obtain ⟨j, hj, rfl⟩ := List.getElem_of_mem hx
  simpa using hb j hj _ (List.getElem?_eq_getElem hj)
 simp [atIx, this]
set_option maxHeartbeats 1000000 in
set_option maxRecDepth 100000 in
theorem at_any (q often : Nat) (L : List Td) (n : Int) (w : World) (F : Nat → Prop) (h : RefQ q often L w F) (hL : L.length ≤ 1000) : Gives Tryz.prog 69 #[.pointer (some ⟨q, 0, none⟩), .int .i64 n] w (.int .i64 (atIx L n)) := by
 unfold Gives
 obtain ⟨p, cap, hc⟩ := h.cells
 have hlt := hc.lt
 have hh1 := hc.h1
 have HC := Lib.hid hc
 clear h hc
 go_enter Tryz.func69, Tryz.ntmps69
 go_wp2_with fail
 clear hh1
 go_loopw [12] (fun i wr => ∃ k : Nat, k ≤ L.length ∧ i = .int .i64 k ∧ (∀ j, j < k → ∀ u, L[j]? = some u → u.c.n ≠ n) ∧ ∃ x : Later w, wr = x.w) (fun i _ => L.length - (intOf i).toNat)
 case atStart => exact ⟨0, by omega, rfl, fun j hj => by omega, ⟨w, Below.refl _ _⟩, rfl⟩
 case round =>
  obtain ⟨k, hk, rfl, hno, x, rfl⟩ := hrel
  have HN := Lib.hid hno
  clear hno
  by_cases hkl : k < L.length
  ·obtain ⟨⟨⟨m, i, s⟩, t⟩, hkc⟩ : ∃ t, L[k]? = some t := ⟨_, List.getElem?_eq_getElem hkl⟩
   rcases HC.out.row with h0 | ⟨g, rfl, hg, hgq, _, hcell⟩
   ·rw [h0] at hkl; simp at hkl
   obtain ⟨a0, a1, a2, a3⟩ := hcell k _ hkc
   have hc0 : x.w.cell? ⟨g, k * 4, none⟩ = some (.int .i64 m) := (x.below.cell (p := ⟨g, _, none⟩) hg).trans a0
   have hc1 : x.w.cell? ⟨g, k * 4 + 1, none⟩ = some (.int .i64 i) := (x.below.cell (p := ⟨g, _, none⟩) hg).trans a1
   have hc2 : x.w.cell? ⟨g, k * 4 + 2, none⟩ = some (.int .i64 s) := (x.below.cell (p := ⟨g, _, none⟩) hg).trans a2
   have hc3 : x.w.cell? ⟨g, k * 4 + 3, none⟩ = some (.int .i64 t) := (x.below.cell (p := ⟨g, _, none⟩) hg).trans a3
   clear a0 a1 a2 a3 hcell
   have HK := Lib.hid hkc
   clear hkc
   by_cases hn : ((m : Int) == n) = true
   ·have HA : Hid (atIx L n = k) := Lib.hid (atIx_hit HK.out (by simpa using hn) HN.out)
    go_wp2_with fail
    go_ret
    exact ⟨by rw [HA.out]; rfl, Later.ex (by repeat (first | exact ext_refl _ | refine ext_later ?_ _ | refine ext_alloc ?_ _ | refine ext_drew ?_ | refine ext_drewN ?_ _))⟩
   ·have hn' : ((m : Int) == n) = false := by simpa using hn
    have HM : Hid (m ≠ n) := Lib.hid (by simpa using hn)
    clear hn
    go_wp2_with fail
    go_roundw
    case rel =>
     refine ⟨k + 1, by omega, by go_num, fun j hj u hu => ?_, ⟨x.w.alloc (.cells #[.int .i64 m, .int .i64 i, .int .i64 s, .int .i64 t] 123), ext_alloc x.below _⟩, rfl⟩
     by_cases e : j = k
     ·subst e
      rw [HK.out] at hu
      obtain rfl := Option.some.inj hu
      exact HM.out
     ·exact HN.out j (by omega) u hu
    case measure => simp [intOf]; omega
  ·obtain rfl : k = L.length := by omega
   have HA : Hid (atIx L n = -1) := Lib.hid (atIx_none HN.out)
   go_wp2_with fail
   go_ret
   exact ⟨by rw [HA.out]; rfl, Later.ex (by repeat (first | exact ext_refl _ | refine ext_later ?_ _ | refine ext_alloc ?_ _ | refine ext_drew ?_ | refine ext_drewN ?_ _))⟩
end
section
open Go Go.RowKit
theorem infoTold : (Tryz.prog.info? 123).map (fun i => (i.zero, i.size, i.bytes)) = some (some (.agg #[.int .i64 0, .int .i64 0, .int .i64 0, .int .i64 0]), 4, 32) := by kernel_rfl
def putOf (L : List Td) (c : Cl) : List Td × Bool :=
 if mayK c = false ∨ nothingK c = true then (L, false)
 else match L.findIdx? (fun t => t.c.n == c.n) with
  | none => (L ++ [⟨c, 0⟩], true)
  | some k => match L[k]? with
   | some t => if 0 ≤ cmpK t.c c then (L, false) else (L.set k ⟨c, 0⟩, true)
   | none => (L, false)
def QEnd (q often : Nat) (L : List Td) (F : Nat → Prop) (W W' : World) : Prop := ∃ F', RefQ q often L W' F' ∧ Fr F W W' ∧ ∀ k, F' k → F k ∨ W.heap.size ≤ k
theorem qEnd_later {q often : Nat} {L : List Td} {F : Nat → Prop} {W : World} (h : RefQ q often L W F) (x : Later W) : QEnd q often L F W x.w :=
 ⟨F, (refQ_owns q often L).kept W x.w F h x.below.size (fun k hk => x.below.block k ((refQ_owns q often L).lt W F h k hk)), Fr.of_below x.below, fun _k hk => .inl hk⟩
set_option maxHeartbeats 1000000 in
set_option maxRecDepth 100000 in
theorem put_bad (q _often : Nat) (_L : List Td) (c : Cl) (w : World) (hm : mayK c = false ∨ nothingK c = true) : Gives Tryz.prog 42 #[.pointer (some ⟨q, 0, none⟩), c.val] w (.bool false) := by
 obtain ⟨n, i, s⟩ := c
 unfold Gives Cl.val
 dsimp only
 obtain ⟨a, ha⟩ : ∃ a, mayB n i s = a := ⟨_, rfl⟩
 obtain ⟨b, hb⟩ : ∃ b, nothingB i s = b := ⟨_, rfl⟩
 have HM := Lib.hid (fun W => refMay_any n i s W)
 have HN := Lib.hid (fun W => refNothing_any n i s W)
 have hm' : a = false ∨ b = true := by rw [← ha, ← hb]; exact hm
 rw [ha] at HM
 rw [hb] at HN
 clear hm ha hb
 cases a with
 | false =>
  go_enter Tryz.func42, Tryz.ntmps42
  go_wp2_with fail
  refine Gives.mono' (HM.out _) ?_
  intro x1
  go_wp2_with fail
  go_ret
  exact ⟨rfl, Later.ex (by repeat (first | exact ext_refl _ | refine ext_later ?_ _ | refine ext_alloc ?_ _ | refine ext_drew ?_ | refine ext_drewN ?_ _))⟩
 | true =>
  obtain rfl : b = true := by rcases hm' with h | h <;> simp_all
  clear hm'
  go_enter Tryz.func42, Tryz.ntmps42
  go_wp2_with fail
  refine Gives.mono' (HM.out _) ?_
  intro x1
  go_wp2_with fail
  refine Gives.on (HN.out _) ?_
  intro x2
  go_wp2_with fail
  go_ret
  exact ⟨rfl, Later.ex (by repeat (first | exact ext_refl _ | refine ext_later ?_ _ | refine ext_alloc ?_ _ | refine ext_drew ?_ | refine ext_drewN ?_ _))⟩
theorem ownsRow_set {W : World} {T : TypeId} {g cap m q o : Nat} {xs : List Value} (h : W.ownsRow 0 T 4 (.slice (some ⟨g, 0, none⟩) m cap) m xs) (hne : g ≠ q) (u : Value) : (W.setCell ⟨q, o, none⟩ u).ownsRow 0 T 4 (.slice (some ⟨g, 0, none⟩) m cap) m xs := by
 refine ⟨h.1, ?_⟩
 rcases h.2 with ⟨h1, _⟩ | ⟨g', cap', cur, hv, hb, hg, rest⟩
 ·simp at h1
 ·obtain ⟨rfl, _⟩ : g = g' ∧ cap = cap' := by simpa using hv
  exact .inr ⟨g, cap', cur, hv, Nat.zero_le _, (Below.heap_setCell _ _ _ _ hne).trans hg, rest⟩
theorem put_done (q often : Nat) (L : List Td) (t : Td) {w w3 w4 : World} {F : Nat → Prop} {v : Value} {g cap : Nat} {ob : Obj} (hlt : q < w.heap.size) (hF : ∀ k, F k ↔ k = q ∨ v.ownBlock = some k) (hvq : some q ≠ v.ownBlock) (hb : Below w.heap.size w w3)
  (ho : w4.ownsRow 0 123 4 (.slice (some ⟨g, 0, none⟩) (L.length + 1) cap) (L.length + 1) (cellsT L ++ cells4 t)) (hg : (w3.alloc ob).drew.grownBy w4 v.ownBlock)
  (hw : ∀ j, (Value.slice (some ⟨g, 0, none⟩) (L.length + 1) cap).ownBlock = some j → v.ownBlock = some j ∨ (w3.alloc ob).drew.heap.size ≤ j) (hd : w4.heap[q]? = some (.cells #[.int .i64 often, v] 118 (0, 0))) :
  QEnd q often (L ++ [t]) F w (w4.setCell ⟨q, 1, none⟩ (.slice (some ⟨g, 0, none⟩) (L.length + 1) cap)) := by
 have hs := hb.size
 have hgw : v.ownBlock = some g ∨ w.heap.size ≤ g := by
  rcases hw g rfl with h | h
  ·exact .inl h
  ·have : w3.heap.size ≤ (w3.alloc ob).drew.heap.size := by simp
   exact .inr (by omega)
 have hne : g ≠ q := by
  rintro rfl
  rcases hgw with h | h
  ·exact hvq h.symm
  ·omega
 have f0 : Fr F w (w3.alloc ob).drew := ((Fr.of_below hb).alloc ob).drew
 have f1 : Fr F w w4 := f0.trans (G := F) (Fr.of_grownBy hg fun j hj => .inl ((hF j).2 (.inr hj))) fun _ h => .inl h
 refine ⟨fun j => j = q ∨ j = g, ⟨.slice (some ⟨g, 0, none⟩) (L.length + 1) cap, ?_, ?_, ?_⟩, f1.set q 1 _ (.inl ((hF q).2 (.inl rfl))), ?_⟩
 ·rw [heap_setCell_same _ _ _ _ _ _ hd]; rfl
 ·rw [List.length_append, cellsT_snoc]
  exact ownsRow_set ho hne _
 ·intro k
  simp [Value.ownBlock, eq_comm]
 ·rintro k (rfl | rfl)
  ·exact .inl ((hF k).2 (.inl rfl))
  ·rcases hgw with h | h
   ·exact .inl ((hF k).2 (.inr h))
   ·exact .inr h
set_option maxHeartbeats 2000000 in
set_option maxRecDepth 100000 in
theorem put_new (q often : Nat) (L : List Td) (c : Cl) (w : World) (F : Nat → Prop) (h : RefQ q often L w F) (hL : L.length ≤ 1000) (hm : mayK c = true) (hn : nothingK c = false) (ha : atIx L c.n = -1) :
  Calls Tryz.prog 42 #[.pointer (some ⟨q, 0, none⟩), c.val] w fun e w' => e = .returned (.bool true) ∧ QEnd q often (L ++ [⟨c, 0⟩]) F w w' := by
 obtain ⟨n, i, s⟩ := c
 unfold Cl.val
 dsimp only at ha ⊢
 obtain ⟨i0, hi, hz0, hz1, hz2⟩ := info_parts infoTold
 have HM : Hid (∀ W, Gives Tryz.prog 38 #[.agg #[.int .i64 n, .int .i64 i, .int .i64 s]] W (.bool true)) := Lib.hid (fun W => (refMay_any n i s W).cast (by rw [show mayB n i s = true from hm]))
 have HN : Hid (∀ W, Gives Tryz.prog 39 #[.agg #[.int .i64 n, .int .i64 i, .int .i64 s]] W (.bool false)) := Lib.hid (fun W => (refNothing_any n i s W).cast (by rw [show nothingB i s = false from hn]))
 have HA : Hid (∀ x : Later (w.alloc (.cells #[.int .i64 n, .int .i64 i, .int .i64 s] 30)), Gives Tryz.prog 69 #[.pointer (some ⟨q, 0, none⟩), .int .i64 n] x.w (.int .i64 (-1))) := Lib.hid (fun x => (at_any q often L n x.w F (by
  have hb : Below w.heap.size w x.w := ext_later (ext_alloc (ext_refl w) _) x
  exact (refQ_owns q often L).kept w x.w F h hb.size (fun k hk => hb.block k ((refQ_owns q often L).lt w F h k hk))) hL).cast (by rw [ha]))
 obtain ⟨v, hq, hr, hF⟩ := h
 have hlt := (Array.getElem?_eq_some_iff.1 hq).1
 have e1 : w.cell? ⟨q, 1, none⟩ = some v := by simp [World.cell?, hq]
 have HQ := Lib.hid hq
 have HR := Lib.hid hr
 have HF := Lib.hid hF
 have hvq : some q ≠ v.ownBlock := by
  intro e
  rcases hr.2 with ⟨rfl, _⟩ | ⟨g, cap, cur, rfl, _, hg, _⟩
  ·simp [Value.ownBlock] at e
  ·simp [Value.ownBlock] at e
   subst e
   rw [hq] at hg
   simp at hg
 clear hm hn ha hq hr hF
 go_enter Tryz.func42, Tryz.ntmps42
 go_wp2_with fail
 refine Gives.mono' (HM.out _) ?_
 intro x1
 go_wp2_with fail
 refine Gives.on (HN.out _) ?_
 intro x2
 go_wp2_with fail
 refine Gives.on (HA.out _) ?_
 intro x3
 go_wp2_with fail
 have hb3 : Below w.heap.size w x3.w := ext_later (ext_alloc (ext_refl w) _) x3
 have HB3 := Lib.hid hb3
 have hbox : x3.w.cell? ⟨w.heap.size, 0, none⟩ = some (.int .i64 n) ∧ x3.w.cell? ⟨w.heap.size, 1, none⟩ = some (.int .i64 i) ∧ x3.w.cell? ⟨w.heap.size, 2, none⟩ = some (.int .i64 s) := ⟨by simp [go_sem], by simp [go_sem], by simp [go_sem]⟩
 obtain ⟨b0, b1, b2⟩ := hbox
 have hr3 : x3.w.ownsRow 0 123 4 v L.length (cellsT L) := HR.out.kept (grownBy_of_below' hb3 none) (by cases hv : v.ownBlock <;> simp)
 have hq3 : x3.w.heap[q]? = some (.cells #[.int .i64 often, v] 118 (0, 0)) := (hb3.block q hlt).trans HQ.out
 have e13 : x3.w.cell? ⟨q, 1, none⟩ = some v := by simp [World.cell?, hq3]
 have hlt3 : q < x3.w.heap.size := Nat.lt_of_lt_of_le hlt hb3.size
 obtain ⟨w3, hw3⟩ : ∃ W, x3.w = W := ⟨_, rfl⟩
 rw [hw3] at HB3 b0 b1 b2 hr3 hq3 e13 hlt3 ⊢
 have HR3 := Lib.hid hr3
 have HQ3 := Lib.hid hq3
 have hcn := cell_four_new w3.drew (.int .i64 n) (.int .i64 i) (.int .i64 s) (.int .i64 0) 123
 have HCN := Lib.hid hcn
 clear hb3 hr3 hq3 hw3 hcn e1
 go_region_law (refine step_append_where rfl _ _ 116 rfl 123 i0 (.agg #[.int .i64 0, .int .i64 0, .int .i64 0, .int .i64 0]) 4 32 Tryz.underlying116 hi hz0 hz1 hz2 rfl (by decide) v L.length (cellsT L) rfl (HR3.out.alloc _) ⟨w3.heap.size, 0, none⟩ 1 1 [.int .i64 n, .int .i64 i, .int .i64 s, .int .i64 0] rfl rfl HCN.out (by simp [Value.oneCell']) (by unfold maxLen; omega) (by omega) ?_; intro v' w4 hown hgrow hwh; obtain ⟨g', cap', rfl⟩ := ownsRow_succ hown; have hd1 : w4.heap[q]? = some (.cells #[.int .i64 often, v] 118 (0, 0)) := (hgrow.block q (by first | (simp; done) | (simp; omega)) hvq).trans ((Below.heap_alloc _ _ _ hlt3).trans HQ3.out); have hd2 : w4.cell? ⟨q, 1, none⟩ = some v := (by simp [World.cell?, hd1]); have hd3 : w4.frozen? ⟨q, 1, none⟩ = false := (by simp [World.frozen?, hd1]); have HD := Lib.hid hd1; have HO := Lib.hid hown; have HG := Lib.hid hgrow; have HW := Lib.hid hwh; clear hd1 hown hgrow hwh)
 go_wp2_with fail
 all_goals go_ret
 all_goals exact ⟨rfl, put_done q often L ⟨⟨n, i, s⟩, 0⟩ hlt HF.out hvq HB3.out HO.out HG.out HW.out HD.out⟩
set_option maxHeartbeats 2000000 in
set_option maxRecDepth 100000 in
theorem put_low (q often : Nat) (L : List Td) (c : Cl) (w : World) (F : Nat → Prop) (h : RefQ q often L w F) (hL : L.length ≤ 1000) (hm : mayK c = true) (hn : nothingK c = false) (k : Nat) (t : Td) (hk : L[k]? = some t) (ha : atIx L c.n = k) (hc : 0 ≤ cmpK t.c c) :
  Gives Tryz.prog 42 #[.pointer (some ⟨q, 0, none⟩), c.val] w (.bool false) := by
 obtain ⟨n, i, s⟩ := c
 obtain ⟨⟨m, i', s'⟩, o⟩ := t
 unfold Gives Cl.val
 unfold cmpK at hc
 dsimp only at ha hc ⊢
 have HM : Hid (∀ W, Gives Tryz.prog 38 #[.agg #[.int .i64 n, .int .i64 i, .int .i64 s]] W (.bool true)) := Lib.hid (fun W => (refMay_any n i s W).cast (by rw [show mayB n i s = true from hm]))
 have HN : Hid (∀ W, Gives Tryz.prog 39 #[.agg #[.int .i64 n, .int .i64 i, .int .i64 s]] W (.bool false)) := Lib.hid (fun W => (refNothing_any n i s W).cast (by rw [show nothingB i s = false from hn]))
 have HA : Hid (∀ x : Later (w.alloc (.cells #[.int .i64 n, .int .i64 i, .int .i64 s] 30)), Gives Tryz.prog 69 #[.pointer (some ⟨q, 0, none⟩), .int .i64 n] x.w (.int .i64 k)) := Lib.hid (fun x => (at_any q often L n x.w F (by
  have hb : Below w.heap.size w x.w := ext_later (ext_alloc (ext_refl w) _) x
  exact (refQ_owns q often L).kept w x.w F h hb.size (fun k hk => hb.block k ((refQ_owns q often L).lt w F h k hk))) hL).cast (by rw [ha]))
 have HC := Lib.hid (fun W => refCompare_any m i' s' n i s W)
 obtain ⟨C, hC⟩ : ∃ C, cmpC i' s' i s = C := ⟨_, rfl⟩
 rw [hC] at HC hc
 clear hC
 obtain ⟨p, cap, hcells⟩ := h.cells
 have hlt := hcells.lt
 have hkl : k < L.length := by
  have := List.getElem?_eq_some_iff.1 hk
  exact this.1
 rcases hcells.row with h0 | ⟨g, rfl, hg, hgq, _, hcell⟩
 ·rw [h0] at hkl; simp at hkl
 obtain ⟨a0, a1, a2, a3⟩ := hcell k _ hk
 have e1 := hcells.h1
 clear hm hn ha hcell hk hcells
 go_enter Tryz.func42, Tryz.ntmps42
 go_wp2_with fail
 refine Gives.mono' (HM.out _) ?_
 intro x1
 go_wp2_with fail
 refine Gives.on (HN.out _) ?_
 intro x2
 go_wp2_with fail
 refine Gives.on (HA.out _) ?_
 intro x3
 go_wp2_with fail
 refine wp_region_later_on (by kernel_rfl) (by kernel_rfl) ?_
 repeat (go_big_quiet_step (first | (go_at_call 61; with_reducible exact later_of (HC.out _))))
 refine wpQuiet_nil ?_
 rintro _ ⟨x9, rfl⟩
 go_wp2_with fail
 go_ret
 exact ⟨rfl, Later.ex (by repeat (first | exact ext_refl _ | refine ext_later ?_ _ | refine ext_alloc ?_ _ | refine ext_drew ?_ | refine ext_drewN ?_ _))⟩
theorem set_done (q often : Nat) (L : List Td) (t : Td) {w w9 : World} {F : Nat → Prop} {g cap k : Nat} (h : RefQ q often L w F) (he : w.cell? ⟨q, 1, none⟩ = some (.slice (some ⟨g, 0, none⟩) L.length cap)) (hk : k < L.length) (hb : Below w.heap.size w w9) :
  QEnd q often (L.set k t) F w ((((w9.setCell ⟨g, k * 4, none⟩ (.int .i64 t.c.n)).setCell ⟨g, k * 4 + 1, none⟩ (.int .i64 t.c.i)).setCell ⟨g, k * 4 + 2, none⟩ (.int .i64 t.c.h)).setCell ⟨g, k * 4 + 3, none⟩ (.int .i64 t.n)).drew := by
 obtain ⟨v, hq, hr, hF⟩ := h
 obtain rfl : v = .slice (some ⟨g, 0, none⟩) L.length cap := by simpa [World.cell?, hq] using he
 have hlt := (Array.getElem?_eq_some_iff.1 hq).1
 have hFg : F g := (hF g).2 (.inr rfl)
 have hg := (hr.lt g rfl).2
 have hne : g ≠ q := by
  rintro rfl
  rcases hr.2 with ⟨h1, _⟩ | ⟨g', cap', cur, hv, _, h1, _⟩
  ·simp at h1
  ·obtain ⟨rfl, _⟩ : g = g' ∧ cap = cap' := by simpa using hv
   rw [hq] at h1
   simp at h1
 rcases hr.2 with ⟨h1, _⟩ | ⟨g', cap', cur, hv, _, h1, hnc, hcm, hcs, htk⟩
 ·simp at h1
 obtain ⟨rfl, rfl⟩ : g = g' ∧ cap = cap' := by simpa using hv
 have h9 : w9.heap[g]? = _ := (hb.block g hg).trans h1
 obtain ⟨cur', hg9, hs9, ht9⟩ := row_set t h9 hcs hnc hk htk
 refine ⟨F, ⟨.slice (some ⟨g, 0, none⟩) L.length cap, ?_, ⟨?_, .inr ⟨g, cap, cur', ?_, Nat.zero_le _, hg9, ?_, hcm, hs9, ht9⟩⟩, hF⟩, ?_, fun k hk => .inl hk⟩
 ·exact (Below.heap_setCell _ _ _ _ hne.symm).trans ((Below.heap_setCell _ _ _ _ hne.symm).trans ((Below.heap_setCell _ _ _ _ hne.symm).trans ((Below.heap_setCell _ _ _ _ hne.symm).trans ((hb.block q hlt).trans hq))))
 ·rw [cellsT_len]
 ·rw [List.length_set]
 ·rw [List.length_set]; exact hnc
 ·exact (((((Fr.of_below hb).set g _ _ (.inl hFg)).set g _ _ (.inl hFg)).set g _ _ (.inl hFg)).set g _ _ (.inl hFg)).drew
set_option maxHeartbeats 2000000 in
set_option maxRecDepth 100000 in
theorem put_up (q often : Nat) (L : List Td) (c : Cl) (w : World) (F : Nat → Prop) (h : RefQ q often L w F) (hL : L.length ≤ 1000) (hm : mayK c = true) (hn : nothingK c = false) (k : Nat) (t : Td) (hk : L[k]? = some t) (ha : atIx L c.n = k) (hc : ¬ 0 ≤ cmpK t.c c) :
  Calls Tryz.prog 42 #[.pointer (some ⟨q, 0, none⟩), c.val] w fun e w' => e = .returned (.bool true) ∧ QEnd q often (L.set k ⟨c, 0⟩) F w w' := by
 obtain ⟨n, i, s⟩ := c
 obtain ⟨⟨m, i', s'⟩, o⟩ := t
 unfold Cl.val
 unfold cmpK at hc
 dsimp only at ha hc ⊢
 have HH := Lib.hid h
 have HM : Hid (∀ W, Gives Tryz.prog 38 #[.agg #[.int .i64 n, .int .i64 i, .int .i64 s]] W (.bool true)) := Lib.hid (fun W => (refMay_any n i s W).cast (by rw [show mayB n i s = true from hm]))
 have HN : Hid (∀ W, Gives Tryz.prog 39 #[.agg #[.int .i64 n, .int .i64 i, .int .i64 s]] W (.bool false)) := Lib.hid (fun W => (refNothing_any n i s W).cast (by rw [show nothingB i s = false from hn]))
 have HA : Hid (∀ x : Later (w.alloc (.cells #[.int .i64 n, .int .i64 i, .int .i64 s] 30)), Gives Tryz.prog 69 #[.pointer (some ⟨q, 0, none⟩), .int .i64 n] x.w (.int .i64 k)) := Lib.hid (fun x => (at_any q often L n x.w F (by
  have hb : Below w.heap.size w x.w := ext_later (ext_alloc (ext_refl w) _) x
  exact (refQ_owns q often L).kept w x.w F h hb.size (fun k hk => hb.block k ((refQ_owns q often L).lt w F h k hk))) hL).cast (by rw [ha]))
 have HC := Lib.hid (fun W => refCompare_any m i' s' n i s W)
 obtain ⟨C, hC⟩ : ∃ C, cmpC i' s' i s = C := ⟨_, rfl⟩
 rw [hC] at HC hc
 clear hC
 obtain ⟨p, cap, hcells⟩ := h.cells
 have hlt := hcells.lt
 have hkl : k < L.length := by
  have := List.getElem?_eq_some_iff.1 hk
  exact this.1
 rcases hcells.row with h0 | ⟨g, rfl, hg, hgq, hfz, hcell⟩
 ·rw [h0] at hkl; simp at hkl
 obtain ⟨a0, a1, a2, a3⟩ := hcell k _ hk
 have e1 := hcells.h1
 have he := Lib.hid e1
 have f0 := hfz (k * 4)
 have f1 := hfz (k * 4 + 1)
 have f2 := hfz (k * 4 + 2)
 have f3 := hfz (k * 4 + 3)
 clear hm hn ha hcell hk hcells hfz h
 go_enter Tryz.func42, Tryz.ntmps42
 go_wp2_with fail
 refine Gives.mono' (HM.out _) ?_
 intro x1
 go_wp2_with fail
 refine Gives.on (HN.out _) ?_
 intro x2
 go_wp2_with fail
 refine Gives.on (HA.out _) ?_
 intro x3
 go_wp2_with fail
 refine wp_region_later_on (by kernel_rfl) (by kernel_rfl) ?_
 repeat (go_big_quiet_step (first | (go_at_call 61; with_reducible exact later_of (HC.out _))))
 refine wpQuiet_nil ?_
 rintro _ ⟨x9, rfl⟩
 go_wp2_with fail
 have hb9 : Below w.heap.size w x9.w := ext_later (ext_alloc (ext_refl w) _) x9
 have HB9 := Lib.hid hb9
 have hbox : x9.w.cell? ⟨w.heap.size, 0, none⟩ = some (.int .i64 n) ∧ x9.w.cell? ⟨w.heap.size, 1, none⟩ = some (.int .i64 i) ∧ x9.w.cell? ⟨w.heap.size, 2, none⟩ = some (.int .i64 s) := ⟨by simp [go_sem], by simp [go_sem], by simp [go_sem]⟩
 obtain ⟨b0, b1, b2⟩ := hbox
 have c1 : x9.w.cell? ⟨q, 1, none⟩ = _ := (hb9.cell (p := ⟨q, _, none⟩) hlt).trans e1
 have c2 : x9.w.cell? ⟨g, k * 4, none⟩ = _ := (hb9.cell (p := ⟨g, _, none⟩) hg).trans a0
 have c3 : x9.w.cell? ⟨g, k * 4 + 1, none⟩ = _ := (hb9.cell (p := ⟨g, _, none⟩) hg).trans a1
 have c4 : x9.w.cell? ⟨g, k * 4 + 2, none⟩ = _ := (hb9.cell (p := ⟨g, _, none⟩) hg).trans a2
 have c5 : x9.w.cell? ⟨g, k * 4 + 3, none⟩ = _ := (hb9.cell (p := ⟨g, _, none⟩) hg).trans a3
 have z0 : x9.w.frozen? ⟨g, k * 4, none⟩ = _ := (hb9.frozen (p := ⟨g, _, none⟩) hg).trans f0
 have z1 : x9.w.frozen? ⟨g, k * 4 + 1, none⟩ = _ := (hb9.frozen (p := ⟨g, _, none⟩) hg).trans f1
 have z2 : x9.w.frozen? ⟨g, k * 4 + 2, none⟩ = _ := (hb9.frozen (p := ⟨g, _, none⟩) hg).trans f2
 have z3 : x9.w.frozen? ⟨g, k * 4 + 3, none⟩ = _ := (hb9.frozen (p := ⟨g, _, none⟩) hg).trans f3
 have hg9 : g < x9.w.heap.size := Nat.lt_of_lt_of_le hg hb9.size
 obtain ⟨w9, hw9⟩ : ∃ W, x9.w = W := ⟨_, rfl⟩
 rw [hw9] at HB9 b0 b1 b2 c1 c2 c3 c4 c5 z0 z1 z2 z3 hg9 ⊢
 have hcf : decide (0 ≤ C) = false := by simpa using hc
 rw [hcf]
 clear hb9 hw9 a0 a1 a2 a3 e1 f0 f1 f2 f3 hc hcf HC
 go_region_law (fail)
 all_goals go_wp2_with fail
 all_goals go_ret
 all_goals exact ⟨rfl, set_done q often L ⟨⟨n, i, s⟩, 0⟩ HH.out he.out hkl HB9.out⟩
theorem put_any (q often : Nat) (L : List Td) (c : Cl) (w : World) (F : Nat → Prop) (h : RefQ q often L w F) (hL : L.length ≤ 1000) :
  Calls Tryz.prog 42 #[.pointer (some ⟨q, 0, none⟩), c.val] w fun e w' => e = .returned (.bool (putOf L c).2) ∧ QEnd q often (putOf L c).1 F w w' := by
 by_cases hbad : mayK c = false ∨ nothingK c = true
 ·have e : putOf L c = (L, false) := by unfold putOf; rw [if_pos hbad]
  rw [e]
  exact (put_bad q often L c w hbad).mono' fun x => ⟨rfl, qEnd_later h x⟩
 ·have hm : mayK c = true := by cases hm : mayK c <;> simp_all
  have hn : nothingK c = false := by cases hn : nothingK c <;> simp_all
  cases hf : L.findIdx? (fun t => t.c.n == c.n) with
  | none =>
   have e : putOf L c = (L ++ [⟨c, 0⟩], true) := by unfold putOf; rw [if_neg hbad, hf]
   rw [e]
   exact put_new q often L c w F h hL hm hn (by simp [atIx, hf])
  | some k =>
   have hk : k < L.length := (List.findIdx?_eq_some_iff_getElem.1 hf).1
   have hg : L[k]? = some L[k] := List.getElem?_eq_getElem hk
   by_cases hc : 0 ≤ cmpK L[k].c c
   ·have e : putOf L c = (L, false) := by unfold putOf; rw [if_neg hbad, hf]; simp only [hg, if_pos hc]
    rw [e]
    exact (put_low q often L c w F h hL hm hn k _ hg (by simp [atIx, hf]) hc).mono' fun x => ⟨rfl, qEnd_later h x⟩
   ·have e : putOf L c = (L.set k ⟨c, 0⟩, true) := by unfold putOf; rw [if_neg hbad, hf]; simp only [hg, if_neg hc]
    rw [e]
    exact put_up q often L c w F h hL hm hn k _ hg (by simp [atIx, hf]) hc
end
section
open Go Go.RowKit
theorem ownsRow_weaken {W : World} {b b' : Nat} {e : TypeId} {size : Nat} {v : Value} {k : Nat} {xs : List Value} (h : W.ownsRow b e size v k xs) (hb : b' ≤ b) : W.ownsRow b' e size v k xs := by
 refine ⟨h.1, ?_⟩
 rcases h.2 with h2 | ⟨g, cap, cur, hv, hg, rest⟩
 ·exact .inl h2
 ·exact .inr ⟨g, cap, cur, hv, Nat.le_trans hb hg, rest⟩
theorem take_done {q often : Nat} {L R : List Td} {w z : World} {F : Nat → Prop} {v : Value} {base : Nat} (h : RefQ q often L w F) (hb : Below w.heap.size w z) (hr : z.ownsRow base 123 4 v R.length (cellsT R)) (hbase : w.heap.size ≤ base) : QEnd q often R F w (z.setCell ⟨q, 1, none⟩ v) := by
 obtain ⟨u, hq, _, hF⟩ := h
 have hlt := (Array.getElem?_eq_some_iff.1 hq).1
 have hz : z.heap[q]? = _ := (hb.block q hlt).trans hq
 refine ⟨fun j => j = q ∨ v.ownBlock = some j, ⟨v, ?_, ownsRow_weaken (ownsRow_setCell_below hr (a := ⟨q, 1, none⟩) (by show q < base; omega) v) (Nat.zero_le _), fun j => Iff.rfl⟩, (Fr.of_below hb).set q 1 _ (.inl ((hF q).2 (.inl rfl))), ?_⟩
 ·rw [heap_setCell_same _ _ _ _ _ _ hz]; rfl
 ·rintro k (rfl | e)
  ·exact .inl ((hF k).2 (.inl rfl))
  ·exact .inr (Nat.le_trans hbase (hr.lt k e).1)
def QEndA (q often : Nat) (L : List Td) (F : Nat → Prop) (u : Value) (W W' : World) : Prop := ∃ F', RefQ q often L W' F' ∧ Fr F W W' ∧ (∀ k, F' k → F k ∨ W.heap.size ≤ k) ∧ ∀ k, u.ownBlock = some k → ¬ F' k
theorem take_doneA {q often : Nat} {L R : List Td} {w z : World} {F : Nat → Prop} {v u : Value} {base : Nat} (h : RefQ q often L w F) (hb : Below w.heap.size w z) (hr : z.ownsRow base 123 4 v R.length (cellsT R)) (hbase : w.heap.size ≤ base) (hu : ∀ k, u.ownBlock = some k → k ≠ q ∧ k < base) : QEndA q often R F u w (z.setCell ⟨q, 1, none⟩ v) := by
 obtain ⟨u0, hq, _, hF⟩ := h
 have hlt := (Array.getElem?_eq_some_iff.1 hq).1
 have hz : z.heap[q]? = _ := (hb.block q hlt).trans hq
 refine ⟨fun j => j = q ∨ v.ownBlock = some j, ⟨v, ?_, ownsRow_weaken (ownsRow_setCell_below hr (a := ⟨q, 1, none⟩) (by show q < base; omega) v) (Nat.zero_le _), fun j => Iff.rfl⟩, (Fr.of_below hb).set q 1 _ (.inl ((hF q).2 (.inl rfl))), ?_, ?_⟩
 ·rw [heap_setCell_same _ _ _ _ _ _ hz]; rfl
 ·rintro k (rfl | e)
  ·exact .inl ((hF k).2 (.inl rfl))
  ·exact .inr (Nat.le_trans hbase (hr.lt k e).1)
 ·rintro k hk (rfl | e)
  ·exact (hu k hk).1 rfl
  ·have h1 := (hu k hk).2
   have h2 := (hr.lt k e).1
   omega
set_option maxHeartbeats 800000 in
set_option maxRecDepth 100000 in
theorem take_apart (q often : Nat) (L : List Td) (n : Int) (w : World) (F : Nat → Prop) (h : RefQ q often L w F) (hL : L.length ≤ 8) (hN : ∀ t ∈ L, 0 ≤ t.c.n ∧ t.c.n < 8) (hO : Once L) (hT : ∀ t ∈ L, t.n < often) (hoft : often ≤ 1000) :
  Calls Tryz.prog 73 #[.pointer (some ⟨q, 0, none⟩), .int .i64 n] w fun e w' => ∃ v O tk, e = .returned v ∧ Picked L O (leftOf L tk) ∧ (O.length : Int) = min (max n 0) L.length ∧ w'.ownsRow w.heap.size 30 3 v O.length (cellsOf (O.map (·.c))) ∧ QEndA q often (restOf often tk L) F v w w' := by
 obtain ⟨i0, hi, hz0, hz1, hz2⟩ := info_parts infoTold
 obtain ⟨i1, hi1, hy0, hy1, hy2⟩ := info_parts infoClaim
 have HH := Lib.hid h
 obtain ⟨p, cap, hc⟩ := h.cells
 have hlt := hc.lt
 have hh1 := hc.h1
 have HC := Lib.hid hc
 have HO := Lib.hid hO
 have HN := Lib.hid hN
 have HTn := Lib.hid hT
 clear h hc hO hN hT
 go_enter Tryz.func73, Tryz.ntmps73
 go_wp2_with fail
 clear hh1
 go_loopw [5, 7, 8, 9, 32] (fun v5 _ _ _ _ wr => ∃ O tk, TakeInv w L n O tk v5 wr) (fun v5 _ _ _ _ _ => L.length - lenOf v5)
 case atStart => exact ⟨[], fun _ => false, takeInv_start w L n _⟩
 case round =>
  obtain ⟨O, tk, hinv⟩ := hrel
  have hlen := hinv.len
  obtain ⟨po, co, rfl⟩ := ownsRow_form hinv.row
  have hB := hinv.below
  have e1 : wr.cell? ⟨q, 1, none⟩ = some (.slice p L.length cap) := (hB.cell (p := ⟨q, _, none⟩) hlt).trans HC.out.h1
  have HI := Lib.hid hinv
  have hql : q < wr.heap.size := Nat.lt_of_lt_of_le hlt hB.size
  have htl := hinv.lt
  clear hinv hB
  by_cases hmore : (O.length : Int) < n ∧ O.length < L.length
  ·obtain ⟨m1, m2⟩ := hmore
   have m2' : ((O.length : Int) < (L.length : Int)) := by omega
   go_wp2_with fail
   go_loopw [7, 8, 9, 32] (fun v7 _ _ v32 z => ∃ (k : Nat) (b : Int), k ≤ L.length ∧ v32 = .int .i64 k ∧ v7 = .int .i64 b ∧ BestOf L tk k b ∧ ∃ x : Later wr, z = x.w) (fun _ _ _ v32 _ => L.length - (intOf v32).toNat)
   case atStart => exact ⟨0, -1, by omega, rfl, rfl, BestOf.zero _ _, ⟨wr, Below.refl _ _⟩, rfl⟩
   case round =>
    obtain ⟨k, b, hk, rfl, rfl, hbest, x, rfl⟩ := hrel
    have HBest := Lib.hid hbest
    clear hbest
    by_cases hkl : k < L.length
    ·obtain ⟨⟨⟨m, i, s⟩, t⟩, hkc⟩ : ∃ t, L[k]? = some t := ⟨_, List.getElem?_eq_getElem hkl⟩
     have hm := HN.out _ (List.mem_of_getElem? hkc)
     dsimp only at hm
     obtain ⟨m, rfl⟩ : ∃ j : Nat, m = j := ⟨m.toNat, by omega⟩
     have hm8 : m < 8 := by omega
     rcases HC.out.row with h0 | ⟨g, rfl, hg, hgq, _, hcell⟩
     ·rw [h0] at hkl; simp at hkl
     have hgw : g < wr.heap.size := Nat.lt_of_lt_of_le hg HI.out.below.size
     obtain ⟨a0, a1, a2, a3⟩ := hcell k _ hkc
     have hB := HI.out.below
     have hc0 : wr.cell? ⟨g, k * 4, none⟩ = some (.int .i64 m) := (hB.cell (p := ⟨g, _, none⟩) hg).trans a0
     have hc1 : wr.cell? ⟨g, k * 4 + 1, none⟩ = some (.int .i64 i) := (hB.cell (p := ⟨g, _, none⟩) hg).trans a1
     have hc2 : wr.cell? ⟨g, k * 4 + 2, none⟩ = some (.int .i64 s) := (hB.cell (p := ⟨g, _, none⟩) hg).trans a2
     obtain ⟨T, hT⟩ : ∃ T : Int, T = (t : Int) := ⟨_, rfl⟩
     have hc3 : wr.cell? ⟨g, k * 4 + 3, none⟩ = some (.int .i64 T) := (hB.cell (p := ⟨g, _, none⟩) hg).trans (by rw [hT]; exact a3)
     have HT := Lib.hid hT
     clear hT
     have htb := HI.out.tbl m hm8
     have HCell := Lib.hid hcell
     clear a0 a1 a2 a3 hcell hB hm
     have HK := Lib.hid hkc
     clear hkc
     cases htk : tk m with
     | true =>
      rw [htk] at htb
      go_wp2_with fail
      go_roundw
      case rel => exact ⟨k + 1, b, by omega, by go_num, rfl, HBest.out.skip HK.out htk, Later.ex (ext_alloc x.below _)⟩
      case measure => simp [intOf]; omega
     | false =>
      rw [htk] at htb
      rcases HBest.out with ⟨rfl, _⟩ | ⟨j, ⟨⟨mu, iu, su⟩, tu⟩, rfl, hj, hu, hun, _⟩
      ·go_upto_region 9 with fail
       go_quiet (fail)
       go_wp2_with fail
       go_roundw
       case rel => exact ⟨k + 1, k, by omega, by go_num, rfl, HBest.out.first HK.out htk, Later.ex (ext_drewN (ext_alloc x.below _) _)⟩
       case measure => simp [intOf]; omega
      ·have hjl : j < L.length := by omega
       obtain ⟨a0, a1, a2, a3⟩ := HCell.out j _ hu
       have hB := HI.out.below
       have hd0 : wr.cell? ⟨g, j * 4, none⟩ = some (.int .i64 mu) := (hB.cell (p := ⟨g, _, none⟩) hg).trans a0
       obtain ⟨U, hU⟩ : ∃ U : Int, U = (tu : Int) := ⟨_, rfl⟩
       have hd3 : wr.cell? ⟨g, j * 4 + 3, none⟩ = some (.int .i64 U) := (hB.cell (p := ⟨g, _, none⟩) hg).trans (by rw [hU]; exact a3)
       have HU' := Lib.hid hU
       clear hU
       have HU := Lib.hid hu
       clear a0 a1 a2 a3 hB hu hun
       have gj : decide ((j : Int) < 0) = false := by simp
       by_cases q1 : T < U
       ·have g1 : decide (T < U) = true := by simpa using q1
        go_upto_region 9 with fail
        go_quiet (fail)
        go_wp2_with fail
        go_roundw
        case rel =>
         have hlt' : Td.lt ⟨⟨m, i, s⟩, t⟩ ⟨⟨mu, iu, su⟩, tu⟩ := by have := HT.out; have := HU'.out; unfold Td.lt; dsimp only; omega
         exact ⟨k + 1, k, by omega, by go_num, rfl, HBest.out.better HU.out HK.out htk hlt', Later.ex (ext_drewN (ext_alloc x.below _) _)⟩
        case measure => simp [intOf]; omega
       ·have g1 : decide (T < U) = false := by simpa using q1
        by_cases q2 : T = U
        ·have g2 : (T == U) = true := by simpa using q2
         by_cases q3 : (m : Int) < mu
         ·have g3 : decide ((m : Int) < mu) = true := by simpa using q3
          go_upto_region 9 with fail
          go_quiet (fail)
          go_wp2_with fail
          go_roundw
          case rel =>
           have hlt' : Td.lt ⟨⟨m, i, s⟩, t⟩ ⟨⟨mu, iu, su⟩, tu⟩ := by have := HT.out; have := HU'.out; unfold Td.lt; dsimp only; omega
           exact ⟨k + 1, k, by omega, by go_num, rfl, HBest.out.better HU.out HK.out htk hlt', Later.ex (ext_drewN (ext_alloc x.below _) _)⟩
          case measure => simp [intOf]; omega
         ·have g3 : decide ((m : Int) < mu) = false := by simpa using q3
          go_upto_region 9 with fail
          go_quiet (fail)
          go_wp2_with fail
          go_roundw
          case rel =>
           have hlt' : ¬ Td.lt ⟨⟨m, i, s⟩, t⟩ ⟨⟨mu, iu, su⟩, tu⟩ := by have := HT.out; have := HU'.out; unfold Td.lt; dsimp only; omega
           exact ⟨k + 1, j, by omega, by go_num, rfl, HBest.out.stays HU.out HK.out hlt', Later.ex (ext_drewN (ext_alloc x.below _) _)⟩
          case measure => simp [intOf]; omega
        ·have g2 : (T == U) = false := by simpa using q2
         go_upto_region 9 with fail
         go_quiet (fail)
         go_wp2_with fail
         go_roundw
         case rel =>
          have hlt' : ¬ Td.lt ⟨⟨m, i, s⟩, t⟩ ⟨⟨mu, iu, su⟩, tu⟩ := by have := HT.out; have := HU'.out; unfold Td.lt; dsimp only; omega
          exact ⟨k + 1, j, by omega, by go_num, rfl, HBest.out.stays HU.out HK.out hlt', Later.ex (ext_drewN (ext_alloc x.below _) _)⟩
         case measure => simp [intOf]; omega
    ·obtain rfl : k = L.length := by omega
     obtain ⟨j, ⟨⟨m, i, s⟩, t⟩, rfl, hu, _, hpick⟩ := HBest.out.picks HO.out HI.out.picked m2
     have hm := HN.out _ (List.mem_of_getElem? hu)
     dsimp only at hm
     obtain ⟨m, rfl⟩ : ∃ j : Nat, m = j := ⟨m.toNat, by omega⟩
     have hm8 : m < 8 := by omega
     have hjl := (List.getElem?_eq_some_iff.1 hu).1
     rcases HC.out.row with h0 | ⟨g, rfl, hg, hgq, _, hcell⟩
     ·rw [h0] at hjl; simp at hjl
     have hgw : g < wr.heap.size := Nat.lt_of_lt_of_le hg HI.out.below.size
     obtain ⟨a0, a1, a2, _⟩ := hcell j _ hu
     have hB := HI.out.below
     have hB2 : Below w.heap.size w x.w := (HI.out.later x).below
     have hc0 : x.w.cell? ⟨g, j * 4, none⟩ = some (.int .i64 m) := (hB2.cell (p := ⟨g, _, none⟩) hg).trans a0
     have hc1 : x.w.cell? ⟨g, j * 4 + 1, none⟩ = some (.int .i64 i) := (hB2.cell (p := ⟨g, _, none⟩) hg).trans a1
     have hc2 : x.w.cell? ⟨g, j * 4 + 2, none⟩ = some (.int .i64 s) := (hB2.cell (p := ⟨g, _, none⟩) hg).trans a2
     have e2 : x.w.cell? ⟨q, 1, none⟩ = some (.slice (some ⟨g, 0, none⟩) L.length cap) := (hB2.cell (p := ⟨q, _, none⟩) hlt).trans HC.out.h1
     have HI2 := Lib.hid (HI.out.later x)
     have htb := HI2.out.tbl m hm8
     have hfz := HI2.out.fz m
     have htl2 := HI2.out.lt
     have hg2 : g < x.w.heap.size := Nat.lt_of_lt_of_le hg hB2.size
     have hq2 : q < x.w.heap.size := Nat.lt_of_lt_of_le hlt hB2.size
     have hgt : g ≠ w.heap.size := by omega
     have hqt : q ≠ w.heap.size := by omega
     have HP := Lib.hid hpick
     clear hpick hcell a0 a1 a2 hB hB2 hu hm htl e1 HBest HI
     obtain ⟨w2, hw2⟩ : ∃ W, x.w = W := ⟨_, rfl⟩
     rw [hw2] at hc0 hc1 hc2 e2 HI2 htb hfz htl2 hg2 hq2 ⊢
     have hrow := (ownsRow_setCell_below HI2.out.row (a := ⟨w.heap.size, m, none⟩) (Nat.lt_succ_self _) (.bool true)).alloc (.cells #[.int .i64 m, .int .i64 i, .int .i64 s] 30)
     have hcn := cell_three_new (w2.setCell ⟨w.heap.size, m, none⟩ (.bool true)) (.int .i64 m) (.int .i64 i) (.int .i64 s) 30
     rw [show (w2.setCell ⟨w.heap.size, m, none⟩ (.bool true)).heap.size = w2.heap.size from by simp] at hcn
     have HCN := Lib.hid hcn
     have HR := Lib.hid hrow
     clear hcn hrow
     go_upto_region 13 with fail
     obtain ⟨v, hv⟩ : ∃ v, Value.slice po O.length co = v := ⟨_, rfl⟩
     rw [hv] at HI2 HR ⊢
     have HV := Lib.hid hv
     clear hv
     go_wp2_with (at_builtin; refine wpList_append_own _ rfl _ _ 44 rfl (w.heap.size + 1) 30 i1 (.agg #[.int .i64 0, .int .i64 0, .int .i64 0]) 3 24 Tryz.underlying44 hi1 hy0 hy1 hy2 rfl (by decide) _ _ _ rfl HR.out ⟨w2.heap.size, 0, none⟩ 1 1 [.int .i64 m, .int .i64 i, .int .i64 s] rfl rfl HCN.out (by simp [Value.oneCell']) (by unfold maxLen; omega) (by omega) (by simp; omega) ?_; intro v' w1 hown' hgrow _; have HO1 := Lib.hid hown'; have HG := Lib.hid hgrow; clear hown' hgrow)
     go_roundw
     case rel => exact ⟨_, _, takeInv_step HI2.out rfl hm8 HP.out m1 HO1.out HG.out⟩
     case measure =>
      obtain ⟨p', c', rfl⟩ := ownsRow_form HO1.out
      simp [lenOf]
      omega
  ·have hfin : (O.length : Int) = min (max n 0) L.length := by have := HI.out.le; omega
   by_cases m1 : (O.length : Int) < n
   have m2 : ¬ ((O.length : Int) < (L.length : Int)) := by omega
   all_goals
    have HF := Lib.hid hfin
    clear hfin
    go_upto_region 14 with fail
    obtain ⟨vo, hvo⟩ : ∃ v, Value.slice po O.length co = v := ⟨_, rfl⟩
    rw [hvo] at HI ⊢
    have HVo := Lib.hid hvo
    clear hvo
    go_wp2_with fail
    clear e1
    obtain ⟨w1, hw1⟩ : ∃ W, W = wr := ⟨_, rfl⟩
    subst hw1
    go_loopw [10, 12, 113] (fun v10 _ v113 z => ∃ k : Nat, k ≤ L.length ∧ v113 = .int .i64 k ∧ z.ownsRow w1.heap.size 123 4 v10 (restOf often tk (L.take k)).length (cellsT (restOf often tk (L.take k))) ∧ Below w1.heap.size w1 z) (fun _ _ v113 _ => L.length - (intOf v113).toNat)
    case atStart => exact ⟨0, by omega, rfl, World.ownsRow_nil _ _ _ _, Below.refl _ _⟩
    case round =>
     obtain ⟨k, hk, rfl, hrow, hBz⟩ := hrel
     have hB2 : Below w.heap.size w wr := HI.out.below.trans (hBz.mono HI.out.below.size)
     have hw1z := hBz.size
     have hq2 : q < wr.heap.size := Nat.lt_of_lt_of_le hlt hB2.size
     have e0 := (hB2.cell (p := ⟨q, 0, none⟩) hlt).trans HC.out.h0
     have e1 := (hB2.cell (p := ⟨q, 1, none⟩) hlt).trans HC.out.h1
     have ef := (hB2.frozen (p := ⟨q, 1, none⟩) hlt).trans HC.out.f1
     by_cases hkl : k < L.length
     ·obtain ⟨⟨⟨m, i, s⟩, t⟩, hkc⟩ : ∃ t, L[k]? = some t := ⟨_, List.getElem?_eq_getElem hkl⟩
      have hm := HN.out _ (List.mem_of_getElem? hkc)
      have htn := HTn.out _ (List.mem_of_getElem? hkc)
      dsimp only at hm htn
      obtain ⟨m, rfl⟩ : ∃ j : Nat, m = j := ⟨m.toNat, by omega⟩
      have hm8 : m < 8 := by omega
      rcases HC.out.row with h0 | ⟨g, rfl, hg, hgq, _, hcell⟩
      ·rw [h0] at hkl; simp at hkl
      have hgw : g < wr.heap.size := Nat.lt_of_lt_of_le hg hB2.size
      obtain ⟨a0, a1, a2, a3⟩ := hcell k _ hkc
      have hc0 : wr.cell? ⟨g, k * 4, none⟩ = some (.int .i64 m) := (hB2.cell (p := ⟨g, _, none⟩) hg).trans a0
      have hc1 : wr.cell? ⟨g, k * 4 + 1, none⟩ = some (.int .i64 i) := (hB2.cell (p := ⟨g, _, none⟩) hg).trans a1
      have hc2 : wr.cell? ⟨g, k * 4 + 2, none⟩ = some (.int .i64 s) := (hB2.cell (p := ⟨g, _, none⟩) hg).trans a2
      obtain ⟨T, hT⟩ : ∃ T : Int, T = (t : Int) := ⟨_, rfl⟩
      have hc3 : wr.cell? ⟨g, k * 4 + 3, none⟩ = some (.int .i64 T) := (hB2.cell (p := ⟨g, _, none⟩) hg).trans (by rw [hT]; exact a3)
      have htb := (hBz.cell (p := ⟨w.heap.size, m, none⟩) HI.out.lt).trans (HI.out.tbl m hm8)
      have htl2 : w.heap.size < wr.heap.size := Nat.lt_of_lt_of_le HI.out.lt hw1z
      obtain ⟨OF, hOF⟩ : ∃ X : Int, X = (often : Int) := ⟨_, rfl⟩
      rw [← hOF] at e0
      have hT0 : 0 ≤ T := by omega
      have hT1 : T < 1000 := by omega
      have hRl := restOf_len often tk (L.take k)
      have hRk : (L.take k).length = k := by rw [List.length_take]; omega
      have hto : T < OF := by omega
      have HT := Lib.hid hT
      have HOF := Lib.hid hOF
      have HK := Lib.hid hkc
      have HR := Lib.hid hrow
      have HBz := Lib.hid hBz
      clear hT hOF hkc hm htn hcell a0 a1 a2 a3 hrow hBz hB2
      cases htk : tk m with
      | true =>
       rw [htk] at htb
       by_cases q1 : T + 1 < OF
       ·have g1 : decide (T + 1 < OF) = true := by simpa using q1
        go_upto_region 20 with fail
        go_quiet (fail)
        have hA : (((wr.alloc (.cells #[.int .i64 m, .int .i64 i, .int .i64 s, .int .i64 (T + 1)] 123)).drewN nq).alloc (.cells #[.int .i64 m, .int .i64 i, .int .i64 s, .int .i64 (T + 1)] 123)).ownsRow w1.heap.size 123 4 u10 (restOf often tk (L.take k)).length (cellsT (restOf often tk (L.take k))) := World.ownsRow.alloc (w := (wr.alloc (.cells #[.int .i64 m, .int .i64 i, .int .i64 s, .int .i64 (T + 1)] 123)).drewN nq) (HR.out.alloc _) _
        have hcn := cell_four_new ((wr.alloc (.cells #[.int .i64 m, .int .i64 i, .int .i64 s, .int .i64 (T + 1)] 123)).drewN nq) (.int .i64 m) (.int .i64 i) (.int .i64 s) (.int .i64 (T + 1)) 123
        rw [show ((wr.alloc (.cells #[.int .i64 m, .int .i64 i, .int .i64 s, .int .i64 (T + 1)] 123)).drewN nq).heap.size = wr.heap.size + 1 from by simp] at hcn
        have HA := Lib.hid hA
        have HCN := Lib.hid hcn
        clear hA hcn
        go_wp2_with (at_builtin; refine wpList_append_own _ rfl _ _ 116 rfl w1.heap.size 123 i0 (.agg #[.int .i64 0, .int .i64 0, .int .i64 0, .int .i64 0]) 4 32 Tryz.underlying116 hi hz0 hz1 hz2 rfl (by decide) _ _ _ rfl HA.out ⟨wr.heap.size + 1, 0, none⟩ 1 1 [.int .i64 m, .int .i64 i, .int .i64 s, .int .i64 (T + 1)] rfl rfl HCN.out (by simp [Value.oneCell']) (by unfold maxLen; omega) (by omega) (by simp; omega) ?_; intro v' w5 hown' hgrow _; have HO1 := Lib.hid hown'; have HG := Lib.hid hgrow; clear hown' hgrow)
        go_roundw
        case rel =>
         have hn : (toldUp tk ⟨⟨m, i, s⟩, t⟩).n < often := by have := HT.out; have := HOF.out; simp only [toldUp, htk, reduceIte]; omega
         have ho := HO1.out
         have hT' := HT.out
         subst hT'
         refine ⟨k + 1, by omega, by go_num, ?_, own_below HA.out (ext_alloc (ext_drewN (ext_alloc HBz.out _) _) _) HG.out (by simp; omega) (Nat.le_refl _)⟩
         rw [restOf_up HK.out hn, List.length_append, cellsT_snoc]
         simp only [toldUp, htk, reduceIte]
         exact ho
        case measure => simp [intOf]; omega
       ·have g1 : decide (T + 1 < OF) = false := by simpa using q1
        go_upto_region 20 with fail
        go_quiet (fail)
        go_wp2_with fail
        go_roundw
        case rel =>
         have hn : ¬ (toldUp tk ⟨⟨m, i, s⟩, t⟩).n < often := by have := HT.out; have := HOF.out; simp only [toldUp, htk, reduceIte]; omega
         refine ⟨k + 1, by omega, by go_num, ?_, ext_drewN (ext_alloc HBz.out _) _⟩
         rw [restOf_out HK.out hn]
         exact HR.out.alloc _
        case measure => simp [intOf]; omega
      | false =>
       rw [htk] at htb
       have q1 := hto
       ·have g1 : decide (T < OF) = true := by simpa using q1
        go_upto_region 20 with fail
        go_quiet (fail)
        have hA : (((wr.alloc (.cells #[.int .i64 m, .int .i64 i, .int .i64 s, .int .i64 T] 123)).drewN nq).alloc (.cells #[.int .i64 m, .int .i64 i, .int .i64 s, .int .i64 T] 123)).ownsRow w1.heap.size 123 4 u10 (restOf often tk (L.take k)).length (cellsT (restOf often tk (L.take k))) := World.ownsRow.alloc (w := (wr.alloc (.cells #[.int .i64 m, .int .i64 i, .int .i64 s, .int .i64 T] 123)).drewN nq) (HR.out.alloc _) _
        have hcn := cell_four_new ((wr.alloc (.cells #[.int .i64 m, .int .i64 i, .int .i64 s, .int .i64 T] 123)).drewN nq) (.int .i64 m) (.int .i64 i) (.int .i64 s) (.int .i64 T) 123
        rw [show ((wr.alloc (.cells #[.int .i64 m, .int .i64 i, .int .i64 s, .int .i64 T] 123)).drewN nq).heap.size = wr.heap.size + 1 from by simp] at hcn
        have HA := Lib.hid hA
        have HCN := Lib.hid hcn
        clear hA hcn
        go_wp2_with (at_builtin; refine wpList_append_own _ rfl _ _ 116 rfl w1.heap.size 123 i0 (.agg #[.int .i64 0, .int .i64 0, .int .i64 0, .int .i64 0]) 4 32 Tryz.underlying116 hi hz0 hz1 hz2 rfl (by decide) _ _ _ rfl HA.out ⟨wr.heap.size + 1, 0, none⟩ 1 1 [.int .i64 m, .int .i64 i, .int .i64 s, .int .i64 T] rfl rfl HCN.out (by simp [Value.oneCell']) (by unfold maxLen; omega) (by omega) (by simp; omega) ?_; intro v' w5 hown' hgrow _; have HO1 := Lib.hid hown'; have HG := Lib.hid hgrow; clear hown' hgrow)
        go_roundw
        case rel =>
         have hn : (toldUp tk ⟨⟨m, i, s⟩, t⟩).n < often := by have := HT.out; have := HOF.out; simp only [toldUp, htk, reduceIte, Bool.false_eq_true]; omega
         have ho := HO1.out
         have hT' := HT.out
         subst hT'
         refine ⟨k + 1, by omega, by go_num, ?_, own_below HA.out (ext_alloc (ext_drewN (ext_alloc HBz.out _) _) _) HG.out (by simp; omega) (Nat.le_refl _)⟩
         rw [restOf_up HK.out hn, List.length_append, cellsT_snoc]
         simp only [toldUp, htk, reduceIte, Bool.false_eq_true]
         exact ho
        case measure => simp [intOf]; omega
     ·obtain rfl : k = L.length := by omega
      rw [List.take_length] at hrow
      obtain ⟨pz, cz, hz⟩ := ownsRow_form hrow
      subst hz
      have HR := Lib.hid hrow
      have HBz := Lib.hid hBz
      have HB2 := Lib.hid hB2
      clear hrow hBz hB2 hw1z
      go_wp2_with fail
      go_ret
      exact ⟨_, _, _, rfl, HI.out.picked, HF.out, ownsRow_weaken (ownsRow_setCell_below (HI.out.row.kept (grownBy_of_below' HBz.out none) (by cases hv : vo.ownBlock <;> simp)) (a := ⟨q, 1, none⟩) (by show q < _; omega) _) (Nat.le_succ _), take_doneA HH.out HB2.out HR.out (Nat.le_of_lt HI.out.lt) (fun k hk => ⟨by have := (HI.out.row.lt k hk).1; omega, (HI.out.row.lt k hk).2⟩)⟩
end
end Go.Proofs.YtjbihgfdgaiecaaGreat

/- MRefute: Health, Health2, Health5. -/
namespace Go.Proofs.YtjbihgfdgaiecaaGreat
section
open Go Go.RowKit
set_option maxHeartbeats 400000 in
theorem accuses_any (n i h : Int) (w : World) : Gives Tryz.prog 106 #[.agg #[.int .i64 n, .int .i64 i, .int .i64 h]] w (.bool (accB h)) := by
 unfold Gives
 by_cases q0 : h = 2 <;> by_cases q1 : h = 3
 all_goals try (exfalso; omega)
 all_goals first | (have H : Hid (accB h = true) := Lib.hid (by simp [accB]; omega)) | (have H : Hid (accB h = false) := Lib.hid (by simp [accB]; omega))
 all_goals first | (have eq0 : ((h : Int) == 2) = true := by simp [q0]) | (have eq0 : ((h : Int) == 2) = false := by simp [q0])
 all_goals first | (have eq1 : ((h : Int) == 3) = true := by simp [q1]) | (have eq1 : ((h : Int) == 3) = false := by simp [q1])
 all_goals clear q0 q1
 all_goals
  go_enter Tryz.func106, Tryz.ntmps106
  go_wp2
  all_goals go_ret
  all_goals exact ⟨by rw [H.out]; rfl, Later.ex (by repeat (first | exact ext_refl _ | refine ext_alloc ?_ _ | refine ext_later ?_ _ | refine ext_drew ?_ | refine ext_drewN ?_ _))⟩
end
section
open Go Go.RowKit
end
section
open Go Go.RowKit
def refN (self inc n i h : Int) : Int := if ¬ ((0 ≤ self ∧ self < 8) ∧ (0 ≤ inc ∧ inc ≤ 1000000) ∧ ((0 ≤ n ∧ n < 8) ∧ ((i = 0 ∧ h = 0) ∨ ((0 ≤ i ∧ i ≤ 1000000) ∧ 1 ≤ h ∧ h ≤ 4)))) then 0 else if n ≠ self ∨ ¬ (h = 2 ∨ h = 3) ∨ i < inc then inc else if 1000000 ≤ i then inc else i + 1
def refE (self inc n i h : Int) : Int := if ¬ ((0 ≤ self ∧ self < 8) ∧ (0 ≤ inc ∧ inc ≤ 1000000) ∧ ((0 ≤ n ∧ n < 8) ∧ ((i = 0 ∧ h = 0) ∨ ((0 ≤ i ∧ i ≤ 1000000) ∧ 1 ≤ h ∧ h ≤ 4)))) then 1 else if n ≠ self ∨ ¬ (h = 2 ∨ h = 3) ∨ i < inc then 0 else if 1000000 ≤ i then 6 else 0
set_option maxHeartbeats 400000 in
theorem refute_any_0 (self inc n i h : Int) (p : ¬ (0 ≤ self ∧ self < 8)) (w : World) : Gives Tryz.prog 88 #[.int .i64 self, .int .i64 inc, .agg #[.int .i64 n, .int .i64 i, .int .i64 h]] w (.tuple #[.int .i64 (refN self inc n i h), .int .i64 (refE self inc n i h)]) := by
 unfold Gives
 all_goals have HH : Hid (refN self inc n i h = 0 ∧ refE self inc n i h = 1) := Lib.hid (by unfold refN refE; constructor <;> rw [if_pos (fun z => p z.1)])
 all_goals try (first | (have HN : Hid (∀ w, Gives Tryz.prog 62 #[.int .i64 self] w (.bool true)) := Lib.hid (fun w => (isNode_any self w).cast (by rw [show nodeB self = true from by simp only [nodeB, decide_eq_true_eq]; omega]))) | (have HN : Hid (∀ w, Gives Tryz.prog 62 #[.int .i64 self] w (.bool false)) := Lib.hid (fun w => (isNode_any self w).cast (by rw [show nodeB self = false from by simp only [nodeB, decide_eq_false_iff_not]; omega]))))
 all_goals try (first | (have HI : Hid (∀ w, Gives Tryz.prog 64 #[.int .i64 inc] w (.bool true)) := Lib.hid (fun w => (isInc_any inc w).cast (by rw [show incB inc = true from by simp only [incB, decide_eq_true_eq]; omega]))) | (have HI : Hid (∀ w, Gives Tryz.prog 64 #[.int .i64 inc] w (.bool false)) := Lib.hid (fun w => (isInc_any inc w).cast (by rw [show incB inc = false from by simp only [incB, decide_eq_false_iff_not]; omega]))))
 all_goals try (first | (have HM : Hid (∀ w, Gives Tryz.prog 36 #[.agg #[.int .i64 n, .int .i64 i, .int .i64 h]] w (.bool true)) := Lib.hid (fun w => (may_any n i h w).cast (by rw [show mayB n i h = true from by simp only [mayB, decide_eq_true_eq]; omega]))) | (have HM : Hid (∀ w, Gives Tryz.prog 36 #[.agg #[.int .i64 n, .int .i64 i, .int .i64 h]] w (.bool false)) := Lib.hid (fun w => (may_any n i h w).cast (by rw [show mayB n i h = false from by simp only [mayB, decide_eq_false_iff_not]; omega]))))
 all_goals try (first | (have e1 : ((n : Int) != self) = true := by first | exact beq_iff_eq.2 (by omega) | (rw [bne_iff_ne]; omega)) | (have e1 : ((n : Int) != self) = false := by first | exact beq_eq_false_iff_ne.2 (by omega) | exact bne_eq_false_iff_eq.2 (by omega)))
 all_goals try (first | (have HA : Hid (∀ w, Gives Tryz.prog 106 #[.agg #[.int .i64 n, .int .i64 i, .int .i64 h]] w (.bool true)) := Lib.hid (fun w => (accuses_any n i h w).cast (by rw [show accB h = true from by simp only [accB, decide_eq_true_eq]; omega]))) | (have HA : Hid (∀ w, Gives Tryz.prog 106 #[.agg #[.int .i64 n, .int .i64 i, .int .i64 h]] w (.bool false)) := Lib.hid (fun w => (accuses_any n i h w).cast (by rw [show accB h = false from by simp only [accB, decide_eq_false_iff_not]; omega]))))
 all_goals first | (have l1 : inc ≤ i := by omega) | (have l1 : i < inc := by omega) | skip
 all_goals first | (have l2 : 1000000 ≤ i := by omega) | (have l2 : i < 1000000 := by omega) | skip
 all_goals first | (have l5 : 0 ≤ i := by omega) | skip
 all_goals clear p
 all_goals
  go_enter Tryz.func88, Tryz.ntmps88
  go_wp2_with (first | (go_at_call 62; (first | (with_reducible refine Gives.on (HN.out _) ?_) | (refine Gives.mono' (HN.out _) ?_)); intro x) | (go_at_call 64; (first | (with_reducible refine Gives.on (HI.out _) ?_) | (refine Gives.mono' (HI.out _) ?_)); intro x) | (go_at_call 36; (first | (with_reducible refine Gives.on (HM.out _) ?_) | (refine Gives.mono' (HM.out _) ?_)); intro x) | (go_at_call 106; (first | (with_reducible refine Gives.on (HA.out _) ?_) | (refine Gives.mono' (HA.out _) ?_)); intro x))
  all_goals (go_ret2; exact ⟨by rw [HH.out.1, HH.out.2]; first | rfl | (simp [go_sem]; omega), Later.ex (by repeat (first | exact ext_refl _ | refine ext_alloc ?_ _ | refine ext_later ?_ _ | refine ext_drew ?_ | refine ext_drewN ?_ _))⟩)
set_option maxHeartbeats 400000 in
theorem refute_any_1 (self inc n i h : Int) (p : (0 ≤ self ∧ self < 8)) (q : ¬ (0 ≤ inc ∧ inc ≤ 1000000)) (w : World) : Gives Tryz.prog 88 #[.int .i64 self, .int .i64 inc, .agg #[.int .i64 n, .int .i64 i, .int .i64 h]] w (.tuple #[.int .i64 (refN self inc n i h), .int .i64 (refE self inc n i h)]) := by
 unfold Gives
 all_goals have HH : Hid (refN self inc n i h = 0 ∧ refE self inc n i h = 1) := Lib.hid (by unfold refN refE; constructor <;> rw [if_pos (fun z => q z.2.1)])
 all_goals try (first | (have HN : Hid (∀ w, Gives Tryz.prog 62 #[.int .i64 self] w (.bool true)) := Lib.hid (fun w => (isNode_any self w).cast (by rw [show nodeB self = true from by simp only [nodeB, decide_eq_true_eq]; omega]))) | (have HN : Hid (∀ w, Gives Tryz.prog 62 #[.int .i64 self] w (.bool false)) := Lib.hid (fun w => (isNode_any self w).cast (by rw [show nodeB self = false from by simp only [nodeB, decide_eq_false_iff_not]; omega]))))
 all_goals try (first | (have HI : Hid (∀ w, Gives Tryz.prog 64 #[.int .i64 inc] w (.bool true)) := Lib.hid (fun w => (isInc_any inc w).cast (by rw [show incB inc = true from by simp only [incB, decide_eq_true_eq]; omega]))) | (have HI : Hid (∀ w, Gives Tryz.prog 64 #[.int .i64 inc] w (.bool false)) := Lib.hid (fun w => (isInc_any inc w).cast (by rw [show incB inc = false from by simp only [incB, decide_eq_false_iff_not]; omega]))))
 all_goals try (first | (have HM : Hid (∀ w, Gives Tryz.prog 36 #[.agg #[.int .i64 n, .int .i64 i, .int .i64 h]] w (.bool true)) := Lib.hid (fun w => (may_any n i h w).cast (by rw [show mayB n i h = true from by simp only [mayB, decide_eq_true_eq]; omega]))) | (have HM : Hid (∀ w, Gives Tryz.prog 36 #[.agg #[.int .i64 n, .int .i64 i, .int .i64 h]] w (.bool false)) := Lib.hid (fun w => (may_any n i h w).cast (by rw [show mayB n i h = false from by simp only [mayB, decide_eq_false_iff_not]; omega]))))
 all_goals try (first | (have e1 : ((n : Int) != self) = true := by first | exact beq_iff_eq.2 (by omega) | (rw [bne_iff_ne]; omega)) | (have e1 : ((n : Int) != self) = false := by first | exact beq_eq_false_iff_ne.2 (by omega) | exact bne_eq_false_iff_eq.2 (by omega)))
 all_goals try (first | (have HA : Hid (∀ w, Gives Tryz.prog 106 #[.agg #[.int .i64 n, .int .i64 i, .int .i64 h]] w (.bool true)) := Lib.hid (fun w => (accuses_any n i h w).cast (by rw [show accB h = true from by simp only [accB, decide_eq_true_eq]; omega]))) | (have HA : Hid (∀ w, Gives Tryz.prog 106 #[.agg #[.int .i64 n, .int .i64 i, .int .i64 h]] w (.bool false)) := Lib.hid (fun w => (accuses_any n i h w).cast (by rw [show accB h = false from by simp only [accB, decide_eq_false_iff_not]; omega]))))
 all_goals first | (have l1 : inc ≤ i := by omega) | (have l1 : i < inc := by omega) | skip
 all_goals first | (have l2 : 1000000 ≤ i := by omega) | (have l2 : i < 1000000 := by omega) | skip
 all_goals first | (have l5 : 0 ≤ i := by omega) | skip
 all_goals clear p q
 all_goals
  go_enter Tryz.func88, Tryz.ntmps88
  go_wp2_with (first | (go_at_call 62; (first | (with_reducible refine Gives.on (HN.out _) ?_) | (refine Gives.mono' (HN.out _) ?_)); intro x) | (go_at_call 64; (first | (with_reducible refine Gives.on (HI.out _) ?_) | (refine Gives.mono' (HI.out _) ?_)); intro x) | (go_at_call 36; (first | (with_reducible refine Gives.on (HM.out _) ?_) | (refine Gives.mono' (HM.out _) ?_)); intro x) | (go_at_call 106; (first | (with_reducible refine Gives.on (HA.out _) ?_) | (refine Gives.mono' (HA.out _) ?_)); intro x))
  all_goals (go_ret2; exact ⟨by rw [HH.out.1, HH.out.2]; first | rfl | (simp [go_sem]; omega), Later.ex (by repeat (first | exact ext_refl _ | refine ext_alloc ?_ _ | refine ext_later ?_ _ | refine ext_drew ?_ | refine ext_drewN ?_ _))⟩)
set_option maxHeartbeats 400000 in
theorem refute_any_2 (self inc n i h : Int) (p : (0 ≤ self ∧ self < 8)) (q : (0 ≤ inc ∧ inc ≤ 1000000)) (m : ¬ ((0 ≤ n ∧ n < 8) ∧ ((i = 0 ∧ h = 0) ∨ ((0 ≤ i ∧ i ≤ 1000000) ∧ 1 ≤ h ∧ h ≤ 4)))) (w : World) : Gives Tryz.prog 88 #[.int .i64 self, .int .i64 inc, .agg #[.int .i64 n, .int .i64 i, .int .i64 h]] w (.tuple #[.int .i64 (refN self inc n i h), .int .i64 (refE self inc n i h)]) := by
 unfold Gives
 all_goals have HH : Hid (refN self inc n i h = 0 ∧ refE self inc n i h = 1) := Lib.hid (by unfold refN refE; constructor <;> rw [if_pos (fun z => m z.2.2)])
 all_goals try (first | (have HN : Hid (∀ w, Gives Tryz.prog 62 #[.int .i64 self] w (.bool true)) := Lib.hid (fun w => (isNode_any self w).cast (by rw [show nodeB self = true from by simp only [nodeB, decide_eq_true_eq]; omega]))) | (have HN : Hid (∀ w, Gives Tryz.prog 62 #[.int .i64 self] w (.bool false)) := Lib.hid (fun w => (isNode_any self w).cast (by rw [show nodeB self = false from by simp only [nodeB, decide_eq_false_iff_not]; omega]))))
 all_goals try (first | (have HI : Hid (∀ w, Gives Tryz.prog 64 #[.int .i64 inc] w (.bool true)) := Lib.hid (fun w => (isInc_any inc w).cast (by rw [show incB inc = true from by simp only [incB, decide_eq_true_eq]; omega]))) | (have HI : Hid (∀ w, Gives Tryz.prog 64 #[.int .i64 inc] w (.bool false)) := Lib.hid (fun w => (isInc_any inc w).cast (by rw [show incB inc = false from by simp only [incB, decide_eq_false_iff_not]; omega]))))
 all_goals try (first | (have HM : Hid (∀ w, Gives Tryz.prog 36 #[.agg #[.int .i64 n, .int .i64 i, .int .i64 h]] w (.bool true)) := Lib.hid (fun w => (may_any n i h w).cast (by rw [show mayB n i h = true from by simp only [mayB, decide_eq_true_eq]; omega]))) | (have HM : Hid (∀ w, Gives Tryz.prog 36 #[.agg #[.int .i64 n, .int .i64 i, .int .i64 h]] w (.bool false)) := Lib.hid (fun w => (may_any n i h w).cast (by rw [show mayB n i h = false from by simp only [mayB, decide_eq_false_iff_not]; omega]))))
 all_goals try (first | (have e1 : ((n : Int) != self) = true := by first | exact beq_iff_eq.2 (by omega) | (rw [bne_iff_ne]; omega)) | (have e1 : ((n : Int) != self) = false := by first | exact beq_eq_false_iff_ne.2 (by omega) | exact bne_eq_false_iff_eq.2 (by omega)))
 all_goals try (first | (have HA : Hid (∀ w, Gives Tryz.prog 106 #[.agg #[.int .i64 n, .int .i64 i, .int .i64 h]] w (.bool true)) := Lib.hid (fun w => (accuses_any n i h w).cast (by rw [show accB h = true from by simp only [accB, decide_eq_true_eq]; omega]))) | (have HA : Hid (∀ w, Gives Tryz.prog 106 #[.agg #[.int .i64 n, .int .i64 i, .int .i64 h]] w (.bool false)) := Lib.hid (fun w => (accuses_any n i h w).cast (by rw [show accB h = false from by simp only [accB, decide_eq_false_iff_not]; omega]))))
 all_goals first | (have l1 : inc ≤ i := by omega) | (have l1 : i < inc := by omega) | skip
 all_goals first | (have l2 : 1000000 ≤ i := by omega) | (have l2 : i < 1000000 := by omega) | skip
 all_goals first | (have l5 : 0 ≤ i := by omega) | skip
 all_goals clear p q m
 all_goals
  go_enter Tryz.func88, Tryz.ntmps88
  go_wp2_with (first | (go_at_call 62; (first | (with_reducible refine Gives.on (HN.out _) ?_) | (refine Gives.mono' (HN.out _) ?_)); intro x) | (go_at_call 64; (first | (with_reducible refine Gives.on (HI.out _) ?_) | (refine Gives.mono' (HI.out _) ?_)); intro x) | (go_at_call 36; (first | (with_reducible refine Gives.on (HM.out _) ?_) | (refine Gives.mono' (HM.out _) ?_)); intro x) | (go_at_call 106; (first | (with_reducible refine Gives.on (HA.out _) ?_) | (refine Gives.mono' (HA.out _) ?_)); intro x))
  all_goals (go_ret2; exact ⟨by rw [HH.out.1, HH.out.2]; first | rfl | (simp [go_sem]; omega), Later.ex (by repeat (first | exact ext_refl _ | refine ext_alloc ?_ _ | refine ext_later ?_ _ | refine ext_drew ?_ | refine ext_drewN ?_ _))⟩)
set_option maxHeartbeats 400000 in
theorem refute_any_3 (self inc n i h : Int) (p : (0 ≤ self ∧ self < 8)) (q : (0 ≤ inc ∧ inc ≤ 1000000)) (m : ((0 ≤ n ∧ n < 8) ∧ ((i = 0 ∧ h = 0) ∨ ((0 ≤ i ∧ i ≤ 1000000) ∧ 1 ≤ h ∧ h ≤ 4)))) (e : n ≠ self) (w : World) : Gives Tryz.prog 88 #[.int .i64 self, .int .i64 inc, .agg #[.int .i64 n, .int .i64 i, .int .i64 h]] w (.tuple #[.int .i64 (refN self inc n i h), .int .i64 (refE self inc n i h)]) := by
 unfold Gives
 all_goals have HH : Hid (refN self inc n i h = inc ∧ refE self inc n i h = 0) := Lib.hid (by unfold refN refE; constructor <;> rw [if_neg (fun z => z ⟨p, q, m⟩), if_pos (Or.inl e)])
 all_goals try (first | (have HN : Hid (∀ w, Gives Tryz.prog 62 #[.int .i64 self] w (.bool true)) := Lib.hid (fun w => (isNode_any self w).cast (by rw [show nodeB self = true from by simp only [nodeB, decide_eq_true_eq]; omega]))) | (have HN : Hid (∀ w, Gives Tryz.prog 62 #[.int .i64 self] w (.bool false)) := Lib.hid (fun w => (isNode_any self w).cast (by rw [show nodeB self = false from by simp only [nodeB, decide_eq_false_iff_not]; omega]))))
 all_goals try (first | (have HI : Hid (∀ w, Gives Tryz.prog 64 #[.int .i64 inc] w (.bool true)) := Lib.hid (fun w => (isInc_any inc w).cast (by rw [show incB inc = true from by simp only [incB, decide_eq_true_eq]; omega]))) | (have HI : Hid (∀ w, Gives Tryz.prog 64 #[.int .i64 inc] w (.bool false)) := Lib.hid (fun w => (isInc_any inc w).cast (by rw [show incB inc = false from by simp only [incB, decide_eq_false_iff_not]; omega]))))
 all_goals try (first | (have HM : Hid (∀ w, Gives Tryz.prog 36 #[.agg #[.int .i64 n, .int .i64 i, .int .i64 h]] w (.bool true)) := Lib.hid (fun w => (may_any n i h w).cast (by rw [show mayB n i h = true from by simp only [mayB, decide_eq_true_eq]; omega]))) | (have HM : Hid (∀ w, Gives Tryz.prog 36 #[.agg #[.int .i64 n, .int .i64 i, .int .i64 h]] w (.bool false)) := Lib.hid (fun w => (may_any n i h w).cast (by rw [show mayB n i h = false from by simp only [mayB, decide_eq_false_iff_not]; omega]))))
 all_goals try (first | (have e1 : ((n : Int) != self) = true := by first | exact beq_iff_eq.2 (by omega) | (rw [bne_iff_ne]; omega)) | (have e1 : ((n : Int) != self) = false := by first | exact beq_eq_false_iff_ne.2 (by omega) | exact bne_eq_false_iff_eq.2 (by omega)))
 all_goals try (first | (have HA : Hid (∀ w, Gives Tryz.prog 106 #[.agg #[.int .i64 n, .int .i64 i, .int .i64 h]] w (.bool true)) := Lib.hid (fun w => (accuses_any n i h w).cast (by rw [show accB h = true from by simp only [accB, decide_eq_true_eq]; omega]))) | (have HA : Hid (∀ w, Gives Tryz.prog 106 #[.agg #[.int .i64 n, .int .i64 i, .int .i64 h]] w (.bool false)) := Lib.hid (fun w => (accuses_any n i h w).cast (by rw [show accB h = false from by simp only [accB, decide_eq_false_iff_not]; omega]))))
 all_goals first | (have l1 : inc ≤ i := by omega) | (have l1 : i < inc := by omega) | skip
 all_goals first | (have l2 : 1000000 ≤ i := by omega) | (have l2 : i < 1000000 := by omega) | skip
 all_goals first | (have l5 : 0 ≤ i := by omega) | skip
 all_goals clear p q m e
 all_goals
  go_enter Tryz.func88, Tryz.ntmps88
  go_wp2_with (first | (go_at_call 62; (first | (with_reducible refine Gives.on (HN.out _) ?_) | (refine Gives.mono' (HN.out _) ?_)); intro x) | (go_at_call 64; (first | (with_reducible refine Gives.on (HI.out _) ?_) | (refine Gives.mono' (HI.out _) ?_)); intro x) | (go_at_call 36; (first | (with_reducible refine Gives.on (HM.out _) ?_) | (refine Gives.mono' (HM.out _) ?_)); intro x) | (go_at_call 106; (first | (with_reducible refine Gives.on (HA.out _) ?_) | (refine Gives.mono' (HA.out _) ?_)); intro x))
  all_goals (go_ret2; exact ⟨by rw [HH.out.1, HH.out.2]; first | rfl | (simp [go_sem]; omega), Later.ex (by repeat (first | exact ext_refl _ | refine ext_alloc ?_ _ | refine ext_later ?_ _ | refine ext_drew ?_ | refine ext_drewN ?_ _))⟩)
set_option maxHeartbeats 400000 in
theorem refute_any_4 (self inc n i h : Int) (p : (0 ≤ self ∧ self < 8)) (q : (0 ≤ inc ∧ inc ≤ 1000000)) (m : ((0 ≤ n ∧ n < 8) ∧ ((i = 0 ∧ h = 0) ∨ ((0 ≤ i ∧ i ≤ 1000000) ∧ 1 ≤ h ∧ h ≤ 4)))) (e : n = self) (a : ¬ (h = 2 ∨ h = 3)) (w : World) : Gives Tryz.prog 88 #[.int .i64 self, .int .i64 inc, .agg #[.int .i64 n, .int .i64 i, .int .i64 h]] w (.tuple #[.int .i64 (refN self inc n i h), .int .i64 (refE self inc n i h)]) := by
 unfold Gives
 all_goals have HH : Hid (refN self inc n i h = inc ∧ refE self inc n i h = 0) := Lib.hid (by unfold refN refE; constructor <;> rw [if_neg (fun z => z ⟨p, q, m⟩), if_pos (Or.inr (Or.inl a))])
 all_goals try (first | (have HN : Hid (∀ w, Gives Tryz.prog 62 #[.int .i64 self] w (.bool true)) := Lib.hid (fun w => (isNode_any self w).cast (by rw [show nodeB self = true from by simp only [nodeB, decide_eq_true_eq]; omega]))) | (have HN : Hid (∀ w, Gives Tryz.prog 62 #[.int .i64 self] w (.bool false)) := Lib.hid (fun w => (isNode_any self w).cast (by rw [show nodeB self = false from by simp only [nodeB, decide_eq_false_iff_not]; omega]))))
 all_goals try (first | (have HI : Hid (∀ w, Gives Tryz.prog 64 #[.int .i64 inc] w (.bool true)) := Lib.hid (fun w => (isInc_any inc w).cast (by rw [show incB inc = true from by simp only [incB, decide_eq_true_eq]; omega]))) | (have HI : Hid (∀ w, Gives Tryz.prog 64 #[.int .i64 inc] w (.bool false)) := Lib.hid (fun w => (isInc_any inc w).cast (by rw [show incB inc = false from by simp only [incB, decide_eq_false_iff_not]; omega]))))
 all_goals try (first | (have HM : Hid (∀ w, Gives Tryz.prog 36 #[.agg #[.int .i64 n, .int .i64 i, .int .i64 h]] w (.bool true)) := Lib.hid (fun w => (may_any n i h w).cast (by rw [show mayB n i h = true from by simp only [mayB, decide_eq_true_eq]; omega]))) | (have HM : Hid (∀ w, Gives Tryz.prog 36 #[.agg #[.int .i64 n, .int .i64 i, .int .i64 h]] w (.bool false)) := Lib.hid (fun w => (may_any n i h w).cast (by rw [show mayB n i h = false from by simp only [mayB, decide_eq_false_iff_not]; omega]))))
 all_goals try (first | (have e1 : ((n : Int) != self) = true := by first | exact beq_iff_eq.2 (by omega) | (rw [bne_iff_ne]; omega)) | (have e1 : ((n : Int) != self) = false := by first | exact beq_eq_false_iff_ne.2 (by omega) | exact bne_eq_false_iff_eq.2 (by omega)))
 all_goals try (first | (have HA : Hid (∀ w, Gives Tryz.prog 106 #[.agg #[.int .i64 n, .int .i64 i, .int .i64 h]] w (.bool true)) := Lib.hid (fun w => (accuses_any n i h w).cast (by rw [show accB h = true from by simp only [accB, decide_eq_true_eq]; omega]))) | (have HA : Hid (∀ w, Gives Tryz.prog 106 #[.agg #[.int .i64 n, .int .i64 i, .int .i64 h]] w (.bool false)) := Lib.hid (fun w => (accuses_any n i h w).cast (by rw [show accB h = false from by simp only [accB, decide_eq_false_iff_not]; omega]))))
 all_goals first | (have l1 : inc ≤ i := by omega) | (have l1 : i < inc := by omega) | skip
 all_goals first | (have l2 : 1000000 ≤ i := by omega) | (have l2 : i < 1000000 := by omega) | skip
 all_goals first | (have l5 : 0 ≤ i := by omega) | skip
 all_goals clear p q m e a
 all_goals
  go_enter Tryz.func88, Tryz.ntmps88
  go_wp2_with (first | (go_at_call 62; (first | (with_reducible refine Gives.on (HN.out _) ?_) | (refine Gives.mono' (HN.out _) ?_)); intro x) | (go_at_call 64; (first | (with_reducible refine Gives.on (HI.out _) ?_) | (refine Gives.mono' (HI.out _) ?_)); intro x) | (go_at_call 36; (first | (with_reducible refine Gives.on (HM.out _) ?_) | (refine Gives.mono' (HM.out _) ?_)); intro x) | (go_at_call 106; (first | (with_reducible refine Gives.on (HA.out _) ?_) | (refine Gives.mono' (HA.out _) ?_)); intro x))
  all_goals (go_ret2; exact ⟨by rw [HH.out.1, HH.out.2]; first | rfl | (simp [go_sem]; omega), Later.ex (by repeat (first | exact ext_refl _ | refine ext_alloc ?_ _ | refine ext_later ?_ _ | refine ext_drew ?_ | refine ext_drewN ?_ _))⟩)
set_option maxHeartbeats 400000 in
theorem refute_any_5 (self inc n i h : Int) (p : (0 ≤ self ∧ self < 8)) (q : (0 ≤ inc ∧ inc ≤ 1000000)) (m : ((0 ≤ n ∧ n < 8) ∧ ((i = 0 ∧ h = 0) ∨ ((0 ≤ i ∧ i ≤ 1000000) ∧ 1 ≤ h ∧ h ≤ 4)))) (e : n = self) (a : h = 2 ∨ h = 3) (b : i < inc) (w : World) : Gives Tryz.prog 88 #[.int .i64 self, .int .i64 inc, .agg #[.int .i64 n, .int .i64 i, .int .i64 h]] w (.tuple #[.int .i64 (refN self inc n i h), .int .i64 (refE self inc n i h)]) := by
 unfold Gives
 all_goals have HH : Hid (refN self inc n i h = inc ∧ refE self inc n i h = 0) := Lib.hid (by unfold refN refE; constructor <;> rw [if_neg (fun z => z ⟨p, q, m⟩), if_pos (Or.inr (Or.inr b))])
 all_goals try (first | (have HN : Hid (∀ w, Gives Tryz.prog 62 #[.int .i64 self] w (.bool true)) := Lib.hid (fun w => (isNode_any self w).cast (by rw [show nodeB self = true from by simp only [nodeB, decide_eq_true_eq]; omega]))) | (have HN : Hid (∀ w, Gives Tryz.prog 62 #[.int .i64 self] w (.bool false)) := Lib.hid (fun w => (isNode_any self w).cast (by rw [show nodeB self = false from by simp only [nodeB, decide_eq_false_iff_not]; omega]))))
 all_goals try (first | (have HI : Hid (∀ w, Gives Tryz.prog 64 #[.int .i64 inc] w (.bool true)) := Lib.hid (fun w => (isInc_any inc w).cast (by rw [show incB inc = true from by simp only [incB, decide_eq_true_eq]; omega]))) | (have HI : Hid (∀ w, Gives Tryz.prog 64 #[.int .i64 inc] w (.bool false)) := Lib.hid (fun w => (isInc_any inc w).cast (by rw [show incB inc = false from by simp only [incB, decide_eq_false_iff_not]; omega]))))
 all_goals try (first | (have HM : Hid (∀ w, Gives Tryz.prog 36 #[.agg #[.int .i64 n, .int .i64 i, .int .i64 h]] w (.bool true)) := Lib.hid (fun w => (may_any n i h w).cast (by rw [show mayB n i h = true from by simp only [mayB, decide_eq_true_eq]; omega]))) | (have HM : Hid (∀ w, Gives Tryz.prog 36 #[.agg #[.int .i64 n, .int .i64 i, .int .i64 h]] w (.bool false)) := Lib.hid (fun w => (may_any n i h w).cast (by rw [show mayB n i h = false from by simp only [mayB, decide_eq_false_iff_not]; omega]))))
 all_goals try (first | (have e1 : ((n : Int) != self) = true := by first | exact beq_iff_eq.2 (by omega) | (rw [bne_iff_ne]; omega)) | (have e1 : ((n : Int) != self) = false := by first | exact beq_eq_false_iff_ne.2 (by omega) | exact bne_eq_false_iff_eq.2 (by omega)))
 all_goals try (first | (have HA : Hid (∀ w, Gives Tryz.prog 106 #[.agg #[.int .i64 n, .int .i64 i, .int .i64 h]] w (.bool true)) := Lib.hid (fun w => (accuses_any n i h w).cast (by rw [show accB h = true from by simp only [accB, decide_eq_true_eq]; omega]))) | (have HA : Hid (∀ w, Gives Tryz.prog 106 #[.agg #[.int .i64 n, .int .i64 i, .int .i64 h]] w (.bool false)) := Lib.hid (fun w => (accuses_any n i h w).cast (by rw [show accB h = false from by simp only [accB, decide_eq_false_iff_not]; omega]))))
 all_goals first | (have l1 : inc ≤ i := by omega) | (have l1 : i < inc := by omega) | skip
 all_goals first | (have l2 : 1000000 ≤ i := by omega) | (have l2 : i < 1000000 := by omega) | skip
 all_goals first | (have l5 : 0 ≤ i := by omega) | skip
 all_goals clear p q m e a b
 all_goals
  go_enter Tryz.func88, Tryz.ntmps88
  go_wp2_with (first | (go_at_call 62; (first | (with_reducible refine Gives.on (HN.out _) ?_) | (refine Gives.mono' (HN.out _) ?_)); intro x) | (go_at_call 64; (first | (with_reducible refine Gives.on (HI.out _) ?_) | (refine Gives.mono' (HI.out _) ?_)); intro x) | (go_at_call 36; (first | (with_reducible refine Gives.on (HM.out _) ?_) | (refine Gives.mono' (HM.out _) ?_)); intro x) | (go_at_call 106; (first | (with_reducible refine Gives.on (HA.out _) ?_) | (refine Gives.mono' (HA.out _) ?_)); intro x))
  all_goals (go_ret2; exact ⟨by rw [HH.out.1, HH.out.2]; first | rfl | (simp [go_sem]; omega), Later.ex (by repeat (first | exact ext_refl _ | refine ext_alloc ?_ _ | refine ext_later ?_ _ | refine ext_drew ?_ | refine ext_drewN ?_ _))⟩)
set_option maxHeartbeats 400000 in
theorem refute_any_6 (self inc n i h : Int) (p : (0 ≤ self ∧ self < 8)) (q : (0 ≤ inc ∧ inc ≤ 1000000)) (m : ((0 ≤ n ∧ n < 8) ∧ ((i = 0 ∧ h = 0) ∨ ((0 ≤ i ∧ i ≤ 1000000) ∧ 1 ≤ h ∧ h ≤ 4)))) (e : n = self) (a : h = 2 ∨ h = 3) (b : ¬ i < inc) (c : 1000000 ≤ i) (w : World) : Gives Tryz.prog 88 #[.int .i64 self, .int .i64 inc, .agg #[.int .i64 n, .int .i64 i, .int .i64 h]] w (.tuple #[.int .i64 (refN self inc n i h), .int .i64 (refE self inc n i h)]) := by
 unfold Gives
 all_goals have HH : Hid (refN self inc n i h = inc ∧ refE self inc n i h = 6) := Lib.hid (by unfold refN refE; constructor <;> rw [if_neg (fun z => z ⟨p, q, m⟩), if_neg (by omega), if_pos c])
 all_goals try (first | (have HN : Hid (∀ w, Gives Tryz.prog 62 #[.int .i64 self] w (.bool true)) := Lib.hid (fun w => (isNode_any self w).cast (by rw [show nodeB self = true from by simp only [nodeB, decide_eq_true_eq]; omega]))) | (have HN : Hid (∀ w, Gives Tryz.prog 62 #[.int .i64 self] w (.bool false)) := Lib.hid (fun w => (isNode_any self w).cast (by rw [show nodeB self = false from by simp only [nodeB, decide_eq_false_iff_not]; omega]))))
 all_goals try (first | (have HI : Hid (∀ w, Gives Tryz.prog 64 #[.int .i64 inc] w (.bool true)) := Lib.hid (fun w => (isInc_any inc w).cast (by rw [show incB inc = true from by simp only [incB, decide_eq_true_eq]; omega]))) | (have HI : Hid (∀ w, Gives Tryz.prog 64 #[.int .i64 inc] w (.bool false)) := Lib.hid (fun w => (isInc_any inc w).cast (by rw [show incB inc = false from by simp only [incB, decide_eq_false_iff_not]; omega]))))
 all_goals try (first | (have HM : Hid (∀ w, Gives Tryz.prog 36 #[.agg #[.int .i64 n, .int .i64 i, .int .i64 h]] w (.bool true)) := Lib.hid (fun w => (may_any n i h w).cast (by rw [show mayB n i h = true from by simp only [mayB, decide_eq_true_eq]; omega]))) | (have HM : Hid (∀ w, Gives Tryz.prog 36 #[.agg #[.int .i64 n, .int .i64 i, .int .i64 h]] w (.bool false)) := Lib.hid (fun w => (may_any n i h w).cast (by rw [show mayB n i h = false from by simp only [mayB, decide_eq_false_iff_not]; omega]))))
 all_goals try (first | (have e1 : ((n : Int) != self) = true := by first | exact beq_iff_eq.2 (by omega) | (rw [bne_iff_ne]; omega)) | (have e1 : ((n : Int) != self) = false := by first | exact beq_eq_false_iff_ne.2 (by omega) | exact bne_eq_false_iff_eq.2 (by omega)))
 all_goals try (first | (have HA : Hid (∀ w, Gives Tryz.prog 106 #[.agg #[.int .i64 n, .int .i64 i, .int .i64 h]] w (.bool true)) := Lib.hid (fun w => (accuses_any n i h w).cast (by rw [show accB h = true from by simp only [accB, decide_eq_true_eq]; omega]))) | (have HA : Hid (∀ w, Gives Tryz.prog 106 #[.agg #[.int .i64 n, .int .i64 i, .int .i64 h]] w (.bool false)) := Lib.hid (fun w => (accuses_any n i h w).cast (by rw [show accB h = false from by simp only [accB, decide_eq_false_iff_not]; omega]))))
 all_goals first | (have l1 : inc ≤ i := by omega) | (have l1 : i < inc := by omega) | skip
 all_goals first | (have l2 : 1000000 ≤ i := by omega) | (have l2 : i < 1000000 := by omega) | skip
 all_goals first | (have l5 : 0 ≤ i := by omega) | skip
 all_goals clear p q m e a b c
 all_goals
  go_enter Tryz.func88, Tryz.ntmps88
  go_wp2_with (first | (go_at_call 62; (first | (with_reducible refine Gives.on (HN.out _) ?_) | (refine Gives.mono' (HN.out _) ?_)); intro x) | (go_at_call 64; (first | (with_reducible refine Gives.on (HI.out _) ?_) | (refine Gives.mono' (HI.out _) ?_)); intro x) | (go_at_call 36; (first | (with_reducible refine Gives.on (HM.out _) ?_) | (refine Gives.mono' (HM.out _) ?_)); intro x) | (go_at_call 106; (first | (with_reducible refine Gives.on (HA.out _) ?_) | (refine Gives.mono' (HA.out _) ?_)); intro x))
  all_goals (go_ret2; exact ⟨by rw [HH.out.1, HH.out.2]; first | rfl | (simp [go_sem]; omega), Later.ex (by repeat (first | exact ext_refl _ | refine ext_alloc ?_ _ | refine ext_later ?_ _ | refine ext_drew ?_ | refine ext_drewN ?_ _))⟩)
set_option maxHeartbeats 400000 in
theorem refute_any_7 (self inc n i h : Int) (p : (0 ≤ self ∧ self < 8)) (q : (0 ≤ inc ∧ inc ≤ 1000000)) (m : ((0 ≤ n ∧ n < 8) ∧ ((i = 0 ∧ h = 0) ∨ ((0 ≤ i ∧ i ≤ 1000000) ∧ 1 ≤ h ∧ h ≤ 4)))) (e : n = self) (a : h = 2 ∨ h = 3) (b : ¬ i < inc) (c : ¬ 1000000 ≤ i) (w : World) : Gives Tryz.prog 88 #[.int .i64 self, .int .i64 inc, .agg #[.int .i64 n, .int .i64 i, .int .i64 h]] w (.tuple #[.int .i64 (refN self inc n i h), .int .i64 (refE self inc n i h)]) := by
 unfold Gives
 all_goals have HH : Hid (refN self inc n i h = i + 1 ∧ refE self inc n i h = 0) := Lib.hid (by unfold refN refE; constructor <;> rw [if_neg (fun z => z ⟨p, q, m⟩), if_neg (by omega), if_neg c])
 all_goals try (first | (have HN : Hid (∀ w, Gives Tryz.prog 62 #[.int .i64 self] w (.bool true)) := Lib.hid (fun w => (isNode_any self w).cast (by rw [show nodeB self = true from by simp only [nodeB, decide_eq_true_eq]; omega]))) | (have HN : Hid (∀ w, Gives Tryz.prog 62 #[.int .i64 self] w (.bool false)) := Lib.hid (fun w => (isNode_any self w).cast (by rw [show nodeB self = false from by simp only [nodeB, decide_eq_false_iff_not]; omega]))))
 all_goals try (first | (have HI : Hid (∀ w, Gives Tryz.prog 64 #[.int .i64 inc] w (.bool true)) := Lib.hid (fun w => (isInc_any inc w).cast (by rw [show incB inc = true from by simp only [incB, decide_eq_true_eq]; omega]))) | (have HI : Hid (∀ w, Gives Tryz.prog 64 #[.int .i64 inc] w (.bool false)) := Lib.hid (fun w => (isInc_any inc w).cast (by rw [show incB inc = false from by simp only [incB, decide_eq_false_iff_not]; omega]))))
 all_goals try (first | (have HM : Hid (∀ w, Gives Tryz.prog 36 #[.agg #[.int .i64 n, .int .i64 i, .int .i64 h]] w (.bool true)) := Lib.hid (fun w => (may_any n i h w).cast (by rw [show mayB n i h = true from by simp only [mayB, decide_eq_true_eq]; omega]))) | (have HM : Hid (∀ w, Gives Tryz.prog 36 #[.agg #[.int .i64 n, .int .i64 i, .int .i64 h]] w (.bool false)) := Lib.hid (fun w => (may_any n i h w).cast (by rw [show mayB n i h = false from by simp only [mayB, decide_eq_false_iff_not]; omega]))))
 all_goals try (first | (have e1 : ((n : Int) != self) = true := by first | exact beq_iff_eq.2 (by omega) | (rw [bne_iff_ne]; omega)) | (have e1 : ((n : Int) != self) = false := by first | exact beq_eq_false_iff_ne.2 (by omega) | exact bne_eq_false_iff_eq.2 (by omega)))
 all_goals try (first | (have HA : Hid (∀ w, Gives Tryz.prog 106 #[.agg #[.int .i64 n, .int .i64 i, .int .i64 h]] w (.bool true)) := Lib.hid (fun w => (accuses_any n i h w).cast (by rw [show accB h = true from by simp only [accB, decide_eq_true_eq]; omega]))) | (have HA : Hid (∀ w, Gives Tryz.prog 106 #[.agg #[.int .i64 n, .int .i64 i, .int .i64 h]] w (.bool false)) := Lib.hid (fun w => (accuses_any n i h w).cast (by rw [show accB h = false from by simp only [accB, decide_eq_false_iff_not]; omega]))))
 all_goals first | (have l1 : inc ≤ i := by omega) | (have l1 : i < inc := by omega) | skip
 all_goals first | (have l2 : 1000000 ≤ i := by omega) | (have l2 : i < 1000000 := by omega) | skip
 all_goals first | (have l5 : 0 ≤ i := by omega) | skip
 all_goals clear p q m e a b c
 all_goals
  go_enter Tryz.func88, Tryz.ntmps88
  go_wp2_with (first | (go_at_call 62; (first | (with_reducible refine Gives.on (HN.out _) ?_) | (refine Gives.mono' (HN.out _) ?_)); intro x) | (go_at_call 64; (first | (with_reducible refine Gives.on (HI.out _) ?_) | (refine Gives.mono' (HI.out _) ?_)); intro x) | (go_at_call 36; (first | (with_reducible refine Gives.on (HM.out _) ?_) | (refine Gives.mono' (HM.out _) ?_)); intro x) | (go_at_call 106; (first | (with_reducible refine Gives.on (HA.out _) ?_) | (refine Gives.mono' (HA.out _) ?_)); intro x))
  all_goals (go_ret2; exact ⟨by rw [HH.out.1, HH.out.2]; first | rfl | (simp [go_sem]; omega), Later.ex (by repeat (first | exact ext_refl _ | refine ext_alloc ?_ _ | refine ext_later ?_ _ | refine ext_drew ?_ | refine ext_drewN ?_ _))⟩)
theorem refute_any (self inc n i h : Int) (w : World) : Gives Tryz.prog 88 #[.int .i64 self, .int .i64 inc, .agg #[.int .i64 n, .int .i64 i, .int .i64 h]] w (.tuple #[.int .i64 (refN self inc n i h), .int .i64 (refE self inc n i h)]) := by
 by_cases p : (0 ≤ self ∧ self < 8)
 ·by_cases q : (0 ≤ inc ∧ inc ≤ 1000000)
  ·by_cases m : ((0 ≤ n ∧ n < 8) ∧ ((i = 0 ∧ h = 0) ∨ ((0 ≤ i ∧ i ≤ 1000000) ∧ 1 ≤ h ∧ h ≤ 4)))
   ·by_cases e : n = self
    ·by_cases a : h = 2 ∨ h = 3
     ·by_cases b : i < inc
      ·exact refute_any_5 self inc n i h p q m e a b w
      ·by_cases c : 1000000 ≤ i
       ·exact refute_any_6 self inc n i h p q m e a b c w
       ·exact refute_any_7 self inc n i h p q m e a b c w
     ·exact refute_any_4 self inc n i h p q m e a w
    ·exact refute_any_3 self inc n i h p q m e w
   ·exact refute_any_2 self inc n i h p q m w
  ·exact refute_any_1 self inc n i h p q w
 ·exact refute_any_0 self inc n i h p w
set_option maxHeartbeats 400000 in
theorem refRefute_any_0 (self inc n i h : Int) (p : ¬ (0 ≤ self ∧ self < 8)) (w : World) : Gives Tryz.prog 68 #[.int .i64 self, .int .i64 inc, .agg #[.int .i64 n, .int .i64 i, .int .i64 h]] w (.tuple #[.int .i64 (refN self inc n i h), .int .i64 (refE self inc n i h)]) := by
 unfold Gives
 all_goals have HH : Hid (refN self inc n i h = 0 ∧ refE self inc n i h = 1) := Lib.hid (by unfold refN refE; constructor <;> rw [if_pos (fun z => p z.1)])
 all_goals try (first | (have HN : Hid (∀ w, Gives Tryz.prog 32 #[.int .i64 self] w (.bool true)) := Lib.hid (fun w => (refNode_any self w).cast (by rw [show nodeB self = true from by simp only [nodeB, decide_eq_true_eq]; omega]))) | (have HN : Hid (∀ w, Gives Tryz.prog 32 #[.int .i64 self] w (.bool false)) := Lib.hid (fun w => (refNode_any self w).cast (by rw [show nodeB self = false from by simp only [nodeB, decide_eq_false_iff_not]; omega]))))
 all_goals first | (have l3 : 0 ≤ inc := by omega) | (have l3 : inc < 0 := by omega) | skip
 all_goals first | (have l4 : inc ≤ 1000000 := by omega) | (have l4 : 1000000 < inc := by omega) | skip
 all_goals try (first | (have HM : Hid (∀ w, Gives Tryz.prog 38 #[.agg #[.int .i64 n, .int .i64 i, .int .i64 h]] w (.bool true)) := Lib.hid (fun w => (refMay_any n i h w).cast (by rw [show mayB n i h = true from by simp only [mayB, decide_eq_true_eq]; omega]))) | (have HM : Hid (∀ w, Gives Tryz.prog 38 #[.agg #[.int .i64 n, .int .i64 i, .int .i64 h]] w (.bool false)) := Lib.hid (fun w => (refMay_any n i h w).cast (by rw [show mayB n i h = false from by simp only [mayB, decide_eq_false_iff_not]; omega]))))
 all_goals try (first | (have e1 : ((n : Int) != self) = true := by first | exact beq_iff_eq.2 (by omega) | (rw [bne_iff_ne]; omega)) | (have e1 : ((n : Int) != self) = false := by first | exact beq_eq_false_iff_ne.2 (by omega) | exact bne_eq_false_iff_eq.2 (by omega)))
 all_goals try (first | (have e2 : ((h : Int) != 2) = true := by first | exact beq_iff_eq.2 (by omega) | (rw [bne_iff_ne]; omega)) | (have e2 : ((h : Int) != 2) = false := by first | exact beq_eq_false_iff_ne.2 (by omega) | exact bne_eq_false_iff_eq.2 (by omega)))
 all_goals try (first | (have e3 : ((h : Int) != 3) = true := by first | exact beq_iff_eq.2 (by omega) | (rw [bne_iff_ne]; omega)) | (have e3 : ((h : Int) != 3) = false := by first | exact beq_eq_false_iff_ne.2 (by omega) | exact bne_eq_false_iff_eq.2 (by omega)))
 all_goals try (first | (have e4 : ((i : Int) == 1000000) = true := by first | exact beq_iff_eq.2 (by omega) | (rw [bne_iff_ne]; omega)) | (have e4 : ((i : Int) == 1000000) = false := by first | exact beq_eq_false_iff_ne.2 (by omega) | exact bne_eq_false_iff_eq.2 (by omega)))
 all_goals first | (have l1 : inc ≤ i := by omega) | (have l1 : i < inc := by omega) | skip
 all_goals first | (have l2 : 1000000 ≤ i := by omega) | (have l2 : i < 1000000 := by omega) | skip
 all_goals first | (have l5 : 0 ≤ i := by omega) | skip
 all_goals clear p
 all_goals
  go_enter Tryz.func68, Tryz.ntmps68
  go_wp2_with (first | (go_at_call 32; (first | (with_reducible refine Gives.on (HN.out _) ?_) | (refine Gives.mono' (HN.out _) ?_)); intro x) | (go_at_call 38; (first | (with_reducible refine Gives.on (HM.out _) ?_) | (refine Gives.mono' (HM.out _) ?_)); intro x))
  all_goals (go_ret2; exact ⟨by rw [HH.out.1, HH.out.2]; first | rfl | (simp [go_sem]; omega), Later.ex (by repeat (first | exact ext_refl _ | refine ext_alloc ?_ _ | refine ext_later ?_ _ | refine ext_drew ?_ | refine ext_drewN ?_ _))⟩)
set_option maxHeartbeats 400000 in
theorem refRefute_any_1 (self inc n i h : Int) (p : (0 ≤ self ∧ self < 8)) (q : ¬ (0 ≤ inc ∧ inc ≤ 1000000)) (w : World) : Gives Tryz.prog 68 #[.int .i64 self, .int .i64 inc, .agg #[.int .i64 n, .int .i64 i, .int .i64 h]] w (.tuple #[.int .i64 (refN self inc n i h), .int .i64 (refE self inc n i h)]) := by
 unfold Gives
 all_goals have HH : Hid (refN self inc n i h = 0 ∧ refE self inc n i h = 1) := Lib.hid (by unfold refN refE; constructor <;> rw [if_pos (fun z => q z.2.1)])
 all_goals rcases (show inc < 0 ∨ (0 ≤ inc ∧ 1000000 < inc) from by omega) with q | q
 all_goals try (first | (have HN : Hid (∀ w, Gives Tryz.prog 32 #[.int .i64 self] w (.bool true)) := Lib.hid (fun w => (refNode_any self w).cast (by rw [show nodeB self = true from by simp only [nodeB, decide_eq_true_eq]; omega]))) | (have HN : Hid (∀ w, Gives Tryz.prog 32 #[.int .i64 self] w (.bool false)) := Lib.hid (fun w => (refNode_any self w).cast (by rw [show nodeB self = false from by simp only [nodeB, decide_eq_false_iff_not]; omega]))))
 all_goals first | (have l3 : 0 ≤ inc := by omega) | (have l3 : inc < 0 := by omega) | skip
 all_goals first | (have l4 : inc ≤ 1000000 := by omega) | (have l4 : 1000000 < inc := by omega) | skip
 all_goals try (first | (have HM : Hid (∀ w, Gives Tryz.prog 38 #[.agg #[.int .i64 n, .int .i64 i, .int .i64 h]] w (.bool true)) := Lib.hid (fun w => (refMay_any n i h w).cast (by rw [show mayB n i h = true from by simp only [mayB, decide_eq_true_eq]; omega]))) | (have HM : Hid (∀ w, Gives Tryz.prog 38 #[.agg #[.int .i64 n, .int .i64 i, .int .i64 h]] w (.bool false)) := Lib.hid (fun w => (refMay_any n i h w).cast (by rw [show mayB n i h = false from by simp only [mayB, decide_eq_false_iff_not]; omega]))))
 all_goals try (first | (have e1 : ((n : Int) != self) = true := by first | exact beq_iff_eq.2 (by omega) | (rw [bne_iff_ne]; omega)) | (have e1 : ((n : Int) != self) = false := by first | exact beq_eq_false_iff_ne.2 (by omega) | exact bne_eq_false_iff_eq.2 (by omega)))
 all_goals try (first | (have e2 : ((h : Int) != 2) = true := by first | exact beq_iff_eq.2 (by omega) | (rw [bne_iff_ne]; omega)) | (have e2 : ((h : Int) != 2) = false := by first | exact beq_eq_false_iff_ne.2 (by omega) | exact bne_eq_false_iff_eq.2 (by omega)))
 all_goals try (first | (have e3 : ((h : Int) != 3) = true := by first | exact beq_iff_eq.2 (by omega) | (rw [bne_iff_ne]; omega)) | (have e3 : ((h : Int) != 3) = false := by first | exact beq_eq_false_iff_ne.2 (by omega) | exact bne_eq_false_iff_eq.2 (by omega)))
 all_goals try (first | (have e4 : ((i : Int) == 1000000) = true := by first | exact beq_iff_eq.2 (by omega) | (rw [bne_iff_ne]; omega)) | (have e4 : ((i : Int) == 1000000) = false := by first | exact beq_eq_false_iff_ne.2 (by omega) | exact bne_eq_false_iff_eq.2 (by omega)))
 all_goals first | (have l1 : inc ≤ i := by omega) | (have l1 : i < inc := by omega) | skip
 all_goals first | (have l2 : 1000000 ≤ i := by omega) | (have l2 : i < 1000000 := by omega) | skip
 all_goals first | (have l5 : 0 ≤ i := by omega) | skip
 all_goals clear p q
 all_goals
  go_enter Tryz.func68, Tryz.ntmps68
  go_wp2_with (first | (go_at_call 32; (first | (with_reducible refine Gives.on (HN.out _) ?_) | (refine Gives.mono' (HN.out _) ?_)); intro x) | (go_at_call 38; (first | (with_reducible refine Gives.on (HM.out _) ?_) | (refine Gives.mono' (HM.out _) ?_)); intro x))
  all_goals (go_ret2; exact ⟨by rw [HH.out.1, HH.out.2]; first | rfl | (simp [go_sem]; omega), Later.ex (by repeat (first | exact ext_refl _ | refine ext_alloc ?_ _ | refine ext_later ?_ _ | refine ext_drew ?_ | refine ext_drewN ?_ _))⟩)
set_option maxHeartbeats 400000 in
theorem refRefute_any_2 (self inc n i h : Int) (p : (0 ≤ self ∧ self < 8)) (q : (0 ≤ inc ∧ inc ≤ 1000000)) (m : ¬ ((0 ≤ n ∧ n < 8) ∧ ((i = 0 ∧ h = 0) ∨ ((0 ≤ i ∧ i ≤ 1000000) ∧ 1 ≤ h ∧ h ≤ 4)))) (w : World) : Gives Tryz.prog 68 #[.int .i64 self, .int .i64 inc, .agg #[.int .i64 n, .int .i64 i, .int .i64 h]] w (.tuple #[.int .i64 (refN self inc n i h), .int .i64 (refE self inc n i h)]) := by
 unfold Gives
 all_goals have HH : Hid (refN self inc n i h = 0 ∧ refE self inc n i h = 1) := Lib.hid (by unfold refN refE; constructor <;> rw [if_pos (fun z => m z.2.2)])
 all_goals try (first | (have HN : Hid (∀ w, Gives Tryz.prog 32 #[.int .i64 self] w (.bool true)) := Lib.hid (fun w => (refNode_any self w).cast (by rw [show nodeB self = true from by simp only [nodeB, decide_eq_true_eq]; omega]))) | (have HN : Hid (∀ w, Gives Tryz.prog 32 #[.int .i64 self] w (.bool false)) := Lib.hid (fun w => (refNode_any self w).cast (by rw [show nodeB self = false from by simp only [nodeB, decide_eq_false_iff_not]; omega]))))
 all_goals first | (have l3 : 0 ≤ inc := by omega) | (have l3 : inc < 0 := by omega) | skip
 all_goals first | (have l4 : inc ≤ 1000000 := by omega) | (have l4 : 1000000 < inc := by omega) | skip
 all_goals try (first | (have HM : Hid (∀ w, Gives Tryz.prog 38 #[.agg #[.int .i64 n, .int .i64 i, .int .i64 h]] w (.bool true)) := Lib.hid (fun w => (refMay_any n i h w).cast (by rw [show mayB n i h = true from by simp only [mayB, decide_eq_true_eq]; omega]))) | (have HM : Hid (∀ w, Gives Tryz.prog 38 #[.agg #[.int .i64 n, .int .i64 i, .int .i64 h]] w (.bool false)) := Lib.hid (fun w => (refMay_any n i h w).cast (by rw [show mayB n i h = false from by simp only [mayB, decide_eq_false_iff_not]; omega]))))
 all_goals try (first | (have e1 : ((n : Int) != self) = true := by first | exact beq_iff_eq.2 (by omega) | (rw [bne_iff_ne]; omega)) | (have e1 : ((n : Int) != self) = false := by first | exact beq_eq_false_iff_ne.2 (by omega) | exact bne_eq_false_iff_eq.2 (by omega)))
 all_goals try (first | (have e2 : ((h : Int) != 2) = true := by first | exact beq_iff_eq.2 (by omega) | (rw [bne_iff_ne]; omega)) | (have e2 : ((h : Int) != 2) = false := by first | exact beq_eq_false_iff_ne.2 (by omega) | exact bne_eq_false_iff_eq.2 (by omega)))
 all_goals try (first | (have e3 : ((h : Int) != 3) = true := by first | exact beq_iff_eq.2 (by omega) | (rw [bne_iff_ne]; omega)) | (have e3 : ((h : Int) != 3) = false := by first | exact beq_eq_false_iff_ne.2 (by omega) | exact bne_eq_false_iff_eq.2 (by omega)))
 all_goals try (first | (have e4 : ((i : Int) == 1000000) = true := by first | exact beq_iff_eq.2 (by omega) | (rw [bne_iff_ne]; omega)) | (have e4 : ((i : Int) == 1000000) = false := by first | exact beq_eq_false_iff_ne.2 (by omega) | exact bne_eq_false_iff_eq.2 (by omega)))
 all_goals first | (have l1 : inc ≤ i := by omega) | (have l1 : i < inc := by omega) | skip
 all_goals first | (have l2 : 1000000 ≤ i := by omega) | (have l2 : i < 1000000 := by omega) | skip
 all_goals first | (have l5 : 0 ≤ i := by omega) | skip
 all_goals clear p q m
 all_goals
  go_enter Tryz.func68, Tryz.ntmps68
  go_wp2_with (first | (go_at_call 32; (first | (with_reducible refine Gives.on (HN.out _) ?_) | (refine Gives.mono' (HN.out _) ?_)); intro x) | (go_at_call 38; (first | (with_reducible refine Gives.on (HM.out _) ?_) | (refine Gives.mono' (HM.out _) ?_)); intro x))
  all_goals (go_ret2; exact ⟨by rw [HH.out.1, HH.out.2]; first | rfl | (simp [go_sem]; omega), Later.ex (by repeat (first | exact ext_refl _ | refine ext_alloc ?_ _ | refine ext_later ?_ _ | refine ext_drew ?_ | refine ext_drewN ?_ _))⟩)
set_option maxHeartbeats 400000 in
theorem refRefute_any_3 (self inc n i h : Int) (p : (0 ≤ self ∧ self < 8)) (q : (0 ≤ inc ∧ inc ≤ 1000000)) (m : ((0 ≤ n ∧ n < 8) ∧ ((i = 0 ∧ h = 0) ∨ ((0 ≤ i ∧ i ≤ 1000000) ∧ 1 ≤ h ∧ h ≤ 4)))) (e : n ≠ self) (w : World) : Gives Tryz.prog 68 #[.int .i64 self, .int .i64 inc, .agg #[.int .i64 n, .int .i64 i, .int .i64 h]] w (.tuple #[.int .i64 (refN self inc n i h), .int .i64 (refE self inc n i h)]) := by
 unfold Gives
 all_goals have HH : Hid (refN self inc n i h = inc ∧ refE self inc n i h = 0) := Lib.hid (by unfold refN refE; constructor <;> rw [if_neg (fun z => z ⟨p, q, m⟩), if_pos (Or.inl e)])
 all_goals try (first | (have HN : Hid (∀ w, Gives Tryz.prog 32 #[.int .i64 self] w (.bool true)) := Lib.hid (fun w => (refNode_any self w).cast (by rw [show nodeB self = true from by simp only [nodeB, decide_eq_true_eq]; omega]))) | (have HN : Hid (∀ w, Gives Tryz.prog 32 #[.int .i64 self] w (.bool false)) := Lib.hid (fun w => (refNode_any self w).cast (by rw [show nodeB self = false from by simp only [nodeB, decide_eq_false_iff_not]; omega]))))
 all_goals first | (have l3 : 0 ≤ inc := by omega) | (have l3 : inc < 0 := by omega) | skip
 all_goals first | (have l4 : inc ≤ 1000000 := by omega) | (have l4 : 1000000 < inc := by omega) | skip
 all_goals try (first | (have HM : Hid (∀ w, Gives Tryz.prog 38 #[.agg #[.int .i64 n, .int .i64 i, .int .i64 h]] w (.bool true)) := Lib.hid (fun w => (refMay_any n i h w).cast (by rw [show mayB n i h = true from by simp only [mayB, decide_eq_true_eq]; omega]))) | (have HM : Hid (∀ w, Gives Tryz.prog 38 #[.agg #[.int .i64 n, .int .i64 i, .int .i64 h]] w (.bool false)) := Lib.hid (fun w => (refMay_any n i h w).cast (by rw [show mayB n i h = false from by simp only [mayB, decide_eq_false_iff_not]; omega]))))
 all_goals try (first | (have e1 : ((n : Int) != self) = true := by first | exact beq_iff_eq.2 (by omega) | (rw [bne_iff_ne]; omega)) | (have e1 : ((n : Int) != self) = false := by first | exact beq_eq_false_iff_ne.2 (by omega) | exact bne_eq_false_iff_eq.2 (by omega)))
 all_goals try (first | (have e2 : ((h : Int) != 2) = true := by first | exact beq_iff_eq.2 (by omega) | (rw [bne_iff_ne]; omega)) | (have e2 : ((h : Int) != 2) = false := by first | exact beq_eq_false_iff_ne.2 (by omega) | exact bne_eq_false_iff_eq.2 (by omega)))
 all_goals try (first | (have e3 : ((h : Int) != 3) = true := by first | exact beq_iff_eq.2 (by omega) | (rw [bne_iff_ne]; omega)) | (have e3 : ((h : Int) != 3) = false := by first | exact beq_eq_false_iff_ne.2 (by omega) | exact bne_eq_false_iff_eq.2 (by omega)))
 all_goals try (first | (have e4 : ((i : Int) == 1000000) = true := by first | exact beq_iff_eq.2 (by omega) | (rw [bne_iff_ne]; omega)) | (have e4 : ((i : Int) == 1000000) = false := by first | exact beq_eq_false_iff_ne.2 (by omega) | exact bne_eq_false_iff_eq.2 (by omega)))
 all_goals first | (have l1 : inc ≤ i := by omega) | (have l1 : i < inc := by omega) | skip
 all_goals first | (have l2 : 1000000 ≤ i := by omega) | (have l2 : i < 1000000 := by omega) | skip
 all_goals first | (have l5 : 0 ≤ i := by omega) | skip
 all_goals clear p q m e
 all_goals
  go_enter Tryz.func68, Tryz.ntmps68
  go_wp2_with (first | (go_at_call 32; (first | (with_reducible refine Gives.on (HN.out _) ?_) | (refine Gives.mono' (HN.out _) ?_)); intro x) | (go_at_call 38; (first | (with_reducible refine Gives.on (HM.out _) ?_) | (refine Gives.mono' (HM.out _) ?_)); intro x))
  all_goals (go_ret2; exact ⟨by rw [HH.out.1, HH.out.2]; first | rfl | (simp [go_sem]; omega), Later.ex (by repeat (first | exact ext_refl _ | refine ext_alloc ?_ _ | refine ext_later ?_ _ | refine ext_drew ?_ | refine ext_drewN ?_ _))⟩)
set_option maxHeartbeats 400000 in
theorem refRefute_any_4 (self inc n i h : Int) (p : (0 ≤ self ∧ self < 8)) (q : (0 ≤ inc ∧ inc ≤ 1000000)) (m : ((0 ≤ n ∧ n < 8) ∧ ((i = 0 ∧ h = 0) ∨ ((0 ≤ i ∧ i ≤ 1000000) ∧ 1 ≤ h ∧ h ≤ 4)))) (e : n = self) (a : ¬ (h = 2 ∨ h = 3)) (w : World) : Gives Tryz.prog 68 #[.int .i64 self, .int .i64 inc, .agg #[.int .i64 n, .int .i64 i, .int .i64 h]] w (.tuple #[.int .i64 (refN self inc n i h), .int .i64 (refE self inc n i h)]) := by
 unfold Gives
 all_goals have HH : Hid (refN self inc n i h = inc ∧ refE self inc n i h = 0) := Lib.hid (by unfold refN refE; constructor <;> rw [if_neg (fun z => z ⟨p, q, m⟩), if_pos (Or.inr (Or.inl a))])
 all_goals try (first | (have HN : Hid (∀ w, Gives Tryz.prog 32 #[.int .i64 self] w (.bool true)) := Lib.hid (fun w => (refNode_any self w).cast (by rw [show nodeB self = true from by simp only [nodeB, decide_eq_true_eq]; omega]))) | (have HN : Hid (∀ w, Gives Tryz.prog 32 #[.int .i64 self] w (.bool false)) := Lib.hid (fun w => (refNode_any self w).cast (by rw [show nodeB self = false from by simp only [nodeB, decide_eq_false_iff_not]; omega]))))
 all_goals first | (have l3 : 0 ≤ inc := by omega) | (have l3 : inc < 0 := by omega) | skip
 all_goals first | (have l4 : inc ≤ 1000000 := by omega) | (have l4 : 1000000 < inc := by omega) | skip
 all_goals try (first | (have HM : Hid (∀ w, Gives Tryz.prog 38 #[.agg #[.int .i64 n, .int .i64 i, .int .i64 h]] w (.bool true)) := Lib.hid (fun w => (refMay_any n i h w).cast (by rw [show mayB n i h = true from by simp only [mayB, decide_eq_true_eq]; omega]))) | (have HM : Hid (∀ w, Gives Tryz.prog 38 #[.agg #[.int .i64 n, .int .i64 i, .int .i64 h]] w (.bool false)) := Lib.hid (fun w => (refMay_any n i h w).cast (by rw [show mayB n i h = false from by simp only [mayB, decide_eq_false_iff_not]; omega]))))
 all_goals try (first | (have e1 : ((n : Int) != self) = true := by first | exact beq_iff_eq.2 (by omega) | (rw [bne_iff_ne]; omega)) | (have e1 : ((n : Int) != self) = false := by first | exact beq_eq_false_iff_ne.2 (by omega) | exact bne_eq_false_iff_eq.2 (by omega)))
 all_goals try (first | (have e2 : ((h : Int) != 2) = true := by first | exact beq_iff_eq.2 (by omega) | (rw [bne_iff_ne]; omega)) | (have e2 : ((h : Int) != 2) = false := by first | exact beq_eq_false_iff_ne.2 (by omega) | exact bne_eq_false_iff_eq.2 (by omega)))
 all_goals try (first | (have e3 : ((h : Int) != 3) = true := by first | exact beq_iff_eq.2 (by omega) | (rw [bne_iff_ne]; omega)) | (have e3 : ((h : Int) != 3) = false := by first | exact beq_eq_false_iff_ne.2 (by omega) | exact bne_eq_false_iff_eq.2 (by omega)))
 all_goals try (first | (have e4 : ((i : Int) == 1000000) = true := by first | exact beq_iff_eq.2 (by omega) | (rw [bne_iff_ne]; omega)) | (have e4 : ((i : Int) == 1000000) = false := by first | exact beq_eq_false_iff_ne.2 (by omega) | exact bne_eq_false_iff_eq.2 (by omega)))
 all_goals first | (have l1 : inc ≤ i := by omega) | (have l1 : i < inc := by omega) | skip
 all_goals first | (have l2 : 1000000 ≤ i := by omega) | (have l2 : i < 1000000 := by omega) | skip
 all_goals first | (have l5 : 0 ≤ i := by omega) | skip
 all_goals clear p q m e a
 all_goals
  go_enter Tryz.func68, Tryz.ntmps68
  go_wp2_with (first | (go_at_call 32; (first | (with_reducible refine Gives.on (HN.out _) ?_) | (refine Gives.mono' (HN.out _) ?_)); intro x) | (go_at_call 38; (first | (with_reducible refine Gives.on (HM.out _) ?_) | (refine Gives.mono' (HM.out _) ?_)); intro x))
  all_goals (go_ret2; exact ⟨by rw [HH.out.1, HH.out.2]; first | rfl | (simp [go_sem]; omega), Later.ex (by repeat (first | exact ext_refl _ | refine ext_alloc ?_ _ | refine ext_later ?_ _ | refine ext_drew ?_ | refine ext_drewN ?_ _))⟩)
set_option maxHeartbeats 400000 in
theorem refRefute_any_5 (self inc n i h : Int) (p : (0 ≤ self ∧ self < 8)) (q : (0 ≤ inc ∧ inc ≤ 1000000)) (m : ((0 ≤ n ∧ n < 8) ∧ ((i = 0 ∧ h = 0) ∨ ((0 ≤ i ∧ i ≤ 1000000) ∧ 1 ≤ h ∧ h ≤ 4)))) (e : n = self) (a : h = 2 ∨ h = 3) (b : i < inc) (w : World) : Gives Tryz.prog 68 #[.int .i64 self, .int .i64 inc, .agg #[.int .i64 n, .int .i64 i, .int .i64 h]] w (.tuple #[.int .i64 (refN self inc n i h), .int .i64 (refE self inc n i h)]) := by
 unfold Gives
 all_goals rcases a with a | a
 all_goals have HH : Hid (refN self inc n i h = inc ∧ refE self inc n i h = 0) := Lib.hid (by unfold refN refE; constructor <;> rw [if_neg (fun z => z ⟨p, q, m⟩), if_pos (Or.inr (Or.inr b))])
 all_goals try (first | (have HN : Hid (∀ w, Gives Tryz.prog 32 #[.int .i64 self] w (.bool true)) := Lib.hid (fun w => (refNode_any self w).cast (by rw [show nodeB self = true from by simp only [nodeB, decide_eq_true_eq]; omega]))) | (have HN : Hid (∀ w, Gives Tryz.prog 32 #[.int .i64 self] w (.bool false)) := Lib.hid (fun w => (refNode_any self w).cast (by rw [show nodeB self = false from by simp only [nodeB, decide_eq_false_iff_not]; omega]))))
 all_goals first | (have l3 : 0 ≤ inc := by omega) | (have l3 : inc < 0 := by omega) | skip
 all_goals first | (have l4 : inc ≤ 1000000 := by omega) | (have l4 : 1000000 < inc := by omega) | skip
 all_goals try (first | (have HM : Hid (∀ w, Gives Tryz.prog 38 #[.agg #[.int .i64 n, .int .i64 i, .int .i64 h]] w (.bool true)) := Lib.hid (fun w => (refMay_any n i h w).cast (by rw [show mayB n i h = true from by simp only [mayB, decide_eq_true_eq]; omega]))) | (have HM : Hid (∀ w, Gives Tryz.prog 38 #[.agg #[.int .i64 n, .int .i64 i, .int .i64 h]] w (.bool false)) := Lib.hid (fun w => (refMay_any n i h w).cast (by rw [show mayB n i h = false from by simp only [mayB, decide_eq_false_iff_not]; omega]))))
 all_goals try (first | (have e1 : ((n : Int) != self) = true := by first | exact beq_iff_eq.2 (by omega) | (rw [bne_iff_ne]; omega)) | (have e1 : ((n : Int) != self) = false := by first | exact beq_eq_false_iff_ne.2 (by omega) | exact bne_eq_false_iff_eq.2 (by omega)))
 all_goals try (first | (have e2 : ((h : Int) != 2) = true := by first | exact beq_iff_eq.2 (by omega) | (rw [bne_iff_ne]; omega)) | (have e2 : ((h : Int) != 2) = false := by first | exact beq_eq_false_iff_ne.2 (by omega) | exact bne_eq_false_iff_eq.2 (by omega)))
 all_goals try (first | (have e3 : ((h : Int) != 3) = true := by first | exact beq_iff_eq.2 (by omega) | (rw [bne_iff_ne]; omega)) | (have e3 : ((h : Int) != 3) = false := by first | exact beq_eq_false_iff_ne.2 (by omega) | exact bne_eq_false_iff_eq.2 (by omega)))
 all_goals try (first | (have e4 : ((i : Int) == 1000000) = true := by first | exact beq_iff_eq.2 (by omega) | (rw [bne_iff_ne]; omega)) | (have e4 : ((i : Int) == 1000000) = false := by first | exact beq_eq_false_iff_ne.2 (by omega) | exact bne_eq_false_iff_eq.2 (by omega)))
 all_goals first | (have l1 : inc ≤ i := by omega) | (have l1 : i < inc := by omega) | skip
 all_goals first | (have l2 : 1000000 ≤ i := by omega) | (have l2 : i < 1000000 := by omega) | skip
 all_goals first | (have l5 : 0 ≤ i := by omega) | skip
 all_goals clear p q m e a b
 all_goals
  go_enter Tryz.func68, Tryz.ntmps68
  go_wp2_with (first | (go_at_call 32; (first | (with_reducible refine Gives.on (HN.out _) ?_) | (refine Gives.mono' (HN.out _) ?_)); intro x) | (go_at_call 38; (first | (with_reducible refine Gives.on (HM.out _) ?_) | (refine Gives.mono' (HM.out _) ?_)); intro x))
  all_goals (go_ret2; exact ⟨by rw [HH.out.1, HH.out.2]; first | rfl | (simp [go_sem]; omega), Later.ex (by repeat (first | exact ext_refl _ | refine ext_alloc ?_ _ | refine ext_later ?_ _ | refine ext_drew ?_ | refine ext_drewN ?_ _))⟩)
set_option maxHeartbeats 400000 in
theorem refRefute_any_6 (self inc n i h : Int) (p : (0 ≤ self ∧ self < 8)) (q : (0 ≤ inc ∧ inc ≤ 1000000)) (m : ((0 ≤ n ∧ n < 8) ∧ ((i = 0 ∧ h = 0) ∨ ((0 ≤ i ∧ i ≤ 1000000) ∧ 1 ≤ h ∧ h ≤ 4)))) (e : n = self) (a : h = 2 ∨ h = 3) (b : ¬ i < inc) (c : 1000000 ≤ i) (w : World) : Gives Tryz.prog 68 #[.int .i64 self, .int .i64 inc, .agg #[.int .i64 n, .int .i64 i, .int .i64 h]] w (.tuple #[.int .i64 (refN self inc n i h), .int .i64 (refE self inc n i h)]) := by
 unfold Gives
 all_goals rcases a with a | a
 all_goals have HH : Hid (refN self inc n i h = inc ∧ refE self inc n i h = 6) := Lib.hid (by unfold refN refE; constructor <;> rw [if_neg (fun z => z ⟨p, q, m⟩), if_neg (by omega), if_pos c])
 all_goals try (first | (have HN : Hid (∀ w, Gives Tryz.prog 32 #[.int .i64 self] w (.bool true)) := Lib.hid (fun w => (refNode_any self w).cast (by rw [show nodeB self = true from by simp only [nodeB, decide_eq_true_eq]; omega]))) | (have HN : Hid (∀ w, Gives Tryz.prog 32 #[.int .i64 self] w (.bool false)) := Lib.hid (fun w => (refNode_any self w).cast (by rw [show nodeB self = false from by simp only [nodeB, decide_eq_false_iff_not]; omega]))))
 all_goals first | (have l3 : 0 ≤ inc := by omega) | (have l3 : inc < 0 := by omega) | skip
 all_goals first | (have l4 : inc ≤ 1000000 := by omega) | (have l4 : 1000000 < inc := by omega) | skip
 all_goals try (first | (have HM : Hid (∀ w, Gives Tryz.prog 38 #[.agg #[.int .i64 n, .int .i64 i, .int .i64 h]] w (.bool true)) := Lib.hid (fun w => (refMay_any n i h w).cast (by rw [show mayB n i h = true from by simp only [mayB, decide_eq_true_eq]; omega]))) | (have HM : Hid (∀ w, Gives Tryz.prog 38 #[.agg #[.int .i64 n, .int .i64 i, .int .i64 h]] w (.bool false)) := Lib.hid (fun w => (refMay_any n i h w).cast (by rw [show mayB n i h = false from by simp only [mayB, decide_eq_false_iff_not]; omega]))))
 all_goals try (first | (have e1 : ((n : Int) != self) = true := by first | exact beq_iff_eq.2 (by omega) | (rw [bne_iff_ne]; omega)) | (have e1 : ((n : Int) != self) = false := by first | exact beq_eq_false_iff_ne.2 (by omega) | exact bne_eq_false_iff_eq.2 (by omega)))
 all_goals try (first | (have e2 : ((h : Int) != 2) = true := by first | exact beq_iff_eq.2 (by omega) | (rw [bne_iff_ne]; omega)) | (have e2 : ((h : Int) != 2) = false := by first | exact beq_eq_false_iff_ne.2 (by omega) | exact bne_eq_false_iff_eq.2 (by omega)))
 all_goals try (first | (have e3 : ((h : Int) != 3) = true := by first | exact beq_iff_eq.2 (by omega) | (rw [bne_iff_ne]; omega)) | (have e3 : ((h : Int) != 3) = false := by first | exact beq_eq_false_iff_ne.2 (by omega) | exact bne_eq_false_iff_eq.2 (by omega)))
 all_goals try (first | (have e4 : ((i : Int) == 1000000) = true := by first | exact beq_iff_eq.2 (by omega) | (rw [bne_iff_ne]; omega)) | (have e4 : ((i : Int) == 1000000) = false := by first | exact beq_eq_false_iff_ne.2 (by omega) | exact bne_eq_false_iff_eq.2 (by omega)))
 all_goals first | (have l1 : inc ≤ i := by omega) | (have l1 : i < inc := by omega) | skip
 all_goals first | (have l2 : 1000000 ≤ i := by omega) | (have l2 : i < 1000000 := by omega) | skip
 all_goals first | (have l5 : 0 ≤ i := by omega) | skip
 all_goals clear p q m e a b c
 all_goals
  go_enter Tryz.func68, Tryz.ntmps68
  go_wp2_with (first | (go_at_call 32; (first | (with_reducible refine Gives.on (HN.out _) ?_) | (refine Gives.mono' (HN.out _) ?_)); intro x) | (go_at_call 38; (first | (with_reducible refine Gives.on (HM.out _) ?_) | (refine Gives.mono' (HM.out _) ?_)); intro x))
  all_goals (go_ret2; exact ⟨by rw [HH.out.1, HH.out.2]; first | rfl | (simp [go_sem]; omega), Later.ex (by repeat (first | exact ext_refl _ | refine ext_alloc ?_ _ | refine ext_later ?_ _ | refine ext_drew ?_ | refine ext_drewN ?_ _))⟩)
set_option maxHeartbeats 400000 in
theorem refRefute_any_7 (self inc n i h : Int) (p : (0 ≤ self ∧ self < 8)) (q : (0 ≤ inc ∧ inc ≤ 1000000)) (m : ((0 ≤ n ∧ n < 8) ∧ ((i = 0 ∧ h = 0) ∨ ((0 ≤ i ∧ i ≤ 1000000) ∧ 1 ≤ h ∧ h ≤ 4)))) (e : n = self) (a : h = 2 ∨ h = 3) (b : ¬ i < inc) (c : ¬ 1000000 ≤ i) (w : World) : Gives Tryz.prog 68 #[.int .i64 self, .int .i64 inc, .agg #[.int .i64 n, .int .i64 i, .int .i64 h]] w (.tuple #[.int .i64 (refN self inc n i h), .int .i64 (refE self inc n i h)]) := by
 unfold Gives
 all_goals rcases a with a | a
 all_goals have HH : Hid (refN self inc n i h = i + 1 ∧ refE self inc n i h = 0) := Lib.hid (by unfold refN refE; constructor <;> rw [if_neg (fun z => z ⟨p, q, m⟩), if_neg (by omega), if_neg c])
 all_goals try (first | (have HN : Hid (∀ w, Gives Tryz.prog 32 #[.int .i64 self] w (.bool true)) := Lib.hid (fun w => (refNode_any self w).cast (by rw [show nodeB self = true from by simp only [nodeB, decide_eq_true_eq]; omega]))) | (have HN : Hid (∀ w, Gives Tryz.prog 32 #[.int .i64 self] w (.bool false)) := Lib.hid (fun w => (refNode_any self w).cast (by rw [show nodeB self = false from by simp only [nodeB, decide_eq_false_iff_not]; omega]))))
 all_goals first | (have l3 : 0 ≤ inc := by omega) | (have l3 : inc < 0 := by omega) | skip
 all_goals first | (have l4 : inc ≤ 1000000 := by omega) | (have l4 : 1000000 < inc := by omega) | skip
 all_goals try (first | (have HM : Hid (∀ w, Gives Tryz.prog 38 #[.agg #[.int .i64 n, .int .i64 i, .int .i64 h]] w (.bool true)) := Lib.hid (fun w => (refMay_any n i h w).cast (by rw [show mayB n i h = true from by simp only [mayB, decide_eq_true_eq]; omega]))) | (have HM : Hid (∀ w, Gives Tryz.prog 38 #[.agg #[.int .i64 n, .int .i64 i, .int .i64 h]] w (.bool false)) := Lib.hid (fun w => (refMay_any n i h w).cast (by rw [show mayB n i h = false from by simp only [mayB, decide_eq_false_iff_not]; omega]))))
 all_goals try (first | (have e1 : ((n : Int) != self) = true := by first | exact beq_iff_eq.2 (by omega) | (rw [bne_iff_ne]; omega)) | (have e1 : ((n : Int) != self) = false := by first | exact beq_eq_false_iff_ne.2 (by omega) | exact bne_eq_false_iff_eq.2 (by omega)))
 all_goals try (first | (have e2 : ((h : Int) != 2) = true := by first | exact beq_iff_eq.2 (by omega) | (rw [bne_iff_ne]; omega)) | (have e2 : ((h : Int) != 2) = false := by first | exact beq_eq_false_iff_ne.2 (by omega) | exact bne_eq_false_iff_eq.2 (by omega)))
 all_goals try (first | (have e3 : ((h : Int) != 3) = true := by first | exact beq_iff_eq.2 (by omega) | (rw [bne_iff_ne]; omega)) | (have e3 : ((h : Int) != 3) = false := by first | exact beq_eq_false_iff_ne.2 (by omega) | exact bne_eq_false_iff_eq.2 (by omega)))
 all_goals try (first | (have e4 : ((i : Int) == 1000000) = true := by first | exact beq_iff_eq.2 (by omega) | (rw [bne_iff_ne]; omega)) | (have e4 : ((i : Int) == 1000000) = false := by first | exact beq_eq_false_iff_ne.2 (by omega) | exact bne_eq_false_iff_eq.2 (by omega)))
 all_goals first | (have l1 : inc ≤ i := by omega) | (have l1 : i < inc := by omega) | skip
 all_goals first | (have l2 : 1000000 ≤ i := by omega) | (have l2 : i < 1000000 := by omega) | skip
 all_goals first | (have l5 : 0 ≤ i := by omega) | skip
 all_goals clear p q m e a b c
 all_goals
  go_enter Tryz.func68, Tryz.ntmps68
  go_wp2_with (first | (go_at_call 32; (first | (with_reducible refine Gives.on (HN.out _) ?_) | (refine Gives.mono' (HN.out _) ?_)); intro x) | (go_at_call 38; (first | (with_reducible refine Gives.on (HM.out _) ?_) | (refine Gives.mono' (HM.out _) ?_)); intro x))
  all_goals (go_ret2; exact ⟨by rw [HH.out.1, HH.out.2]; first | rfl | (simp [go_sem]; omega), Later.ex (by repeat (first | exact ext_refl _ | refine ext_alloc ?_ _ | refine ext_later ?_ _ | refine ext_drew ?_ | refine ext_drewN ?_ _))⟩)
theorem refRefute_any (self inc n i h : Int) (w : World) : Gives Tryz.prog 68 #[.int .i64 self, .int .i64 inc, .agg #[.int .i64 n, .int .i64 i, .int .i64 h]] w (.tuple #[.int .i64 (refN self inc n i h), .int .i64 (refE self inc n i h)]) := by
 by_cases p : (0 ≤ self ∧ self < 8)
 ·by_cases q : (0 ≤ inc ∧ inc ≤ 1000000)
  ·by_cases m : ((0 ≤ n ∧ n < 8) ∧ ((i = 0 ∧ h = 0) ∨ ((0 ≤ i ∧ i ≤ 1000000) ∧ 1 ≤ h ∧ h ≤ 4)))
   ·by_cases e : n = self
    ·by_cases a : h = 2 ∨ h = 3
     ·by_cases b : i < inc
      ·exact refRefute_any_5 self inc n i h p q m e a b w
      ·by_cases c : 1000000 ≤ i
       ·exact refRefute_any_6 self inc n i h p q m e a b c w
       ·exact refRefute_any_7 self inc n i h p q m e a b c w
     ·exact refRefute_any_4 self inc n i h p q m e a w
    ·exact refRefute_any_3 self inc n i h p q m e w
   ·exact refRefute_any_2 self inc n i h p q m w
  ·exact refRefute_any_1 self inc n i h p q w
 ·exact refRefute_any_0 self inc n i h p w
end
end Go.Proofs.YtjbihgfdgaiecaaGreat
