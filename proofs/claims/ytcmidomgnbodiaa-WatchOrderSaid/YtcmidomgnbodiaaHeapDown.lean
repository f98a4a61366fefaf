/- container/heap over any object: what down gives. -/
import Derived.Test.YtcmidomgnbodiaaHeap
namespace Go.Proofs.Ytcmidomgnbodiaa
open Go Go.RowKit

section
variable {α : Type} {less : α → α → Bool} {R : List α → World → Prop} {h : Value}

structure DownAt (less : α → α → Bool) (R : List α → World → Prop) (lo n i0 : Nat) (xs : List α) (i : Nat) (xs' : List α) (W : World) : Prop where
  r : R xs' W
  kept : Kept n xs xs'
  inv : DownInv less lo n i0 xs' i
  still : i = i0 → xs' = xs

def DownEnd (less : α → α → Bool) (R : List α → World → Prop) (lo n i0 : Nat) (xs : List α) (e : Ending) (W' : World) : Prop :=
  ∃ (b : Bool) (xs' : List α), e = .returned (.bool b) ∧ R xs' W' ∧ Kept n xs xs' ∧ (b = true → Holds less n (fun k => lo ≤ par k) xs') ∧ (b = false → xs' = xs ∧ Holds less n (fun k => lo ≤ par k ∧ k ≠ i0) xs')

theorem downEnd_mk {lo n i0 : Nat} {xs : List α} {i : Nat} {xs' : List α} {W : World} {b : Bool} (hd : DownAt less R lo n i0 xs i xs' W) (hb : Below2 less n xs' i) (he : b = decide (i0 < i)) : DownEnd less R lo n i0 xs (.returned (.bool b)) W := by
  have h1 := hd.inv.done hb
  have h2 := hd.inv.ge
  refine ⟨b, xs', rfl, hd.r, hd.kept, fun e => ?_, fun e => ?_⟩
  · rw [he, decide_eq_true_eq] at e
    exact fun k hk hkn hc => h1 k hk hkn ⟨hc, fun e' => by omega⟩
  · rw [he, decide_eq_false_iff_not] at e
    have e' : i = i0 := by omega
    exact ⟨hd.still e', fun k hk hkn hc => h1 k hk hkn ⟨hc.1, fun _ => hc.2⟩⟩

set_option maxHeartbeats 4000000 in
set_option maxRecDepth 100000 in
theorem down_any (ho : Ordered less) (hH : HeapIf Try.prog h less R) (lo n i0 : Nat) (xs : List α) (w : World) (hr : R xs w) (hu : DownInv less lo n i0 xs i0) (hi0 : i0 ≤ n) :
    Calls Try.prog 29 #[h, .int .i64 i0, .int .i64 n] w (DownEnd less R lo n i0 xs) := by
  have H0 := Lib.hid (show DownAt less R lo n i0 xs i0 xs w from ⟨hr, Kept.refl _ _, hu, fun _ => rfl⟩)
  have HH := Lib.hid hH
  have HO := Lib.hid ho
  have hsz := hH.size _ _ hr
  have hnx := hu.le
  clear hr hu hH ho
  go_enter Try.func29, Try.ntmps29
  go_wp2_with fail
  go_loopw [7] (fun iv wr => ∃ (i : Nat) (xs' : List α), i ≤ n ∧ iv = .int .i64 i ∧ DownAt less R lo n i0 xs i xs' wr) (fun iv _ => n - (intOf iv).toNat)
  case atStart => exact ⟨i0, xs, hi0, rfl, H0.out⟩
  case round =>
    clear H0
    obtain ⟨i, xs', hin, rfl, hu⟩ := hrel
    have hlen := HH.out.size _ _ hu.r
    have hnl := hu.inv.le
    have hge := hu.inv.ge
    obtain ⟨j1, hj1⟩ : ∃ j : Nat, j = 2 * i + 1 := ⟨_, rfl⟩
    obtain ⟨j2, hj2⟩ : ∃ j : Nat, j = 2 * i + 2 := ⟨_, rfl⟩
    have hq1 : 2 * (i : Int) + 1 = (j1 : Int) := by omega
    have hq2 : (j1 : Int) + 1 = (j2 : Int) := by omega
    have P1 := Lib.hid (show par j1 = i by rw [hj1]; exact par_left i)
    have P2 := Lib.hid (show par j2 = i by rw [hj2]; exact par_right i)
    have HK := Lib.hid (show ∀ k, 0 < k → par k = i → k = j1 ∨ k = j2 from fun k hk hp => by rw [hj1, hj2]; exact par_eq hk hp)
    have hij1 : i < j1 := by omega
    have hj12 : j1 < j2 := by omega
    have hj2b : j2 ≤ 2 * i + 2 := by omega
    clear hj1 hj2
    by_cases hlt1 : j1 < n
    · have hx : xs'[i]? = some xs'[i] := List.getElem?_eq_getElem (by omega)
      have hy : xs'[j1]? = some xs'[j1] := List.getElem?_eq_getElem (by omega)
      obtain ⟨x, hxe⟩ : ∃ x, xs'[i] = x := ⟨_, rfl⟩
      obtain ⟨y, hye⟩ : ∃ y, xs'[j1] = y := ⟨_, rfl⟩
      rw [hxe] at hx
      rw [hye] at hy
      have HU := Lib.hid hu
      have HX := Lib.hid hx
      have HY := Lib.hid hy
      clear hu hx hy hxe hye
      -- the child that is compared with i, in whatever world
      have HLess : Hid (∀ (a b : Nat) u v W, R xs' W → xs'[a]? = some u → xs'[b]? = some v → Via Try.prog h "Less" #[.int .i64 a, .int .i64 b] W fun e w' => ∃ r, e = .returned r ∧ r = .bool (less u v) ∧ R xs' w') :=
        Lib.hid fun a b u v W hr ha hb => (HH.out.less xs' W a b u v hr ha hb).mono fun e w' ⟨he, hR⟩ => ⟨_, he, rfl, hR⟩
      have HSwap : Hid (∀ (b : Nat) v W, R xs' W → xs'[b]? = some v → Via Try.prog h "Swap" #[.int .i64 i, .int .i64 b] W fun e w' => ∃ r, e = .returned r ∧ R (swapL xs' i b) w') :=
        Lib.hid fun b v W hr hb => (HH.out.swap xs' W i b x v hr HX.out hb).mono fun e w' ⟨⟨r, he⟩, hR⟩ => ⟨r, he, hR⟩
      have HStep : Hid (∀ (j : Nat) v W, 0 < j → j < n → par j = i → xs'[j]? = some v → less v x = true → (∀ k, 0 < k → k < n → par k = i → ∀ z, xs'[k]? = some z → Le less v z) → R (swapL xs' i j) W → DownAt less R lo n i0 xs j (swapL xs' i j) W) :=
        Lib.hid fun j v W h0 hjn hp hv hl hbro hR => ⟨hR, HU.out.kept.swap (by omega) hjn hnl, HU.out.inv.step HO.out h0 hjn hp HX.out hv hl hbro, fun e => by exfalso; have : par j < j := (by unfold par; omega); omega⟩
      have HEnd : Hid (∀ v W, R xs' W → less v x = false → (∀ k, 0 < k → k < n → par k = i → ∀ z, xs'[k]? = some z → Le less v z) → ∀ b, b = decide (i0 < i) → DownEnd less R lo n i0 xs (.returned (.bool b)) W) :=
        Lib.hid fun v W hR hl hbro b hb => downEnd_mk ⟨hR, HU.out.kept, HU.out.inv, HU.out.still⟩ (fun k hk hkn hp u z hu hz => by
          rw [HX.out] at hu
          obtain rfl := Option.some.inj hu
          exact HO.out.le_trans hl (hbro k hk hkn hp z hz)) hb
      by_cases hlt2 : j2 < n
      · have hz : xs'[j2]? = some xs'[j2] := List.getElem?_eq_getElem (by omega)
        obtain ⟨z, hze⟩ : ∃ z, xs'[j2] = z := ⟨_, rfl⟩
        rw [hze] at hz
        have HZ := Lib.hid hz
        clear hz hze
        have HL0 := Lib.hid (HLess.out j2 j1 z y wr HU.out.r HZ.out HY.out)
        cases hbl : less z y
        · rw [hbl] at HL0
          have HBro : Hid (∀ k, 0 < k → k < n → par k = i → ∀ u, xs'[k]? = some u → Le less y u) := Lib.hid fun k hk hkn hp u hu => by
            rcases HK.out k hk hp with e | e
            · rw [e, HY.out] at hu
              obtain rfl := Option.some.inj hu
              cases hyy : less y y with
              | false => exact hyy
              | true => exact HO.out.asym y y hyy
            · rw [e, HZ.out] at hu
              obtain rfl := Option.some.inj hu
              exact hbl
          clear hbl
          cases hless : less y x
          · have HE := Lib.hid hless
            have HL := Lib.hid (fun W hr => HLess.out j1 i y x W hr HY.out HX.out)
            rw [hless] at HL
            clear hless
            by_cases hmv : i0 < i
            · go_wp2_with (first | (refine wpList_invoke2 rfl _ "Less" _ _ _ rfl rfl rfl rfl HL0.out ?_; rintro _ w1 ⟨rfl, hr1⟩) | (refine wpList_invoke2 rfl _ "Less" _ _ _ rfl rfl rfl rfl (HL.out _ hr1) ?_; rintro _ w2 ⟨rfl, hr2⟩))
              go_ret
              exact HEnd.out y _ hr2 HE.out HBro.out _ (by simp; omega)
            · go_wp2_with (first | (refine wpList_invoke2 rfl _ "Less" _ _ _ rfl rfl rfl rfl HL0.out ?_; rintro _ w1 ⟨rfl, hr1⟩) | (refine wpList_invoke2 rfl _ "Less" _ _ _ rfl rfl rfl rfl (HL.out _ hr1) ?_; rintro _ w2 ⟨rfl, hr2⟩))
              go_ret
              exact HEnd.out y _ hr2 HE.out HBro.out _ (by simp; omega)
          · have HE := Lib.hid hless
            have HL := Lib.hid (fun W hr => HLess.out j1 i y x W hr HY.out HX.out)
            rw [hless] at HL
            clear hless
            go_wp2_with (first | (refine wpList_invoke2 rfl _ "Less" _ _ _ rfl rfl rfl rfl HL0.out ?_; rintro _ w1 ⟨rfl, hr1⟩) | (refine wpList_invoke2 rfl _ "Less" _ _ _ rfl rfl rfl rfl (HL.out _ hr1) ?_; rintro _ w2 ⟨rfl, hr2⟩) | (refine wpList_invoke2 rfl _ "Swap" _ _ _ rfl rfl rfl rfl (HSwap.out j1 y _ hr2 HY.out) ?_; intro v w3 hr3))
            go_roundw
            case rel => exact ⟨j1, swapL xs' i j1, by omega, rfl, HStep.out j1 y _ (by omega) (by omega) P1.out HY.out HE.out HBro.out hr3⟩
            case measure => simp [intOf]; omega
        · rw [hbl] at HL0
          have HBro : Hid (∀ k, 0 < k → k < n → par k = i → ∀ u, xs'[k]? = some u → Le less z u) := Lib.hid fun k hk hkn hp u hu => by
            rcases HK.out k hk hp with e | e
            · rw [e, HY.out] at hu
              obtain rfl := Option.some.inj hu
              exact HO.out.le_of hbl
            · rw [e, HZ.out] at hu
              obtain rfl := Option.some.inj hu
              cases hyy : less z z with
              | false => exact hyy
              | true => exact HO.out.asym z z hyy
          clear hbl
          cases hless : less z x
          · have HE := Lib.hid hless
            have HL := Lib.hid (fun W hr => HLess.out j2 i z x W hr HZ.out HX.out)
            rw [hless] at HL
            clear hless
            by_cases hmv : i0 < i
            · go_wp2_with (first | (refine wpList_invoke2 rfl _ "Less" _ _ _ rfl rfl rfl rfl HL0.out ?_; rintro _ w1 ⟨rfl, hr1⟩) | (refine wpList_invoke2 rfl _ "Less" _ _ _ rfl rfl rfl rfl (HL.out _ hr1) ?_; rintro _ w2 ⟨rfl, hr2⟩))
              go_ret
              exact HEnd.out z _ hr2 HE.out HBro.out _ (by simp; omega)
            · go_wp2_with (first | (refine wpList_invoke2 rfl _ "Less" _ _ _ rfl rfl rfl rfl HL0.out ?_; rintro _ w1 ⟨rfl, hr1⟩) | (refine wpList_invoke2 rfl _ "Less" _ _ _ rfl rfl rfl rfl (HL.out _ hr1) ?_; rintro _ w2 ⟨rfl, hr2⟩))
              go_ret
              exact HEnd.out z _ hr2 HE.out HBro.out _ (by simp; omega)
          · have HE := Lib.hid hless
            have HL := Lib.hid (fun W hr => HLess.out j2 i z x W hr HZ.out HX.out)
            rw [hless] at HL
            clear hless
            go_wp2_with (first | (refine wpList_invoke2 rfl _ "Less" _ _ _ rfl rfl rfl rfl HL0.out ?_; rintro _ w1 ⟨rfl, hr1⟩) | (refine wpList_invoke2 rfl _ "Less" _ _ _ rfl rfl rfl rfl (HL.out _ hr1) ?_; rintro _ w2 ⟨rfl, hr2⟩) | (refine wpList_invoke2 rfl _ "Swap" _ _ _ rfl rfl rfl rfl (HSwap.out j2 z _ hr2 HZ.out) ?_; intro v w3 hr3))
            go_roundw
            case rel => exact ⟨j2, swapL xs' i j2, by omega, rfl, HStep.out j2 z _ (by omega) (by omega) P2.out HZ.out HE.out HBro.out hr3⟩
            case measure => simp [intOf]; omega
      · have HBro : Hid (∀ k, 0 < k → k < n → par k = i → ∀ z, xs'[k]? = some z → Le less y z) := Lib.hid fun k hk hkn hp z hz => by
          rcases HK.out k hk hp with e | e
          · rw [e, HY.out] at hz
            obtain rfl := Option.some.inj hz
            cases hyy : less y y with
            | false => exact hyy
            | true => exact HO.out.asym y y hyy
          · omega
        cases hless : less y x
        · have HE := Lib.hid hless
          have HL := Lib.hid (HLess.out j1 i y x wr HU.out.r HY.out HX.out)
          rw [hless] at HL
          clear hless
          by_cases hmv : i0 < i
          · go_wp2_with (refine wpList_invoke2 rfl _ "Less" _ _ _ rfl rfl rfl rfl HL.out ?_; rintro _ w1 ⟨rfl, hr1⟩)
            go_ret
            exact HEnd.out y _ hr1 HE.out HBro.out _ (by simp; omega)
          · go_wp2_with (refine wpList_invoke2 rfl _ "Less" _ _ _ rfl rfl rfl rfl HL.out ?_; rintro _ w1 ⟨rfl, hr1⟩)
            go_ret
            exact HEnd.out y _ hr1 HE.out HBro.out _ (by simp; omega)
        · have HE := Lib.hid hless
          have HL := Lib.hid (HLess.out j1 i y x wr HU.out.r HY.out HX.out)
          rw [hless] at HL
          clear hless
          go_wp2_with (first | (refine wpList_invoke2 rfl _ "Less" _ _ _ rfl rfl rfl rfl HL.out ?_; rintro _ w1 ⟨rfl, hr1⟩) | (refine wpList_invoke2 rfl _ "Swap" _ _ _ rfl rfl rfl rfl (HSwap.out j1 y _ hr1 HY.out) ?_; intro v w2 hr2))
          go_roundw
          case rel => exact ⟨j1, swapL xs' i j1, by omega, rfl, HStep.out j1 y _ (by omega) hlt1 P1.out HY.out HE.out HBro.out hr2⟩
          case measure => simp [intOf]; omega
    · have HU := Lib.hid hu
      clear hu
      have HB : Hid (Below2 less n xs' i) := Lib.hid fun k hk hkn hp => by
        rcases HK.out k hk hp with e | e <;> omega
      by_cases hmv : i0 < i
      · go_wp2_with fail
        go_ret
        exact downEnd_mk HU.out HB.out (by simp; omega)
      · go_wp2_with fail
        go_ret
        exact downEnd_mk HU.out HB.out (by simp; omega)
end
end Go.Proofs.Ytcmidomgnbodiaa
