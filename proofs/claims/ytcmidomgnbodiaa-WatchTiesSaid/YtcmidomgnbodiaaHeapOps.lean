/- container/heap over any object: what Push, Pop and Fix give. -/
import Derived.Test.YtcmidomgnbodiaaHeapDown
namespace Go.Proofs.Ytcmidomgnbodiaa
open Go Go.RowKit

section
variable {α : Type} {less : α → α → Bool} {R : List α → World → Prop} {h : Value} {enc : α → Value}

/-- The object's two further methods; there is room for cap elements. -/
structure HeapEnds {α : Type} (P : Program) (h : Value) (enc : α → Value) (cap : Nat) (R : List α → World → Prop) : Prop where
  push : ∀ xs x W, R xs W → xs.length < cap → Via P h "Push" #[enc x] W fun e W' => (∃ v, e = .returned v) ∧ R (xs ++ [x]) W'
  pop : ∀ xs x W, R (xs ++ [x]) W → Via P h "Pop" #[] W fun e W' => e = .returned (enc x) ∧ R xs W'

theorem get_last (xs : List α) (x : α) : (xs ++ [x])[xs.length]? = some x := by simp
theorem IsHeap.upInv {xs : List α} (x : α) (hh : IsHeap less xs.length xs) : UpInv less (xs.length + 1) (xs ++ [x]) xs.length := by
  refine ⟨by omega, by simp, ?_, ?_⟩
  · intro k hk hkn hne u v hu hv
    have hp : par k < k := by unfold par; omega
    rw [List.getElem?_append_left (by omega)] at hu hv
    exact hh k hk (by omega) trivial u v hu hv
  · intro h0 c hc hcn hpc
    have hp : par c < c := by unfold par; omega
    omega

/-- One element has been exchanged for another. -/
structure FixPre (less : α → α → Bool) (n : Nat) (xs : List α) (i : Nat) : Prop where
  a : Holds less n (fun k => par k ≠ i ∧ k ≠ i) xs
  b : 0 < i → ∀ c, 0 < c → c < n → par c = i → ∀ x y, xs[par i]? = some x → xs[c]? = some y → Le less x y
theorem fixPre_set (ho : Ordered less) {xs : List α} {n i : Nat} (z : α) (hh : IsHeap less n xs) (hi : i < n) (hn : n ≤ xs.length) : FixPre less n (xs.set i z) i := by
  refine ⟨?_, ?_⟩
  · rintro k hk hkn ⟨h1, h2⟩ u v hu hv
    rw [List.getElem?_set_ne (Ne.symm h1)] at hu
    rw [List.getElem?_set_ne (Ne.symm h2)] at hv
    exact hh k hk hkn trivial u v hu hv
  · intro h0 c hc hcn hpc u v hu hv
    have hp : par c < c := by unfold par; omega
    have hpi : par i < i := by unfold par; omega
    rw [List.getElem?_set_ne (by omega)] at hu hv
    have hx : xs[i]? = some xs[i] := List.getElem?_eq_getElem (by omega)
    exact ho.le_trans (hh i h0 (by omega) trivial _ _ hu hx) (hh c hc hcn trivial _ _ (by rw [hpc]; exact hx) hv)
theorem FixPre.down {n i : Nat} {xs : List α} (hf : FixPre less n xs i) (hn : n ≤ xs.length) : DownInv less 0 n i xs i :=
  ⟨hn, Nat.zero_le _, Nat.le_refl _, fun k hk hkn hc => hf.a k hk hkn ⟨hc.2.1, hc.2.2⟩, fun h0 _ => hf.b h0, fun h0 => (h0 rfl).elim⟩
theorem FixPre.up {n i : Nat} {xs : List α} (hf : FixPre less n xs i) (hi : i < n) (hn : n ≤ xs.length) (hd : Holds less n (fun k => 0 ≤ par k ∧ k ≠ i) xs) : UpInv less n xs i :=
  ⟨hi, hn, fun k hk hkn hc => hd k hk hkn ⟨Nat.zero_le _, hc⟩, hf.b⟩
theorem heap_of_holds {n : Nat} {xs : List α} (hd : Holds less n (fun k => 0 ≤ par k) xs) : IsHeap less n xs := fun k hk hkn _ => hd k hk hkn (Nat.zero_le _)

/-- Behind Push, Fix: the same elements, in a heap. -/
def HeapEnd (less : α → α → Bool) (R : List α → World → Prop) (ys : List α) (e : Ending) (W' : World) : Prop := (∃ v, e = .returned v) ∧ ∃ xs', R xs' W' ∧ xs'.Perm ys ∧ IsHeap less xs'.length xs'
/-- Behind Pop: the least one is handed back. -/
def PopEnd (less : α → α → Bool) (R : List α → World → Prop) (enc : α → Value) (ys : List α) (e : Ending) (W' : World) : Prop :=
  ∃ x xs', e = .returned (enc x) ∧ R xs' W' ∧ (x :: xs').Perm ys ∧ (∀ y ∈ ys, Le less x y) ∧ IsHeap less xs'.length xs'

set_option maxHeartbeats 1000000 in
set_option maxRecDepth 100000 in
theorem heapPush_any (ho : Ordered less) (hH : HeapIf Try.prog h less R) {cap : Nat} (hE : HeapEnds Try.prog h enc cap R) (xs : List α) (x : α) (w : World) (hr : R xs w) (hh : IsHeap less xs.length xs) (hc : xs.length < cap) :
    Calls Try.prog 25 #[h, enc x] w (HeapEnd less R (xs ++ [x])) := by
  have HP := Lib.hid ((hE.push xs x w hr hc).mono (Q' := fun e w' => ∃ v, e = .returned v ∧ R (xs ++ [x]) w') fun e w' ⟨⟨v, he⟩, h⟩ => ⟨v, he, h⟩)
  have HL : Hid (∀ W, R (xs ++ [x]) W → Via Try.prog h "Len" #[] W fun e w' => ∃ v, e = .returned v ∧ v = .int .i64 (xs.length + 1) ∧ R (xs ++ [x]) w') := Lib.hid fun W hr => (hH.len _ W hr).mono fun e w' ⟨he, hR⟩ => ⟨_, he, by simp, hR⟩
  have HU : Hid (∀ W, R (xs ++ [x]) W → Calls Try.prog 30 #[h, .int .i64 xs.length] W fun e W' => (∃ v, e = .returned v) ∧ Hid (∃ xs', R xs' W' ∧ xs'.Perm (xs ++ [x]) ∧ IsHeap less xs'.length xs')) :=
    Lib.hid fun W hr => (up_any ho hH (xs.length + 1) xs.length (xs ++ [x]) W hr (hh.upInv x)).mono fun e W' ⟨hv, xs', hR, hk, hi⟩ => ⟨hv, Lib.hid ⟨xs', hR, hk.perm, by
      have := hk.perm.length_eq
      simp only [List.length_append, List.length_cons, List.length_nil] at this
      rw [this]; exact hi⟩⟩
  have hsz := hH.size _ _ hr
  clear hE hH ho hr hh hc
  go_enter Try.func25, Try.ntmps25
  go_wp2_with (first | (refine wpList_invoke1 rfl _ "Push" _ _ rfl rfl rfl HP.out ?_; intro v w1 hr1) | (refine wpList_invoke0 rfl _ "Len" _ rfl rfl (HL.out _ hr1) ?_; rintro _ w2 ⟨rfl, hr2⟩) | (go_at_call 30; refine (HU.out _ hr2).mono ?_; rintro e w3 ⟨⟨v, rfl⟩, HZ⟩))
  go_end0
  exact ⟨⟨_, rfl⟩, HZ.out⟩

set_option maxHeartbeats 1000000 in
set_option maxRecDepth 100000 in
theorem heapFix_any (ho : Ordered less) (hH : HeapIf Try.prog h less R) (xs : List α) (i : Nat) (w : World) (hr : R xs w) (hf : FixPre less xs.length xs i) (hi : i < xs.length) :
    Calls Try.prog 26 #[h, .int .i64 i] w (HeapEnd less R xs) := by
  have HL : Hid (Via Try.prog h "Len" #[] w fun e w' => ∃ v, e = .returned v ∧ v = .int .i64 xs.length ∧ R xs w') := Lib.hid ((hH.len _ w hr).mono fun e w' ⟨he, hR⟩ => ⟨_, he, rfl, hR⟩)
  have HD : Hid (∀ W, R xs W → Calls Try.prog 29 #[h, .int .i64 i, .int .i64 xs.length] W fun e W' => (e = .returned (.bool true) ∧ Hid (∃ xs', R xs' W' ∧ xs'.Perm xs ∧ IsHeap less xs'.length xs')) ∨ (e = .returned (.bool false) ∧ Hid (R xs W' ∧ UpInv less xs.length xs i))) :=
    Lib.hid fun W hr => (down_any ho hH 0 xs.length i xs W hr (hf.down (Nat.le_refl _)) (by omega)).mono fun e W' ⟨b, xs', he, hR, hk, h1, h2⟩ => by
      cases b with
      | true => exact .inl ⟨he, Lib.hid ⟨xs', hR, hk.perm, by rw [hk.perm.length_eq]; exact heap_of_holds (h1 rfl)⟩⟩
      | false =>
        obtain ⟨rfl, hd⟩ := h2 rfl
        exact .inr ⟨he, Lib.hid ⟨hR, hf.up hi (Nat.le_refl _) hd⟩⟩
  have HU : Hid (∀ W, R xs W → UpInv less xs.length xs i → Calls Try.prog 30 #[h, .int .i64 i] W fun e W' => (∃ v, e = .returned v) ∧ Hid (∃ xs', R xs' W' ∧ xs'.Perm xs ∧ IsHeap less xs'.length xs')) :=
    Lib.hid fun W hr hu => (up_any ho hH xs.length i xs W hr hu).mono fun e W' ⟨hv, xs', hR, hk, hi⟩ => ⟨hv, Lib.hid ⟨xs', hR, hk.perm, by rw [hk.perm.length_eq]; exact hi⟩⟩
  clear hH ho hr hf
  go_enter Try.func26, Try.ntmps26
  go_wp2_with (refine wpList_invoke0 rfl _ "Len" _ rfl rfl HL.out ?_; rintro _ w1 ⟨rfl, hr1⟩)
  refine (HD.out _ hr1).mono ?_
  rintro e w2 (⟨rfl, HT⟩ | ⟨rfl, HF⟩)
  · go_wp2_with fail
    go_end0
    exact ⟨⟨_, rfl⟩, HT.out⟩
  · go_wp2_with fail
    refine (HU.out _ HF.out.1 HF.out.2).mono ?_
    rintro e w3 ⟨⟨v, rfl⟩, HZ⟩
    go_wp2_with fail
    go_end0
    exact ⟨⟨_, rfl⟩, HZ.out⟩

set_option maxHeartbeats 1000000 in
set_option maxRecDepth 100000 in
theorem heapPop_any (ho : Ordered less) (hH : HeapIf Try.prog h less R) {cap : Nat} (hE : HeapEnds Try.prog h enc cap R) (xs : List α) (w : World) (hr : R xs w) (hh : IsHeap less xs.length xs) (hne : 0 < xs.length) :
    Calls Try.prog 24 #[h] w (PopEnd less R enc xs) := by
  obtain ⟨n, hn⟩ : ∃ n, xs.length = n + 1 := ⟨xs.length - 1, by omega⟩
  have hx0 : xs[0]? = some xs[0] := List.getElem?_eq_getElem hne
  obtain ⟨x, hxe⟩ : ∃ x, xs[0] = x := ⟨_, rfl⟩
  rw [hxe] at hx0
  have hxn : xs[n]? = some (xs[n]'(by omega)) := List.getElem?_eq_getElem (by omega)
  obtain ⟨y, hye⟩ : ∃ y, xs[n]'(by omega) = y := ⟨_, rfl⟩
  rw [hye] at hxn
  have hmin : ∀ y ∈ xs, Le less x y := fun y hy => by
    obtain ⟨k, hk, rfl⟩ := List.getElem_of_mem hy
    exact hh.first ho (Nat.le_refl _) hx0 k _ hk (List.getElem?_eq_getElem hk)
  have hat := swapL_at xs hx0 hxn
  have hlen := swapL_len xs 0 n
  have hd : DownInv less 0 n 0 (swapL xs 0 n) 0 := by
    refine ⟨by rw [hlen]; omega, Nat.le_refl _, Nat.le_refl _, ?_, fun h0 => by omega, fun h0 => (h0 rfl).elim⟩
    rintro k hk hkn ⟨_, h1, h2⟩ u v hu hv
    have hp : par k < k := by unfold par; omega
    rw [hat, if_neg (by omega), if_neg h1] at hu
    rw [hat, if_neg (by omega), if_neg h2] at hv
    exact hh k hk (by omega) trivial u v hu hv
  have hlast : (swapL xs 0 n)[n]? = some x := by rw [hat, if_pos rfl]
  have HL : Hid (Via Try.prog h "Len" #[] w fun e w' => ∃ v, e = .returned v ∧ v = .int .i64 (n + 1) ∧ R xs w') := Lib.hid ((hH.len _ w hr).mono fun e w' ⟨he, hR⟩ => ⟨_, he, by rw [hn]; simp, hR⟩)
  have HS : Hid (∀ W, R xs W → Via Try.prog h "Swap" #[.int .i64 0, .int .i64 n] W fun e w' => ∃ v, e = .returned v ∧ R (swapL xs 0 n) w') := Lib.hid fun W hr => (hH.swap xs W 0 n x y hr hx0 hxn).mono fun e w' ⟨⟨v, he⟩, hR⟩ => ⟨v, he, hR⟩
  have HD : Hid (∀ W, R (swapL xs 0 n) W → Calls Try.prog 29 #[h, .int .i64 0, .int .i64 n] W fun e W' => ∃ b : Bool, e = .returned (.bool b) ∧ Hid (∃ zs, R (zs ++ [x]) W' ∧ (x :: zs).Perm xs ∧ IsHeap less zs.length zs)) :=
    Lib.hid fun W hr => (down_any ho hH 0 n 0 (swapL xs 0 n) W hr hd (Nat.zero_le _)).mono fun e W' ⟨b, xs', he, hR, hk, h1, h2⟩ => by
      refine ⟨b, he, Lib.hid ?_⟩
      have hl' : xs'.length = n + 1 := by rw [hk.perm.length_eq, hlen, hn]
      have hheap : IsHeap less n xs' := by
        cases b with
        | true => exact heap_of_holds (h1 rfl)
        | false => exact fun k hk hkn _ => (h2 rfl).2 k hk hkn ⟨Nat.zero_le _, by omega⟩
      have hx' : xs'[n]? = some x := (hk.out n (Nat.le_refl _)).trans hlast
      have hsp : xs' = xs'.take n ++ [x] := by
        have h3 := List.take_append_drop n xs'
        have h4 : xs'.drop n = [x] := by
          obtain ⟨hlt, hg⟩ := List.getElem?_eq_some_iff.1 hx'
          rw [List.drop_eq_getElem_cons hlt, hg, List.drop_eq_nil_of_le (by omega)]
        rw [h4] at h3
        exact h3.symm
      refine ⟨xs'.take n, by rw [← hsp]; exact hR, ?_, ?_⟩
      · refine List.Perm.trans ?_ (hk.perm.trans (swapL_perm _ _ _))
        conv => rhs; rw [hsp]
        exact List.perm_append_singleton x (xs'.take n) |>.symm
      · have e : (xs'.take n).length = n := by simp; omega
        rw [e]
        intro k hk hkn _ u v hu hv
        have hp : par k < k := by unfold par; omega
        rw [List.getElem?_take_of_lt (by omega)] at hu hv
        exact hheap k hk hkn trivial u v hu hv
  have HQ : Hid (∀ zs W, R (zs ++ [x]) W → Via Try.prog h "Pop" #[] W fun e w' => ∃ v, e = .returned v ∧ v = enc x ∧ R zs w') := Lib.hid fun zs W hr => (hE.pop zs x W hr).mono fun e w' ⟨he, hR⟩ => ⟨_, he, rfl, hR⟩
  have HM := Lib.hid hmin
  have hsz := hH.size _ _ hr
  rw [hn] at hsz
  clear hE hH ho hr hh hne hn hx0 hxe hxn hye hmin hat hlen hd hlast
  go_enter Try.func24, Try.ntmps24
  go_wp2_with (first | (refine wpList_invoke0 rfl _ "Len" _ rfl rfl HL.out ?_; rintro _ w1 ⟨rfl, hr1⟩) | (refine wpList_invoke2 rfl _ "Swap" _ _ _ rfl rfl rfl rfl (HS.out _ hr1) ?_; intro v w2 hr2) | (go_at_call 29; refine (HD.out _ hr2).mono ?_; rintro e w3 ⟨b, rfl, HZ⟩; obtain ⟨zs, hz1, hz2, hz3⟩ := HZ.out; have HZ2 := Lib.hid hz2; have HZ3 := Lib.hid hz3; clear HZ hz2 hz3) | (refine wpList_invoke0 rfl _ "Pop" _ rfl rfl (HQ.out zs _ hz1) ?_; rintro _ w4 ⟨rfl, hr4⟩))
  go_ret
  exact ⟨x, zs, rfl, hr4, HZ2.out, HM.out, HZ3.out⟩
end
end Go.Proofs.Ytcmidomgnbodiaa
