/- container/heap over any object: what Remove gives. -/
import Derived.Test.YtcmidomgnbodiaaHeapOps
namespace Go.Proofs.Ytcmidomgnbodiaa
open Go Go.RowKit

section
variable {α : Type} {less : α → α → Bool} {R : List α → World → Prop} {h : Value} {enc : α → Value}

theorem rem_split {n : Nat} {xs ys zs : List α} {x : α} (hl : ys.length = n + 1) (hlast : ys[n]? = some x) (hk : Kept n ys zs) (hp : ys.Perm xs) (hheap : IsHeap less n zs) : ∃ ws, zs = ws ++ [x] ∧ (x :: ws).Perm xs ∧ IsHeap less ws.length ws := by
  have hl' : zs.length = n + 1 := by rw [hk.perm.length_eq, hl]
  have hx' : zs[n]? = some x := (hk.out n (Nat.le_refl _)).trans hlast
  have hsp : zs = zs.take n ++ [x] := by
    have h3 := List.take_append_drop n zs
    have h4 : zs.drop n = [x] := by
      obtain ⟨hlt, hg⟩ := List.getElem?_eq_some_iff.1 hx'
      rw [List.drop_eq_getElem_cons hlt, hg, List.drop_eq_nil_of_le (by omega)]
    rw [h4] at h3
    exact h3.symm
  refine ⟨zs.take n, hsp, ?_, ?_⟩
  · refine List.Perm.trans ?_ (hk.perm.trans hp)
    conv => rhs; rw [hsp]
    exact List.perm_append_singleton x (zs.take n) |>.symm
  · have e : (zs.take n).length = n := by simp; omega
    rw [e]
    intro k hk hkn _ u v hu hv
    have hp : par k < k := by unfold par; omega
    rw [List.getElem?_take_of_lt (by omega)] at hu hv
    exact hheap k hk hkn trivial u v hu hv
/-- The element i and the last one have been exchanged: among those ahead of the last one, all but i are in order. -/
theorem fixPre_swap (ho : Ordered less) {xs : List α} {n i : Nat} {x y : α} (hh : IsHeap less (n + 1) xs) (hi : i < n) (hn : xs.length = n + 1) (hx : xs[i]? = some x) (hy : xs[n]? = some y) : FixPre less n (swapL xs i n) i := by
  have hat := swapL_at xs hx hy
  refine ⟨?_, ?_⟩
  · rintro k hk hkn ⟨h1, h2⟩ u v hu hv
    have hp : par k < k := by unfold par; omega
    rw [hat, if_neg (by omega), if_neg h1] at hu
    rw [hat, if_neg (by omega), if_neg h2] at hv
    exact hh k hk (by omega) trivial u v hu hv
  · intro h0 c hc hcn hpc u v hu hv
    have hp : par c < c := by unfold par; omega
    have hpi : par i < i := by unfold par; omega
    rw [hat, if_neg (by omega), if_neg (by omega)] at hu
    rw [hat, if_neg (by omega), if_neg (by omega)] at hv
    exact ho.le_trans (hh i h0 (by omega) trivial _ _ hu hx) (hh c hc (by omega) trivial _ _ (by rw [hpc]; exact hx) hv)

/-- Behind Remove: the element i is handed back. -/
def RemEnd (less : α → α → Bool) (R : List α → World → Prop) (enc : α → Value) (ys : List α) (x : α) (e : Ending) (W' : World) : Prop :=
  e = .returned (enc x) ∧ ∃ xs', R xs' W' ∧ (x :: xs').Perm ys ∧ IsHeap less xs'.length xs'

set_option maxHeartbeats 1000000 in
set_option maxRecDepth 100000 in
theorem heapRemove_any (ho : Ordered less) (hH : HeapIf Try.prog h less R) {cap : Nat} (hE : HeapEnds Try.prog h enc cap R) (xs : List α) (i : Nat) (x : α) (w : World) (hr : R xs w) (hh : IsHeap less xs.length xs) (hx : xs[i]? = some x) :
    Calls Try.prog 22 #[h, .int .i64 i] w (RemEnd less R enc xs x) := by
  have hil := (List.getElem?_eq_some_iff.1 hx).1
  obtain ⟨n, hn⟩ : ∃ n, xs.length = n + 1 := ⟨xs.length - 1, by omega⟩
  have hxn : xs[n]? = some (xs[n]'(by omega)) := List.getElem?_eq_getElem (by omega)
  obtain ⟨y, hye⟩ : ∃ y, xs[n]'(by omega) = y := ⟨_, rfl⟩
  rw [hye] at hxn
  have hsz := hH.size _ _ hr
  have HL : Hid (Via Try.prog h "Len" #[] w fun e w' => ∃ v, e = .returned v ∧ v = .int .i64 (n + 1) ∧ R xs w') := Lib.hid ((hH.len _ w hr).mono fun e w' ⟨he, hR⟩ => ⟨_, he, by rw [hn]; simp, hR⟩)
  have HQ : Hid (∀ zs W, R (zs ++ [x]) W → Via Try.prog h "Pop" #[] W fun e w' => ∃ v, e = .returned v ∧ v = enc x ∧ R zs w') := Lib.hid fun zs W hr => (hE.pop zs x W hr).mono fun e w' ⟨he, hR⟩ => ⟨_, he, rfl, hR⟩
  rw [hn] at hsz hh
  by_cases hin : i = n
  · subst hin
    obtain ⟨ws, hws, hwp, hwh⟩ := rem_split (less := less) (xs := xs) hn hx (Kept.refl i xs) (List.Perm.refl _) (fun k hk hkn _ => hh k hk (by omega) trivial)
    have HW2 := Lib.hid hwp
    have HW3 := Lib.hid hwh
    rw [hws] at HL
    clear hE hH ho hr hh hn hx hxn hye hil hwp hwh
    go_enter Try.func22, Try.ntmps22
    go_wp2_with (first | (refine wpList_invoke0 rfl _ "Len" _ rfl rfl HL.out ?_; rintro _ w1 ⟨rfl, hr1⟩) | (refine wpList_invoke0 rfl _ "Pop" _ rfl rfl (HQ.out ws _ hr1) ?_; rintro _ w4 ⟨rfl, hr4⟩))
    go_ret
    exact ⟨rfl, ws, hr4, HW2.out, HW3.out⟩
  · have hin' : i < n := by omega
    have hlen := swapL_len xs i n
    have hat := swapL_at xs hx hxn
    have hf := fixPre_swap ho hh hin' hn hx hxn
    have hlast : (swapL xs i n)[n]? = some x := by rw [hat, if_pos rfl]
    have HSpl : Hid (∀ zs, Kept n (swapL xs i n) zs → IsHeap less n zs → ∃ ws, zs = ws ++ [x] ∧ (x :: ws).Perm xs ∧ IsHeap less ws.length ws) := Lib.hid fun zs hk hz => rem_split (by rw [hlen, hn]) hlast hk (swapL_perm _ _ _) hz
    have HS : Hid (∀ W, R xs W → Via Try.prog h "Swap" #[.int .i64 i, .int .i64 n] W fun e w' => ∃ v, e = .returned v ∧ R (swapL xs i n) w') := Lib.hid fun W hr => (hH.swap xs W i n x y hr hx hxn).mono fun e w' ⟨⟨v, he⟩, hR⟩ => ⟨v, he, hR⟩
    have HD : Hid (∀ W, R (swapL xs i n) W → Calls Try.prog 29 #[h, .int .i64 i, .int .i64 n] W fun e W' => (e = .returned (.bool true) ∧ Hid (∃ ws, R (ws ++ [x]) W' ∧ (x :: ws).Perm xs ∧ IsHeap less ws.length ws)) ∨ (e = .returned (.bool false) ∧ Hid (R (swapL xs i n) W' ∧ UpInv less n (swapL xs i n) i))) :=
      Lib.hid fun W hr => (down_any ho hH 0 n i (swapL xs i n) W hr (hf.down (by omega)) (by omega)).mono fun e W' ⟨b, xs', he, hR, hk, h1, h2⟩ => by
        cases b with
        | true =>
          obtain ⟨ws, rfl, e2, e3⟩ := HSpl.out xs' hk (heap_of_holds (h1 rfl))
          exact .inl ⟨he, Lib.hid ⟨ws, hR, e2, e3⟩⟩
        | false =>
          obtain ⟨rfl, hd⟩ := h2 rfl
          exact .inr ⟨he, Lib.hid ⟨hR, hf.up hin' (by omega) hd⟩⟩
    have HU : Hid (∀ W, R (swapL xs i n) W → UpInv less n (swapL xs i n) i → Calls Try.prog 30 #[h, .int .i64 i] W fun e W' => (∃ v, e = .returned v) ∧ Hid (∃ ws, R (ws ++ [x]) W' ∧ (x :: ws).Perm xs ∧ IsHeap less ws.length ws)) :=
      Lib.hid fun W hr hu => (up_any ho hH n i (swapL xs i n) W hr hu).mono fun e W' ⟨hv, xs', hR, hk, hi⟩ => by
        obtain ⟨ws, rfl, e2, e3⟩ := HSpl.out xs' hk hi
        exact ⟨hv, Lib.hid ⟨ws, hR, e2, e3⟩⟩
    have gin : ((n : Int) == (i : Int)) = false := by rw [beq_eq_false_iff_ne]; omega
    have gin2 : ((n : Int) != (i : Int)) = true := by rw [bne_iff_ne]; omega
    clear hE hH ho hr hh hn hx hxn hye hil hat hf hlast hlen HSpl
    go_enter Try.func22, Try.ntmps22
    go_wp2_with (first | (refine wpList_invoke0 rfl _ "Len" _ rfl rfl HL.out ?_; rintro _ w1 ⟨rfl, hr1⟩) | (refine wpList_invoke2 rfl _ "Swap" _ _ _ rfl rfl rfl rfl (HS.out _ hr1) ?_; intro v w2 hr2))
    refine (HD.out _ hr2).mono ?_
    rintro e w3 (⟨rfl, HT⟩ | ⟨rfl, HF⟩)
    · obtain ⟨ws, hz1, hz2, hz3⟩ := HT.out
      have HZ2 := Lib.hid hz2
      have HZ3 := Lib.hid hz3
      clear HT hz2 hz3
      go_wp2_with (refine wpList_invoke0 rfl _ "Pop" _ rfl rfl (HQ.out ws _ hz1) ?_; rintro _ w4 ⟨rfl, hr4⟩)
      go_ret
      exact ⟨rfl, ws, hr4, HZ2.out, HZ3.out⟩
    · go_wp2_with fail
      refine (HU.out _ HF.out.1 HF.out.2).mono ?_
      rintro e w4 ⟨⟨v, rfl⟩, HZ⟩
      obtain ⟨ws, hz1, hz2, hz3⟩ := HZ.out
      have HZ2 := Lib.hid hz2
      have HZ3 := Lib.hid hz3
      clear HZ hz2 hz3
      go_wp2_with (refine wpList_invoke0 rfl _ "Pop" _ rfl rfl (HQ.out ws _ hz1) ?_; rintro _ w5 ⟨rfl, hr5⟩)
      go_ret
      exact ⟨rfl, ws, hr5, HZ2.out, HZ3.out⟩
end
end Go.Proofs.Ytcmidomgnbodiaa
