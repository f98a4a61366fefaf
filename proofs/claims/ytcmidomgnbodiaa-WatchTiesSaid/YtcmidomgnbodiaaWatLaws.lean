/- WatchNil, WatchSets: walks by the contracts alone. -/
import Derived.Test.YtcmidomgnbodiaaWatC
namespace Go.Proofs.Ytcmidomgnbodiaa
open Go Go.RowKit

theorem rowI_form {W : World} {v : Value} {l : List Int} (h : RowAt elemI W v l) : ∃ p cap, v = .slice p l.length cap ∧ (l = [] ∨ ∃ b o, p = some ⟨b, o, none⟩ ∧ b < W.heap.size ∧ ∀ k x, l[k]? = some x → W.cell? ⟨b, o + k, none⟩ = some (.int .i64 x)) := by
  obtain ⟨p, cap, rfl, hr⟩ := h.form
  refine ⟨p, cap, rfl, ?_⟩
  rcases hr with h0 | ⟨b, o, rfl, hlt, hc⟩
  · exact .inl h0
  · refine .inr ⟨b, o, rfl, hlt, fun k x hk => ?_⟩
    have := hc k x hk 0 _ rfl
    rw [show k * elemI.k = k from Nat.mul_one k, Nat.add_zero] at this
    exact this
set_option maxHeartbeats 1000000 in
set_option maxRecDepth 100000 in
theorem sameW_any (v u : Value) (l : List Int) (w : World) (hv : RowAt elemI w v l) (hu : RowAt elemI w u l) (hl : l.length ≤ 1000000) : Gives Try.prog 12 #[v, u] w (.bool true) := by
  unfold Gives
  obtain ⟨p, cap, rfl, hp⟩ := rowI_form hv
  obtain ⟨r, cap', rfl, hr⟩ := rowI_form hu
  have HP := Lib.hid hp
  have HR := Lib.hid hr
  clear hv hu hp hr
  go_enter Try.func12, Try.ntmps12
  go_wp2_with fail
  go_loopw [13] (fun i wr => ∃ k : Nat, k ≤ l.length ∧ i = .int .i64 k ∧ ∃ x : Later w, wr = x.w) (fun i _ => l.length - (intOf i).toNat)
  case atStart => exact ⟨0, by omega, rfl, ⟨w, Below.refl _ _⟩, rfl⟩
  case round =>
    obtain ⟨k, hk, rfl, x, rfl⟩ := hrel
    by_cases hkl : k < l.length
    · obtain ⟨c, hkc⟩ : ∃ c, l[k]? = some c := ⟨_, List.getElem?_eq_getElem hkl⟩
      rcases HP.out with h0 | ⟨b, o, rfl, hlt, hc⟩
      · rw [h0] at hkl; simp at hkl
      rcases HR.out with h0 | ⟨b', o', rfl, hlt', hc'⟩
      · rw [h0] at hkl; simp at hkl
      have a0 := hc k _ hkc
      have c0 := hc' k _ hkc
      clear hc hc' hkc
      go_upto_region 6 with fail
      go_quiet (fail)
      go_wp2_with fail
      go_roundw
      case rel => exact ⟨k + 1, by omega, by go_num, Later.ex (ext_drewN x.below _)⟩
      case measure => simp [intOf]; omega
    · obtain rfl : k = l.length := by omega
      go_wp2_with fail
      go_ret
      exact ⟨rfl, Later.ex x.below⟩

set_option maxHeartbeats 1000000 in
set_option maxRecDepth 100000 in
theorem nilLawW_any (C : WatC) (d n t : Int) (w : World) : Gives Try.prog 4 #[.agg #[.int .i64 d, .int .i64 n, .int .i64 t]] w (.bool true) := by
  unfold Gives
  have H1 := Lib.hid (C.at0)
  have H2 := Lib.hid (C.set0)
  have H3 := Lib.hid (C.cut0)
  have H4 := Lib.hid (C.due0)
  have H5 := Lib.hid (C.len0)
  have H6 := Lib.hid (awakeW_any C)
  unfold atV at H1
  go_enter Try.func4, Try.ntmps4
  go_wp2_with fail
  refine Gives.mono' (H1.out _ _) ?_
  intro x1
  go_wp2_with fail
  refine Gives.on (H2.out _ _ _) ?_
  intro x2
  go_wp2_with fail
  refine Gives.on (H3.out _ _) ?_
  intro x3
  go_wp2_with fail
  refine Gives.on (H4.out _ _) ?_
  intro x4
  go_wp2_with fail
  refine Gives.on (H5.out _) ?_
  intro x5
  go_wp2_with fail
  refine Gives.on (H6.out _) ?_
  intro x6
  go_wp2_with fail
  go_ret
  exact ⟨rfl, Later.ex ((ext_alloc (ext_refl w) _).trans (x6.below.mono (ext_alloc (ext_refl w) _).size))⟩

theorem mod_in (m : Int) (hm : 0 < m) (hm2 : m ≤ 1099511627776) (n : Int) : ∃ k : Int, 0 ≤ k ∧ k < m ∧ wrap64 ((IntKind.u64.wrap n).tmod m) = k ∧ (IntKind.u64.wrap n).tmod m = k := by
  have h0 : 0 ≤ IntKind.u64.wrap n := by
    unfold IntKind.wrap
    simp only [IntKind.signed, IntKind.bits, Bool.false_and, Bool.false_eq_true, if_false]
    exact Int.emod_nonneg _ (by decide)
  rw [Int.tmod_eq_emod_of_nonneg h0]
  have h1 := Int.emod_nonneg (IntKind.u64.wrap n) (show m ≠ 0 by omega)
  have h2 := Int.emod_lt_of_pos (IntKind.u64.wrap n) hm
  refine ⟨_, h1, h2, ?_, rfl⟩
  obtain ⟨r, hr⟩ : ∃ r, IntKind.u64.wrap n % m = r := ⟨_, rfl⟩
  rw [hr] at h1 h2 ⊢
  unfold wrap64
  omega
theorem set_twice (n a b : Int) (ha : okM ⟨n, a⟩ = true) (hb : okM ⟨n, b⟩ = true) : afterSet (afterSet [] ⟨n, a⟩) ⟨n, b⟩ = [⟨n, b⟩] := by
  unfold afterSet
  rw [ha, hb]
  simp [setM, insM, cutM]

set_option maxHeartbeats 1000000 in
set_option maxRecDepth 100000 in
theorem setsLawW_any (C : WatC) (id first second : Int) (cut : Bool) (w : World) (_ : (Lit.int .i64 id).wf = true) (_ : (Lit.int .i64 first).wf = true) (_ : (Lit.int .i64 second).wf = true) :
    Gives Try.prog 6 #[.int .i64 id, .int .i64 first, .int .i64 second, .bool cut] w (.bool true) := by
  unfold Gives
  obtain ⟨i, hi0, hi1, hiw, hit⟩ := mod_in 1000 (by decide) (by decide) id
  obtain ⟨f, hf0, hf1, hfw, hft⟩ := mod_in 1099511627776 (by decide) (by decide) first
  obtain ⟨s, hs0, hs1, hsw, hst⟩ := mod_in 1099511627776 (by decide) (by decide) second
  have HW1 := Lib.hid hiw
  have HW2 := Lib.hid hfw
  have HW3 := Lib.hid hsw
  have HAw := Lib.hid (awakeW_any C)
  have HN := Lib.hid (newW_any (C := C) (ext_refl w))
  have hok1 : okM ⟨i, f⟩ = true := by simp only [okM, decide_eq_true_eq]; omega
  have hok2 : okM ⟨i, s⟩ = true := by simp only [okM, decide_eq_true_eq]; omega
  have HO1 := Lib.hid hok1
  have HO2 := Lib.hid hok2
  have HTw := Lib.hid (set_twice i f s hok1 hok2)
  clear hiw hit hfw hft hsw hst hok1 hok2
  go_enter Try.func6, Try.ntmps6
  go_upto_region 2 with fail
  rw [HW1.out, HW2.out, HW3.out]
  go_wp2_with fail
  refine HN.out.mono ?_
  rintro e w1 ⟨m, rfl, hs⟩
  have h1 := setW_any hs i f
  unfold SetW at h1
  rw [HO1.out] at h1
  have H1 := Lib.hid h1
  clear hs h1 HN
  go_wp2_with fail
  refine H1.out.mono ?_
  rintro e w2 ⟨rfl, hs⟩
  have h1 := setW_any hs i s
  unfold SetW at h1
  rw [HO2.out, HTw.out] at h1
  have H2 := Lib.hid h1
  clear hs h1 H1
  go_wp2_with fail
  refine H2.out.mono ?_
  rintro e w3 ⟨rfl, hs⟩
  have HL := Lib.hid (lenW_any hs)
  have HS3 := Lib.hid hs
  rw [show ([⟨i, s⟩] : List Mo).length = 1 from rfl] at HL
  clear hs H2
  go_wp2_with fail
  refine Gives.mono' HL.out ?_
  intro x3
  have HS4 := Lib.hid (HS3.out.later x3)
  obtain ⟨W4, hW4⟩ : ∃ W, x3.w = W := ⟨_, rfl⟩
  rw [hW4] at HS4 ⊢
  clear hW4 HL HS3
  have hhas : hasM [⟨i, s⟩] i = some ⟨i, s⟩ := by simp [hasM]
  have hcut : cutM [⟨i, s⟩] i = [] := by simp [cutM]
  have HHas := Lib.hid hhas
  have HCut := Lib.hid hcut
  clear hhas hcut
  cases cut with
  | true =>
    have h1 := cutW_any HS4.out i
    unfold CutW at h1
    rw [HHas.out, HCut.out] at h1
    have H5 := Lib.hid h1
    clear h1
    go_wp2_with fail
    refine H5.out.mono ?_
    rintro e w5 ⟨rfl, hs⟩
    have h1 := cutW_any hs i
    unfold CutW at h1
    rw [show hasM [] i = none from rfl, show cutM [] i = [] from rfl] at h1
    have H6 := Lib.hid h1
    clear hs h1 H5
    go_wp2_with fail
    refine H6.out.mono ?_
    rintro e w6 ⟨rfl, hs⟩
    have h1 := dueW_any hs 1099511627776
    unfold DueW at h1
    rw [show dueM [] 1099511627776 = [] from rfl, show restM [] 1099511627776 = [] from rfl] at h1
    have H7 := Lib.hid h1
    clear hs h1 H6
    go_wp2_with fail
    refine H7.out.mono ?_
    rintro e w7 ⟨p, c, rfl, _, hs⟩
    have HB := Lib.hid hs.below
    clear hs H7
    rw [show (([] : List Mo).map Mo.n).length = 0 from rfl]
    go_wp2_with fail
    refine Gives.mono' (HAw.out _) ?_
    intro z
    go_wp2_with fail
    go_ret
    exact ⟨rfl, Later.ex (below_later HB.out HB.out.size z)⟩
  | false =>
    have h1 := atW_any HS4.out i
    rw [HHas.out] at h1
    unfold atV at h1
    have H5 := Lib.hid h1
    clear h1
    go_wp2_with fail
    refine Gives.mono' H5.out ?_
    intro x5
    have HS5 := Lib.hid (HS4.out.later x5)
    obtain ⟨W5, hW5⟩ : ∃ W, x5.w = W := ⟨_, rfl⟩
    rw [hW5] at HS5 ⊢
    clear hW5 H5 HS4
    have HD2 : Hid (∀ W, WatS C w m [⟨i, s⟩] W → Calls Try.prog 13 #[.pointer (some ⟨m, 0, none⟩), .int .i64 s] W fun e W' => ∃ p c, e = .returned (.slice p 1 c) ∧ RowAt elemI W' (.slice p 1 c) [i] ∧ Below w.heap.size w W') := Lib.hid fun W h => (dueW_any h s).mono fun e W' ⟨p, c, he, hr, hs⟩ => by
      rw [show dueM [⟨i, s⟩] s = [⟨i, s⟩] from by simp [dueM]] at he hr
      exact ⟨p, c, he, hr.1, hs.below⟩
    by_cases hs0 : s = 0
    · have H7 := Lib.hid (HD2.out W5 HS5.out)
      clear HD2 HO1 HO2 HTw HW1 HW2 HW3
      subst hs0
      go_wp2_with fail
      refine H7.out.mono ?_
      rintro e w7 ⟨p, c, rfl, hr, hb⟩
      have HSame := Lib.hid (sameW_any (.slice p 1 c) (.slice (some ⟨w7.heap.size, 0, none⟩) 1 1) [i] (w7.alloc (.cells #[.int .i64 i] 3)) (hr.below (ext_alloc (ext_refl w7) _)) (srcE_one (E := elemI) (x := i) (heap_alloc_new w7 _) rfl).1 (by simp))
      have HB := Lib.hid (hb.trans ((ext_alloc (ext_refl w7) (.cells #[.int .i64 i] 3)).mono hb.size))
      clear hr hb H7
      go_wp2_with fail
      refine Gives.mono' HSame.out ?_
      intro x8
      go_wp2_with fail
      refine Gives.mono' (HAw.out _) ?_
      intro z
      go_wp2_with fail
      go_ret
      exact ⟨rfl, Later.ex (below_later (below_later HB.out HB.out.size x8) (Nat.le_trans HB.out.size x8.below.size) z)⟩
    · have hsz : (s == 0) = false := by rw [beq_eq_false_iff_ne]; exact hs0
      have h1 := dueW_any HS5.out (s - 1)
      unfold DueW at h1
      rw [show dueM [⟨i, s⟩] (s - 1) = [] from by simp [dueM]; omega, show restM [⟨i, s⟩] (s - 1) = [⟨i, s⟩] from by simp [restM]; omega] at h1
      have H6 := Lib.hid h1
      clear h1
      go_wp2_with fail
      refine H6.out.mono ?_
      rintro e w6 ⟨p, c, rfl, _, hs⟩
      have H7 := Lib.hid (HD2.out w6 hs)
      rw [show (([] : List Mo).map Mo.n).length = 0 from rfl]
      clear hs H6
      go_wp2_with fail
      refine H7.out.mono ?_
      rintro e w7 ⟨p, c, rfl, hr, hb⟩
      have HSame := Lib.hid (sameW_any (.slice p 1 c) (.slice (some ⟨w7.heap.size, 0, none⟩) 1 1) [i] (w7.alloc (.cells #[.int .i64 i] 3)) (hr.below (ext_alloc (ext_refl w7) _)) (srcE_one (E := elemI) (x := i) (heap_alloc_new w7 _) rfl).1 (by simp))
      have HB := Lib.hid (hb.trans ((ext_alloc (ext_refl w7) (.cells #[.int .i64 i] 3)).mono hb.size))
      clear hr hb H7
      go_wp2_with fail
      refine Gives.mono' HSame.out ?_
      intro x8
      go_wp2_with fail
      refine Gives.mono' (HAw.out _) ?_
      intro z
      go_wp2_with fail
      go_ret
      exact ⟨rfl, Later.ex (below_later (below_later HB.out HB.out.size x8) (Nat.le_trans HB.out.size x8.below.size) z)⟩
end Go.Proofs.Ytcmidomgnbodiaa
