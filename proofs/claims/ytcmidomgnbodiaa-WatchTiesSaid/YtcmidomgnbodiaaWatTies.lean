/- WatchTies: a walk by the contracts alone. -/
import Derived.Test.YtcmidomgnbodiaaWatLaws
namespace Go.Proofs.Ytcmidomgnbodiaa
open Go Go.RowKit

theorem cellI {W : World} {p : Option Addr} {n cap : Nat} {l : List Int} (h : RowAt elemI W (.slice p n cap) l) {k : Nat} {x : Int} (hk : l[k]? = some x) : ∃ b o, p = some ⟨b, o, none⟩ ∧ W.cell? ⟨b, o + k, none⟩ = some (.int .i64 x) := by
  obtain ⟨p', cap', he, hr⟩ := rowI_form h
  obtain ⟨rfl, -, -⟩ := Value.slice.inj he
  rcases hr with h0 | ⟨b, o, rfl, _, hc⟩
  · rw [h0] at hk; simp at hk
  · exact ⟨b, o, rfl, hc k x hk⟩
structure TiesS (C : WatC) (w : World) (m : Nat) (t : Int) (k : Nat) (L : List Mo) (W : World) : Prop where
  s : WatS C w m L W
  at' : ∀ x ∈ L, x.t = t
  some' : L = [] ↔ k = 0
theorem set_mem {L : List Mo} {m x : Mo} (h : x ∈ setM L m) : x = m ∨ x ∈ L := by
  rcases List.mem_cons.1 ((setM_perm L m).subset h) with h1 | h1
  · exact .inl h1
  · exact .inr (List.mem_filter.1 h1).1
theorem set_ne (L : List Mo) (m : Mo) : setM L m ≠ [] := by
  intro h
  have := (setM_perm L m).length_eq
  rw [h] at this
  simp at this
theorem ties_next {C : WatC} {w W W' : World} {m k : Nat} {t n : Int} {L : List Mo} (h : TiesS C w m t k L W') (hok : okM ⟨n, t⟩ = true) (hs : WatS C w m (afterSet L ⟨n, t⟩) W) : TiesS C w m t (k + 1) (afterSet L ⟨n, t⟩) W := by
  refine ⟨hs, ?_, ?_⟩
  · unfold afterSet
    rw [hok]
    intro x hx
    rcases set_mem hx with rfl | hx
    · rfl
    · exact h.at' x hx
  · unfold afterSet
    rw [hok]
    constructor
    · intro h0; exact absurd h0 (set_ne _ _)
    · intro h0; omega
theorem ties_due {L : List Mo} {t : Int} (h : ∀ x ∈ L, x.t = t) : dueM L t = L ∧ restM L t = [] := by
  unfold dueM restM
  refine ⟨?_, ?_⟩
  · rw [List.filter_eq_self]
    intro x hx
    simp [h x hx]
  · rw [List.filter_eq_nil_iff]
    intro x hx
    simp [h x hx]
theorem ties_rise {L : List Mo} {t : Int} (hs : SortedM L) (h : ∀ x ∈ L, x.t = t) {r : Nat} {a b : Int} (ha : (L.map Mo.n)[r]? = some a) (hb : (L.map Mo.n)[r + 1]? = some b) : a < b := by
  rw [List.getElem?_map] at ha hb
  obtain ⟨x, hx, rfl⟩ := Option.map_eq_some_iff.1 ha
  obtain ⟨y, hy, rfl⟩ := Option.map_eq_some_iff.1 hb
  obtain ⟨h1, rfl⟩ := List.getElem?_eq_some_iff.1 hx
  obtain ⟨h2, rfl⟩ := List.getElem?_eq_some_iff.1 hy
  have hl := List.pairwise_iff_getElem.1 hs r (r + 1) h1 h2 (by omega)
  rw [lessM_iff] at hl
  have e1 := h _ (List.getElem_mem h1)
  have e2 := h _ (List.getElem_mem h2)
  omega

set_option maxHeartbeats 1000000 in
set_option maxRecDepth 100000 in
theorem tiesLawW_any (C : WatC) (v : Value) (l : List Int) (z : Int) (w : World) (hv : RowAt elemI w v l) (hl : l.length ≤ 140737488351232) : Gives Try.prog 8 #[v, .int .i64 z] w (.bool true) := by
  unfold Gives
  obtain ⟨p, cap, rfl, -⟩ := rowI_form hv
  obtain ⟨t, ht0, ht1, htw, htt⟩ := mod_in 1099511627776 (by decide) (by decide) z
  have HV := Lib.hid hv
  have HT := Lib.hid htw
  have HAw := Lib.hid (awakeW_any C)
  have HN := Lib.hid (newW_any (C := C) (ext_refl w))
  clear hv htw htt
  obtain ⟨n, hn⟩ : ∃ n, l.length = n := ⟨_, rfl⟩
  have HNL := Lib.hid hn
  rw [hn] at hl ⊢
  clear hn
  go_enter Try.func8, Try.ntmps8
  by_cases hb : 60 < n
  · have hd : decide ((60 : Int) < (n : Int)) = true := by rw [decide_eq_true_eq]; omega
    go_wp2_with fail
    refine Gives.mono' (HAw.out _) ?_
    intro x
    go_wp2_with fail
    go_ret
    exact ⟨rfl, Later.ex x.below⟩
  · have hd : decide ((60 : Int) < (n : Int)) = false := by rw [decide_eq_false_iff_not]; omega
    go_upto_region 4 with fail
    rw [HT.out]
    go_wp2_with fail
    refine HN.out.mono ?_
    rintro e w1 ⟨m, rfl, hs⟩
    have HS := Lib.hid (⟨hs, fun x h => by simp at h, by simp⟩ : TiesS C w m t 0 [] w1)
    clear hs HN
    go_wp2_with fail
    go_loopw [21] (fun v21 wr => ∃ k : Nat, k ≤ n ∧ v21 = .int .i64 k ∧ ∃ L, Hid (TiesS C w m t k L wr)) (fun v21 _ => n - (intOf v21).toNat)
    case atStart => exact ⟨0, by omega, rfl, [], HS⟩
    case round =>
      obtain ⟨k, hk, rfl, L, HL⟩ := hrel
      clear HS
      by_cases hkl : k < n
      · obtain ⟨c, hkc⟩ : ∃ c, l[k]? = some c := ⟨_, List.getElem?_eq_getElem (by have := HNL.out; omega)⟩
        obtain ⟨b, o, rfl, a0⟩ := cellI (HV.out.below HL.out.s.below) hkc
        obtain ⟨i, hi0, hi1, hiw, hit⟩ := mod_in 1000 (by decide) (by decide) c
        have hok : okM ⟨i, t⟩ = true := by simp only [okM, decide_eq_true_eq]; omega
        have h1 := setW_any HL.out.s i t
        unfold SetW at h1
        have H1 := Lib.hid h1
        have HO := Lib.hid hok
        have HI := Lib.hid hiw
        clear h1 hok hiw hit hkc hi0 hi1
        go_wp2_with fail
        rw [HI.out]
        refine H1.out.mono ?_
        rintro e w2 ⟨rfl, hs⟩
        have HS2 := Lib.hid (ties_next HL.out HO.out hs)
        clear hs H1
        go_wp2_with fail
        go_roundw
        case rel => exact ⟨k + 1, by omega, by go_num, _, HS2⟩
        case measure => simp [intOf]; omega
      · obtain rfl : k = n := by omega
        have h1 := dueW_any HL.out.s t
        unfold DueW at h1
        rw [(ties_due HL.out.at').1, (ties_due HL.out.at').2] at h1
        have hlen : (L.map Mo.n).length ≤ 1000 := by rw [List.length_map]; exact HL.out.s.fine.len
        have HR : Hid (∀ r a b, (L.map Mo.n)[r]? = some a → (L.map Mo.n)[r + 1]? = some b → a < b) := Lib.hid fun r a b => ties_rise HL.out.s.fine.sorted HL.out.at'
        have hiff : 0 < (L.map Mo.n).length ↔ 0 < k := by
          have := HL.out.some'
          rw [List.length_map]
          cases L with
          | nil => have := this.1 rfl; subst this; simp
          | cons x r => have : k ≠ 0 := fun h => absurd (this.2 h) (by simp); simp; omega
        obtain ⟨N, hN⟩ : ∃ N, L.map Mo.n = N := ⟨_, rfl⟩
        rw [hN] at h1 hlen HR hiff
        have H1 := Lib.hid h1
        have HB := Lib.hid hiff
        clear h1 HL hN hiff
        go_wp2_with fail
        refine H1.out.mono ?_
        rintro e w3 ⟨p3, c3, rfl, hr, hs⟩
        have HRow := Lib.hid hr.1
        have HS3 := Lib.hid hs
        have HBl := Lib.hid hs.below
        clear hs hr H1
        go_wp2_with fail
        go_loopw [9] (fun v9 wz => ∃ r : Nat, v9 = .int .i64 ((r : Int) + 1) ∧ r ≤ N.length ∧ ∃ x : Later w3, wz = x.w) (fun v9 _ => N.length + 1 - (intOf v9).toNat)
        case atStart => exact ⟨0, rfl, by omega, ⟨w3, Below.refl _ _⟩, rfl⟩
        case round =>
          obtain ⟨r, rfl, hrN, x, rfl⟩ := hrel
          by_cases hrl : r + 1 < N.length
          · obtain ⟨c, hkc⟩ : ∃ c, N[r + 1]? = some c := ⟨_, List.getElem?_eq_getElem hrl⟩
            obtain ⟨a, hka⟩ : ∃ a, N[r]? = some a := ⟨_, List.getElem?_eq_getElem (by omega)⟩
            have hlt := HR.out r a c hka hkc
            obtain ⟨b, o, rfl, a0⟩ := cellI (HRow.out.below x.below) hka
            obtain ⟨b', o', he, a1⟩ := cellI (HRow.out.below x.below) hkc
            obtain ⟨rfl, rfl⟩ : b = b' ∧ o = o' := by injection he with h; injection h with h1 h2; exact ⟨h1, h2⟩
            have hd2 : decide (c ≤ a) = false := by rw [decide_eq_false_iff_not]; omega
            have hwr : IntKind.i64.wrap (r : Int) = r := by unfold IntKind.wrap; simp [IntKind.signed, IntKind.bits]; omega
            have HU1 := Lib.hid hkc
            have HU2 := Lib.hid hka
            clear hkc hka he hlt
            go_upto_region 14 with fail
            go_quiet (fail)
            go_wp2_with fail
            go_roundw
            case rel => exact ⟨r + 1, by go_num, by omega, Later.ex (ext_drewN x.below _)⟩
            case measure => simp [intOf]; omega
          · go_wp2_with fail
            refine Gives.on (lenW_any (HS3.out.later x)) ?_
            intro y
            rw [show (([] : List Mo).length : Int) = 0 from rfl]
            have hiff : 0 < N.length ↔ 0 < k := HB.out
            go_wp2_with fail
            refine Gives.on (HAw.out _) ?_
            intro y2
            go_wp2_with fail
            go_ret
            exact ⟨rfl, Later.ex (below_later HBl.out HBl.out.size y2)⟩
end Go.Proofs.Ytcmidomgnbodiaa
