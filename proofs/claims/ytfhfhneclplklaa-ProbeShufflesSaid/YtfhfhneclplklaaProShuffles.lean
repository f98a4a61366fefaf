/- ProbeShuffles' walk. -/
import Derived.Test.YtfhfhneclplklaaProSt
import Derived.Test.YtfhfhneclplklaaOpenInts
namespace Go.Proofs.Ytfhfhneclplklaa
open Go Go.RowKit

theorem count_up {l : List Int} {i : Nat} {y x : Int} (h : l[i]? = some y) : (l.take (i + 1)).count x = (l.take i).count x + if (y == x) = true then 1 else 0 := by
  rw [List.take_add_one, h, List.count_append]
  simp [List.count_singleton]
theorem count_le (l : List Int) (i : Nat) (x : Int) : (l.take i).count x ≤ i := Nat.le_trans List.count_le_length (by rw [List.length_take]; omega)

set_option maxHeartbeats 4000000 in
set_option maxRecDepth 100000 in
theorem shufLaw_any (v : Value) (l : List Int) (draw k : Int) (w : World) (hs : SrcI w v l) (hm : l.length * 8 ≤ 140737488351232) (h0 : 0 ≤ draw) (h1 : draw < 18446744073709551616) (_hk : (Lit.int .i64 k).wf = true) :
    Gives Try.prog 6 #[v, .int .u64 draw, .int .i64 k] w (.bool true) := by
  unfold Gives
  have HSh := Lib.hid (fun (W : World) (hb : Below w.heap.size w W) => proShuf_any v l draw W (hs.below hb) hm h0 h1)
  have HSo := Lib.hid (fun (W : World) (hb : Below w.heap.size w W) => proSome_any v l k draw W (hs.below hb) hm h0 h1)
  have HAw := Lib.hid awake_any
  have HL := Lib.hid hs.1
  obtain ⟨p, cap, rfl, hp⟩ := hs.1.form
  have HP := Lib.hid hp
  clear hs hp
  by_cases hl : 64 < l.length
  · go_enter Try.func6, Try.ntmps6
    go_wp2_with fail
    refine Gives.mono' (HAw.out _) ?_
    intro z
    go_wp2_with fail
    go_ret
    exact ⟨rfl, Later.ex (by repeat (first | exact ext_refl _ | refine ext_later ?_ _ | refine ext_alloc ?_ _ | refine ext_drew ?_ | refine ext_drewN ?_ _))⟩
  · have hlen := shuf_len l draw
    rw [Nat.min_eq_right (by omega)] at hlen
    have hperm := shuf_perm l draw
    rw [List.take_of_length_le (by omega)] at hperm
    obtain ⟨A, hA⟩ : ∃ A, shuf l draw = A := ⟨_, rfl⟩
    have hso : some' l k draw = A.take k.toNat := by unfold some'; rw [hA]
    unfold ShufEnd at HSh
    unfold SomeEnd at HSo
    rw [hso] at HSo
    rw [hA] at HSh hlen hperm
    have HPerm := Lib.hid hperm
    have HLen := Lib.hid hlen
    clear hA hso hperm hlen
    go_enter Try.func6, Try.ntmps6
    go_wp2_with fail
    refine (HSh.out _ (by repeat (first | exact ext_refl _ | refine ext_later ?_ _ | refine ext_alloc ?_ _ | refine ext_drew ?_ | refine ext_drewN ?_ _))).mono ?_
    rintro e w1 ⟨ua, rfl, hma⟩
    obtain ⟨pa, ca, rfl⟩ := ownsRow_form hma.1
    have hca : A.length ≤ ca := by
      obtain ⟨_, p', cap', e, h1, _⟩ := hma.src
      obtain ⟨_, _, rfl⟩ := Value.slice.inj e
      exact h1
    have HA := Lib.hid hma.src
    have HB1 := Lib.hid hma.2
    rw [HLen.out] at hca ⊢
    clear hma
    go_wp2_with fail
    refine (HSh.out _ HB1.out).mono ?_
    rintro e w2 ⟨ub, rfl, hmb⟩
    obtain ⟨pb, cb, rfl⟩ := ownsRow_form hmb.1
    have HSame := Lib.hid (sameI_any (.slice pa A.length ca) (.slice pb A.length cb) A w2 (HA.out.1.below hmb.2) hmb.list (by have := HLen.out; omega))
    have HB2 := Lib.hid (HB1.out.trans (hmb.2.mono HB1.out.size))
    have HA2 := Lib.hid (HA.out.below hmb.2)
    rw [HLen.out] at HSame ⊢
    clear hmb
    go_wp2_with fail
    refine Gives.mono' HSame.out ?_
    intro x3
    have HB3 := Lib.hid (below_later HB2.out HB2.out.size x3)
    have HA3 := Lib.hid (HA2.out.below x3.below)
    obtain ⟨w3, hw3⟩ : ∃ W, x3.w = W := ⟨_, rfl⟩
    rw [hw3] at HB3 HA3 ⊢
    clear hw3 HSame HA HA2 HB1 HB2
    rw [HLen.out] at HA3
    go_wp2_with fail
    go_loopw [35] (fun v35 wr => ∃ q : Nat, v35 = .int .i64 q ∧ q ≤ l.length ∧ ∃ x : Later w3, wr = x.w) (fun v35 _ => l.length - (intOf v35).toNat)
    case atStart => exact ⟨0, rfl, by omega, ⟨w3, Below.refl _ _⟩, rfl⟩
    case round =>
      obtain ⟨q, rfl, hq, x, rfl⟩ := hrel
      by_cases hql : q < l.length
      · obtain ⟨c, hqc⟩ : ∃ c, l[q]? = some c := ⟨_, List.getElem?_eq_getElem hql⟩
        rcases HP.out with e0 | ⟨b, o, rfl, hlt, hc⟩
        · rw [e0] at hql; simp at hql
        have a0 : x.w.cell? ⟨b, o + q, none⟩ = some (.int .i64 c) := ((HB3.out.trans (x.below.mono HB3.out.size)).cell (p := ⟨b, _, none⟩) hlt).trans (hc q c hqc)
        have hqd : decide ((q : Int) < (l.length : Int)) = true := by simp; omega
        have HC := Lib.hid hc
        have hlt3 : b < w3.heap.size := Nat.lt_of_lt_of_le hlt HB3.out.size
        clear hc hqc
        go_wp2_with fail
        go_loopw [10, 41] (fun v10 v41 wz => ∃ i : Nat, v41 = .int .i64 i ∧ i ≤ l.length ∧ v10 = .int .i64 (((l.take i).count c : Int) - ((A.take i).count c : Int)) ∧ ∃ y : Later w3, wz = y.w) (fun _ v41 _ => l.length - (intOf v41).toNat)
        case atStart => exact ⟨0, rfl, by omega, by simp, x, rfl⟩
        case round =>
          obtain ⟨i, rfl, hi, rfl, y, rfl⟩ := hrel
          by_cases hil : i < l.length
          · obtain ⟨s, hsi⟩ : ∃ c, l[i]? = some c := ⟨_, List.getElem?_eq_getElem hil⟩
            obtain ⟨t, hti⟩ : ∃ c, A[i]? = some c := ⟨_, List.getElem?_eq_getElem (by have := HLen.out; omega)⟩
            have b0 : y.w.cell? ⟨b, o + i, none⟩ = some (.int .i64 s) := ((HB3.out.trans (y.below.mono HB3.out.size)).cell (p := ⟨b, _, none⟩) hlt).trans (HC.out i s hsi)
            have hU1 := count_up (x := c) hsi
            have hU2 := count_up (x := c) hti
            have hN1 := count_le l i c
            have hN2 := count_le A i c
            obtain ⟨pa', ca', hv, hrow⟩ := (HA3.out.1.below y.below).form
            obtain ⟨rfl, -, rfl⟩ := Value.slice.inj hv
            rcases hrow with e0 | ⟨b', o', rfl, hlt', hc'⟩
            · rw [e0] at hti; simp at hti
            have b1 := hc' i t hti
            have hid : decide ((i : Int) < (l.length : Int)) = true := by simp; omega
            obtain ⟨n1, hn1⟩ : ∃ n, (l.take i).count c = n := ⟨_, rfl⟩
            obtain ⟨n2, hn2⟩ : ∃ n, (A.take i).count c = n := ⟨_, rfl⟩
            rw [hn1] at hU1 hN1 ⊢
            rw [hn2] at hU2 hN2 ⊢
            have HU1 := Lib.hid hU1
            have HU2 := Lib.hid hU2
            clear hU1 hU2 hn1 hn2 hc' hti hsi hv
            cases g1 : (s == c) with
            | true =>
              cases g2 : (t == c) with
              | true =>
                rw [g1] at HU1
                rw [g2] at HU2
                go_wp2_with fail
                go_roundw
                case rel => exact ⟨i + 1, by go_num, by omega, by have e1 := HU1.out; have e2 := HU2.out; simp only [if_true] at e1 e2; rw [e1, e2]; go_num, y, rfl⟩
                case measure => simp [intOf]; omega
              | false =>
                rw [g1] at HU1
                rw [g2] at HU2
                go_wp2_with fail
                go_roundw
                case rel => exact ⟨i + 1, by go_num, by omega, by have e1 := HU1.out; have e2 := HU2.out; simp only [if_true, Bool.false_eq_true, if_false] at e1 e2; rw [e1, e2]; go_num, y, rfl⟩
                case measure => simp [intOf]; omega
            | false =>
              cases g2 : (t == c) with
              | true =>
                rw [g1] at HU1
                rw [g2] at HU2
                go_wp2_with fail
                go_roundw
                case rel => exact ⟨i + 1, by go_num, by omega, by have e1 := HU1.out; have e2 := HU2.out; simp only [if_true, Bool.false_eq_true, if_false] at e1 e2; rw [e1, e2]; go_num, y, rfl⟩
                case measure => simp [intOf]; omega
              | false =>
                rw [g1] at HU1
                rw [g2] at HU2
                go_wp2_with fail
                go_roundw
                case rel => exact ⟨i + 1, by go_num, by omega, by have e1 := HU1.out; have e2 := HU2.out; simp only [Bool.false_eq_true, if_false] at e1 e2; rw [e1, e2]; go_num, y, rfl⟩
                case measure => simp [intOf]; omega
          · obtain rfl : i = l.length := by omega
            have hz : ((l.take l.length).count c : Int) - ((A.take l.length).count c : Int) = 0 := by
              rw [List.take_length, List.take_of_length_le (by have := HLen.out; omega), HPerm.out.count_eq]
              omega
            rw [hz]
            go_wp2_with fail
            go_roundw
            case rel => exact ⟨q + 1, by go_num, by omega, y, rfl⟩
            case measure => simp [intOf]; omega
      · obtain rfl : q = l.length := by omega
        have HB4 := Lib.hid (HB3.out.trans (x.below.mono HB3.out.size))
        have HA4 := Lib.hid (HA3.out.below x.below)
        go_wp2_with fail
        refine (HSo.out _ HB4.out).mono ?_
        rintro e w5 ⟨us, rfl, hms⟩
        obtain ⟨ps, cs, rfl⟩ := ownsRow_form hms.1
        have HB5 := Lib.hid (HB4.out.trans (hms.2.mono HB4.out.size))
        have HA5 := Lib.hid (HA4.out.below hms.2)
        rcases (by omega : k < 0 ∨ (0 ≤ k ∧ k ≤ (l.length : Int)) ∨ (0 ≤ k ∧ (l.length : Int) < k)) with g | ⟨g, g'⟩ | ⟨g, g'⟩
        · have HS := Lib.hid (sameI_any (.slice ps 0 cs) (.slice pa 0 ca) [] w5 (.inl ⟨rfl, _, _, rfl⟩) (.inl ⟨rfl, _, _, rfl⟩) (by simp))
          have hn0 : (A.take k.toNat).length = 0 := by rw [show k.toNat = 0 from by omega]; simp
          rw [hn0]
          clear hms hn0
          go_wp2_with fail
          all_goals
            refine Gives.mono' HS.out ?_
            intro x6
            go_wp2_with fail
            refine Gives.mono' (HAw.out _) ?_
            intro x7
            go_wp2_with fail
            go_ret
            exact ⟨rfl, Later.ex (below_later (below_later HB5.out HB5.out.size x6) (Nat.le_trans HB5.out.size x6.below.size) x7)⟩
        · obtain ⟨K, rfl⟩ : ∃ K : Nat, k = K := ⟨k.toNat, by omega⟩
          have hKl : K ≤ l.length := by omega
          have hKc : K ≤ ca := by omega
          rw [Int.toNat_natCast] at hms ⊢
          have hn0 : (A.take K).length = K := by rw [List.length_take]; have := HLen.out; omega
          have h5 := hms.list
          rw [hn0] at h5 ⊢
          have HA6 := HA5.out
          rw [← HLen.out] at HA6
          have HS := Lib.hid (sameI_any (.slice ps K cs) (.slice pa K ca) (A.take K) w5 h5 (srcI_take HA6 (by have := HLen.out; omega)).1 (by rw [hn0]; omega))
          clear hms hn0 h5 HA6
          go_wp2_with fail
          all_goals
            refine Gives.mono' HS.out ?_
            intro x6
            go_wp2_with fail
            refine Gives.mono' (HAw.out _) ?_
            intro x7
            go_wp2_with fail
            go_ret
            exact ⟨rfl, Later.ex (below_later (below_later HB5.out HB5.out.size x6) (Nat.le_trans HB5.out.size x6.below.size) x7)⟩
        · have hn0 : A.take k.toNat = A := List.take_of_length_le (by have := HLen.out; omega)
          have h5 := hms.list
          rw [hn0] at h5 ⊢
          have HS := Lib.hid (sameI_any (.slice ps A.length cs) (.slice pa l.length ca) A w5 h5 HA5.out.1 (by have := HLen.out; omega))
          rw [HLen.out] at HS ⊢
          clear hms hn0 h5
          by_cases hl0 : l.length = 0
          · rw [hl0] at HS g' ⊢
            clear hl0
            go_wp2_with fail
            all_goals
              refine Gives.mono' HS.out ?_
              intro x6
              go_wp2_with fail
              refine Gives.mono' (HAw.out _) ?_
              intro x7
              go_wp2_with fail
              go_ret
              exact ⟨rfl, Later.ex (below_later (below_later HB5.out HB5.out.size x6) (Nat.le_trans HB5.out.size x6.below.size) x7)⟩
          · have hl1 : 0 < l.length := by omega
            have hl2 : (0 : Int) < (l.length : Int) := by omega
            go_wp2_with fail
            all_goals
              refine Gives.mono' HS.out ?_
              intro x6
              go_wp2_with fail
              refine Gives.mono' (HAw.out _) ?_
              intro x7
              go_wp2_with fail
              go_ret
              exact ⟨rfl, Later.ex (below_later (below_later HB5.out HB5.out.size x6) (Nat.le_trans HB5.out.size x6.below.size) x7)⟩
end Go.Proofs.Ytfhfhneclplklaa
