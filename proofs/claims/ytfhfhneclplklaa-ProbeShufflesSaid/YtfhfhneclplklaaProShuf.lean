/- The landed probe: Shuffle, Some. -/
import Derived.Test.YtfhfhneclplklaaPro
namespace Go.Proofs.Ytfhfhneclplklaa
open Go Go.RowKit

theorem drawn_wrapU (x : Int) (i : Nat) (hx0 : 0 ≤ x) (hi : i ≤ 1000) : (x / 8589934592).tmod ((i : Int) + 1) = (drawn x i : Int) := by
  have h0 : 0 ≤ x / 8589934592 := Int.ediv_nonneg hx0 (by decide)
  rw [Int.tmod_eq_emod_of_nonneg h0]
  have h1 := Int.emod_nonneg (x / 8589934592) (show ((i : Int) + 1) ≠ 0 by omega)
  unfold drawn
  omega

set_option maxHeartbeats 4000000 in
set_option maxRecDepth 100000 in
theorem proShuf_any (v : Value) (l : List Int) (draw : Int) (w : World) (hs : SrcI w v l) (hl : l.length * 8 ≤ 140737488351232) (h0 : 0 ≤ draw) (h1 : draw < 18446744073709551616) : Calls Try.prog 11 #[v, .int .u64 draw] w (ShufEnd l draw w) := by
  obtain ⟨p, cap, rfl, hcap, hpc⟩ := hs.2
  obtain ⟨K, hK, hK1, hK2⟩ : ∃ K : Nat, K = min 64 l.length ∧ K ≤ l.length ∧ K ≤ 64 := ⟨_, rfl, by omega, by omega⟩
  have HT : Hid (l.take 64 = l.take K) := Lib.hid (by
    rw [hK]
    by_cases h : 64 ≤ l.length
    · rw [Nat.min_eq_left h]
    · rw [Nat.min_eq_right (by omega), List.take_of_length_le (by omega), List.take_length])
  obtain ⟨M, hM⟩ : ∃ M, l.take K = M := ⟨_, rfl⟩
  have hlen : M.length = K := by rw [← hM, List.length_take]; omega
  have HS0 := srcI_take hs hK1
  rw [hM] at HS0 HT
  have HC := Lib.hid (clone_any (.slice p K cap) M w HS0 (by omega))
  unfold CopyEnd at HC
  have HLen := Lib.hid hlen
  have hKc : K ≤ cap := by omega
  have hM64 : M.length ≤ 64 := by omega
  have hq : (l.length ≤ 64 ∧ K = l.length) ∨ (64 < l.length ∧ K = 64) := by omega
  clear hs hK HS0 hM hlen
  go_enter Try.func11, Try.ntmps11
  rcases hq with ⟨hq1, hq2⟩ | ⟨hq1, hq2⟩
  all_goals
    subst hq2
    go_wp2_with fail
    refine HC.out.mono ?_
    rintro e w1 ⟨u, rfl, hm⟩
    obtain ⟨p1, c1, rfl⟩ := ownsRow_form hm.1
    have HM := Lib.hid hm
    clear hm
    go_wp2_with fail
    go_loopw [6, 7, 8] (fun v6 v7 _ wr => ∃ (iv : Int) (x : Int) (m : List Int), v7 = .int .i64 iv ∧ -1 ≤ iv ∧ iv < (M.length : Int) ∧ v6 = .int .u64 x ∧ (0 ≤ x ∧ x < 18446744073709551616) ∧ m.length = M.length ∧ MadeI w wr (.slice p1 M.length c1) m ∧ shufFrom iv.toNat x m = shufFrom (M.length - 1) draw M) (fun _ v7 _ _ => (intOf v7).toNat)
    case atStart => exact ⟨(M.length : Int) - 1, draw, M, by go_num, by omega, by omega, rfl, ⟨h0, h1⟩, rfl, HM.out, by congr 1; omega⟩
    case round =>
      clear HM
      obtain ⟨iv, x, m, rfl, hi1, hi2, rfl, ⟨hx0, hx1⟩, hml, hmade, hsh⟩ := hrel
      have HMd := Lib.hid hmade
      have HSh := Lib.hid hsh
      have HMl := Lib.hid hml
      clear hmade hsh hml
      by_cases hiv : 0 < iv
      · obtain ⟨I, rfl⟩ : ∃ I : Nat, iv = (I : Int) := ⟨iv.toNat, by omega⟩
        obtain ⟨i, hIi⟩ : ∃ i, I = i + 1 := ⟨I - 1, by omega⟩
        have gi : decide ((1 : Int) ≤ (I : Int)) = true := by simp <;> omega
        have hSh' : shufFrom i (lcg x) (swapI m I (drawn (lcg x) I)) = shufFrom (M.length - 1) draw M := by
          have := HSh.out
          rw [Int.toNat_natCast, hIi] at this
          rw [hIi]
          exact this
        have HIi := Lib.hid hIi
        have hI1 : 1 ≤ I := by omega
        have HStep := Lib.hid (step_any x wr)
        clear hIi
        go_wp2_with fail
        refine Gives.mono' HStep.out ?_
        intro x3
        have HMd3 := Lib.hid (HMd.out.later x3)
        go_upto_region 8 with fail
        rw [drawn_wrapU (lcg x) I (lcg_range x).1 (by omega)]
        have hJ := drawn_le (lcg x) I
        have hr := lcg_range x
        obtain ⟨X, hX⟩ : ∃ X, lcg x = X := ⟨_, rfl⟩
        rw [hX] at hr hJ hSh' ⊢
        obtain ⟨J, hJe⟩ : ∃ J, drawn X I = J := ⟨_, rfl⟩
        rw [hJe] at hJ hSh' ⊢
        have HS2 := Lib.hid hSh'
        have hml := HMl.out
        obtain ⟨g, cap', hv, hge, hgl, hfz, hcl⟩ := HMd3.out.open (by omega)
        obtain ⟨rfl, -, rfl⟩ := Value.slice.inj hv
        obtain ⟨a, ha⟩ : ∃ a, m[I]? = some a := ⟨_, List.getElem?_eq_getElem (by omega)⟩
        obtain ⟨b, hb⟩ : ∃ b, m[J]? = some b := ⟨_, List.getElem?_eq_getElem (by omega)⟩
        have e0 := hcl _ _ ha
        have e1 := hcl _ _ hb
        have z0 := hfz I
        have z1 := hfz J
        have HSw := Lib.hid (HMd3.out.swap hml ha hb)
        obtain ⟨hr0, hr1⟩ := hr
        have hiM : I < M.length := by omega
        have hJM : J < M.length := by omega
        clear hSh' hX hJe hv hfz hcl hml HSh HMd HMd3 hi1 hi2 hiv gi HStep
        by_cases hij : I = J
        · subst hij
          obtain rfl : a = b := by rw [ha] at hb; exact Option.some.inj hb
          clear e1 z1 hb ha
          go_region_law (fail)
          all_goals
            go_wp2_with fail
            go_roundw
            case rel => exact ⟨(I : Int) - 1, X, _, by go_num, by omega, by omega, rfl, ⟨hr0, hr1⟩, by rw [swapI_len]; exact HMl.out, HSw.out, by rw [show ((I : Int) - 1).toNat = i from by have := HIi.out; omega]; exact HS2.out⟩
            case measure => simp [intOf]; omega
        · have n0 : ¬ J = I := fun e => hij e.symm
          clear hb ha
          go_region_law (fail)
          all_goals
            go_wp2_with fail
            go_roundw
            case rel => exact ⟨(I : Int) - 1, X, _, by go_num, by omega, by omega, rfl, ⟨hr0, hr1⟩, by rw [swapI_len]; exact HMl.out, HSw.out, by rw [show ((I : Int) - 1).toNat = i from by have := HIi.out; omega]; exact HS2.out⟩
            case measure => simp [intOf]; omega
      · have hsz : iv.toNat = 0 := by omega
        have HF : Hid (m = shuf l draw) := Lib.hid (by
          have := HSh.out
          rw [hsz] at this
          unfold shuf
          rw [HT.out, ← this]
          rfl)
        have HR := Lib.hid (show MadeI w wr (.slice p1 M.length c1) (shuf l draw) from by rw [← HF.out]; exact HMd.out)
        have gi : decide ((1 : Int) ≤ iv) = false := by simp <;> omega
        go_wp2_with fail
        go_ret
        exact ⟨_, rfl, HR.out⟩
end Go.Proofs.Ytfhfhneclplklaa
