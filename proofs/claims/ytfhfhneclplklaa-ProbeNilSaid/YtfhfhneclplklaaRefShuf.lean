/- The reference's Shuffle. -/
import Derived.Test.YtfhfhneclplklaaIntFns
namespace Go.Proofs.Ytfhfhneclplklaa
open Go Go.RowKit

theorem wrap_u64 (n : Int) : IntKind.u64.wrap n = n % 18446744073709551616 := by
  unfold IntKind.wrap
  simp [IntKind.signed, IntKind.bits]
theorem lcg_wrap (x : Int) : IntKind.u64.wrap (IntKind.u64.wrap (x * 6364136223846793005) + 1442695040888963407) = lcg x := by
  rw [wrap_u64, wrap_u64]
  unfold lcg
  rw [Int.emod_add_emod, Int.mul_comm]
theorem drawn_wrap (x : Int) (i : Nat) (hx0 : 0 ≤ x) (hi : i ≤ 1000) : wrap64 ((x / 8589934592).tmod ((i : Int) + 1)) = (drawn x i : Int) := by
  have h0 : 0 ≤ x / 8589934592 := Int.ediv_nonneg hx0 (by decide)
  rw [Int.tmod_eq_emod_of_nonneg h0]
  have h1 := Int.emod_nonneg (x / 8589934592) (show ((i : Int) + 1) ≠ 0 by omega)
  have h2 := Int.emod_lt_of_pos (x / 8589934592) (show (0 : Int) < (i : Int) + 1 by omega)
  unfold drawn
  obtain ⟨r, hr⟩ : ∃ r, x / 8589934592 % ((i : Int) + 1) = r := ⟨_, rfl⟩
  rw [hr] at h1 h2 ⊢
  unfold wrap64
  omega
theorem MadeI.swap {w0 W : World} {g cap n : Nat} {l : List Int} (h : MadeI w0 W (.slice (some ⟨g, 0, none⟩) n cap) l) (hn : l.length = n) {i j : Nat} {a b : Int} (hi : l[i]? = some a) (hj : l[j]? = some b) :
    MadeI w0 ((W.setCell ⟨g, i, none⟩ (.int .i64 b)).setCell ⟨g, j, none⟩ (.int .i64 a)).drew (.slice (some ⟨g, 0, none⟩) n cap) (swapI l i j) := by
  subst hn
  have hil := (List.getElem?_eq_some_iff.1 hi).1
  have hjl := (List.getElem?_eq_some_iff.1 hj).1
  rw [swapI_some hi hj]
  have h1 := h.set hil b
  have h2 := h1.set (k := j) (by simpa using hjl) a
  have h3 := h2.later ⟨_, ext_drew (ext_refl _)⟩
  simp only [List.length_set] at h3
  exact h3

def ShufEnd (l : List Int) (draw : Int) (w : World) (e : Ending) (w' : World) : Prop := ∃ u, e = .returned u ∧ MadeI w w' u (shuf l draw)

set_option maxHeartbeats 4000000 in
set_option maxRecDepth 100000 in
theorem refShuf_any (v : Value) (l : List Int) (draw : Int) (w : World) (hs : SrcI w v l) (hl : l.length * 8 ≤ 140737488351232) (h0 : 0 ≤ draw) (h1 : draw < 18446744073709551616) : Calls Try.prog 12 #[v, .int .u64 draw] w (ShufEnd l draw w) := by
  obtain ⟨p, cap, rfl, hcap, hpc⟩ := hs.2
  obtain ⟨K, hK, hK1, hK2⟩ : ∃ K : Nat, K = min 64 l.length ∧ K ≤ l.length ∧ K ≤ 64 := ⟨_, rfl, by omega, by omega⟩
  have HT : Hid (l.take 64 = l.take K) := Lib.hid (by
    rw [hK]
    by_cases h : 64 ≤ l.length
    · rw [Nat.min_eq_left h]
    · rw [Nat.min_eq_right (by omega), List.take_of_length_le (by omega), List.take_length])
  obtain ⟨M, hM⟩ : ∃ M, l.take K = M := ⟨_, rfl⟩
  have hlen : M.length = K := by rw [← hM, List.length_take]; omega
  have HS0 := srcI_take hs hK1
  rw [hM] at HS0 HT
  have HS := Lib.hid HS0
  have HLen := Lib.hid hlen
  have HB : Hid (M.length * 8 ≤ 140737488355328) := Lib.hid (by omega)
  have hKc : K ≤ cap := by omega
  have hM64 : M.length ≤ 64 := by omega
  have hq : (l.length ≤ 64 ∧ K = l.length) ∨ (64 < l.length ∧ K = 64) := by omega
  clear hs hK HS0 hM hlen
  go_enter Try.func12, Try.ntmps12
  rcases hq with ⟨hq1, hq2⟩ | ⟨hq1, hq2⟩
  all_goals
    subst hq2
    go_wp2_with (at_builtin; refine wpListI_append (xs := []) (l := M) rfl _ _ rfl rfl rfl (madeI_nil (Below.refl w.heap.size w)) HS.out (by simpa using HB.out) ?_; intro v' w1 hm; rw [List.nil_append] at hm; obtain ⟨p1, c1, rfl⟩ := ownsRow_form hm.1; have HM := Lib.hid hm; clear hm)
    go_loopw [6, 7] (fun v6 v7 wr => ∃ (iv : Int) (x : Int) (m : List Int), v7 = .int .i64 iv ∧ -1 ≤ iv ∧ iv < (M.length : Int) ∧ v6 = .int .u64 x ∧ (0 ≤ x ∧ x < 18446744073709551616) ∧ m.length = M.length ∧ MadeI w wr (.slice p1 M.length c1) m ∧ shufFrom iv.toNat x m = shufFrom (M.length - 1) draw M) (fun _ v7 _ => (intOf v7).toNat)
    case atStart => exact ⟨(M.length : Int) - 1, draw, M, by go_num, by omega, by omega, rfl, ⟨h0, h1⟩, rfl, HM.out, by congr 1; omega⟩
    case round =>
      clear HM
      obtain ⟨iv, x, m, rfl, hi1, hi2, rfl, ⟨hx0, hx1⟩, hml, hmade, hsh⟩ := hrel
      have HMd := Lib.hid hmade
      have HSh := Lib.hid hsh
      have HMl := Lib.hid hml
      clear hmade hsh hml
      by_cases hiv : 0 < iv
      · obtain ⟨I, rfl⟩ : ∃ I : Nat, iv = (I : Int) := ⟨iv.toNat, by omega⟩
        obtain ⟨i, hIi⟩ : ∃ i, I = i + 1 := ⟨I - 1, by omega⟩
        have gi : decide ((0 : Int) < (I : Int)) = true := by simp <;> omega
        have hSh' : shufFrom i (lcg x) (swapI m I (drawn (lcg x) I)) = shufFrom (M.length - 1) draw M := by
          have := HSh.out
          rw [Int.toNat_natCast, hIi] at this
          rw [hIi]
          exact this
        have HIi := Lib.hid hIi
        have hI1 : 1 ≤ I := by omega
        clear hIi
        go_upto_region 8 with fail
        rw [lcg_wrap, drawn_wrap (lcg x) I (lcg_range x).1 (by omega)]
        have hr := lcg_range x
        have hJ := drawn_le (lcg x) I
        obtain ⟨X, hX⟩ : ∃ X, lcg x = X := ⟨_, rfl⟩
        rw [hX] at hr hJ hSh' ⊢
        obtain ⟨J, hJe⟩ : ∃ J, drawn X I = J := ⟨_, rfl⟩
        rw [hJe] at hJ hSh' ⊢
        have HS2 := Lib.hid hSh'
        have hml := HMl.out
        obtain ⟨g, cap', hv, hge, hgl, hfz, hcl⟩ := HMd.out.open (by omega)
        obtain ⟨rfl, -, rfl⟩ := Value.slice.inj hv
        obtain ⟨a, ha⟩ : ∃ a, m[I]? = some a := ⟨_, List.getElem?_eq_getElem (by omega)⟩
        obtain ⟨b, hb⟩ : ∃ b, m[J]? = some b := ⟨_, List.getElem?_eq_getElem (by omega)⟩
        have e0 := hcl _ _ ha
        have e1 := hcl _ _ hb
        have z0 := hfz I
        have z1 := hfz J
        have HSw := Lib.hid (HMd.out.swap hml ha hb)
        obtain ⟨hr0, hr1⟩ := hr
        have hiM : I < M.length := by omega
        have hJM : J < M.length := by omega
        clear hSh' hX hJe hv hfz hcl hml HSh HMd hi1 hi2 hiv gi
        by_cases hij : I = J
        · subst hij
          obtain rfl : a = b := by rw [ha] at hb; exact Option.some.inj hb
          clear e1 z1 hb ha
          go_region_law (fail)
          all_goals
            go_wp2_with fail
            go_roundw
            case rel => exact ⟨(I : Int) - 1, X, _, by go_num, by omega, by omega, rfl, ⟨hr0, hr1⟩, by rw [swapI_len]; exact HMl.out, HSw.out, by rw [show ((I : Int) - 1).toNat = i from by have := HIi.out; omega]; exact HS2.out⟩
            case measure => simp [intOf]; omega
        · have n0 : ¬ J = I := fun e => hij e.symm
          clear hb ha
          go_region_law (fail)
          all_goals
            go_wp2_with fail
            go_roundw
            case rel => exact ⟨(I : Int) - 1, X, _, by go_num, by omega, by omega, rfl, ⟨hr0, hr1⟩, by rw [swapI_len]; exact HMl.out, HSw.out, by rw [show ((I : Int) - 1).toNat = i from by have := HIi.out; omega]; exact HS2.out⟩
            case measure => simp [intOf]; omega
      · have hsz : iv.toNat = 0 := by omega
        have HF : Hid (m = shuf l draw) := Lib.hid (by
          have := HSh.out
          rw [hsz] at this
          unfold shuf
          rw [HT.out, ← this]
          rfl)
        have HR := Lib.hid (show MadeI w wr (.slice p1 M.length c1) (shuf l draw) from by rw [← HF.out]; exact HMd.out)
        go_wp2_with fail
        go_ret
        exact ⟨_, rfl, HR.out⟩
end Go.Proofs.Ytfhfhneclplklaa
