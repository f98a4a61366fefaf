/- MOrd: Pro, ProShuf, ProSome, ProPeers, ProDel, ProStrike, ProNext, ProAsk. -/
import Derived.Test.YtnkchmafofpimaaMOrdRef
import Derived.Lib.SliceRun
namespace Go.Proofs.Ytnkchmafofpimaa
section
open Go Go.RowKit
theorem uSlI : Try.prog.underlying 30 = some (.slice 3) := Try.underlying30
theorem eqlNilI (w : World) (a : Option Addr) (n c : Nat) : (binOp .eql 30 (.slice a n c) (.slice none 0 0)).run Try.prog w = .ok (.bool a.isNone) w := Go.Lib.run_eql_slice_nil w _ _ a n c 0 0 uSlI
def CopyEnd (l : List Int) (w : World) (e : Ending) (w' : World) : Prop := ∃ u, e = .returned u ∧ MadeI w w' u l
theorem madeI_made (w : World) : MadeI w (w.alloc (.cells #[] 3)) (.slice (some ⟨w.heap.size, 0, none⟩) 0 0) [] :=
  ⟨World.ownsRow_lit w #[] 0 (Nat.le_refl _) (by decide) rfl, ext_alloc (ext_refl w) _⟩
set_option maxHeartbeats 1000000 in
set_option maxRecDepth 100000 in
theorem clone_any (v : Value) (l : List Int) (w : World) (hs : SrcI w v l) (hl : l.length * 8 ≤ 140737488351232) : Calls Try.prog 33 #[v] w (CopyEnd l w) := by
  obtain ⟨p, cap, rfl, hcap, hpc⟩ := hs.2
  cases p with
  | none =>
    obtain rfl := hpc rfl
    obtain rfl : l = [] := List.eq_nil_of_length_eq_zero (by omega)
    have HE := Lib.hid (show CopyEnd [] w (.returned (.slice none 0 0)) w from ⟨_, rfl, madeI_nil (Below.refl _ _)⟩)
    clear hs
    have he := eqlNilI w none 0 0
    go_enter Try.func33, Try.ntmps33
    go_wp2_with fail
    go_ret
    exact HE.out
  | some a =>
    have hM0 : SrcI (w.alloc (.cells #[] 3)) (.slice (some a) l.length cap) l := hs.below (ext_alloc (ext_refl w) _)
    have HS := Lib.hid hM0
    have HM := Lib.hid (madeI_made w)
    have HB : Hid ((([] : List Int).length + l.length) * 8 ≤ 140737488355328) := Lib.hid (by simp; omega)
    have he := eqlNilI w (some a) l.length cap
    clear hs hM0
    go_enter Try.func33, Try.ntmps33
    go_wp2_with (at_builtin; refine wpListI_append (xs := []) (l := l) rfl _ _ rfl rfl rfl HM.out HS.out HB.out ?_; intro v' w1 hm; rw [List.nil_append] at hm; have HR := Lib.hid hm; clear hm)
    go_ret
    exact ⟨_, rfl, HR.out⟩
theorem lcg_wrap' (x : Int) : IntKind.u64.wrap (IntKind.u64.wrap (6364136223846793005 * x) + 1442695040888963407) = lcg x := by
  rw [Int.mul_comm, lcg_wrap]
set_option maxHeartbeats 400000 in
theorem step_any (x : Int) (w : World) : Gives Try.prog 69 #[.int .u64 x] w (.int .u64 (lcg x)) := by
  unfold Gives
  go_enter Try.func69, Try.ntmps69
  go_wp2_with fail
  go_ret
  exact ⟨by rw [lcg_wrap']; rfl, Later.ex (by repeat (first | exact ext_refl _ | refine ext_alloc ?_ _ | refine ext_later ?_ _ | refine ext_drew ?_ | refine ext_drewN ?_ _))⟩
end
section
open Go Go.RowKit
theorem drawn_wrapU (x : Int) (i : Nat) (hx0 : 0 ≤ x) (hi : i ≤ 1000) : (x / 8589934592).tmod ((i : Int) + 1) = (drawn x i : Int) := by
  have h0 : 0 ≤ x / 8589934592 := Int.ediv_nonneg hx0 (by decide)
  rw [Int.tmod_eq_emod_of_nonneg h0]
  have h1 := Int.emod_nonneg (x / 8589934592) (show ((i : Int) + 1) ≠ 0 by omega)
  unfold drawn
  omega
set_option maxHeartbeats 4000000 in
set_option maxRecDepth 100000 in
theorem proShuf_any (v : Value) (l : List Int) (draw : Int) (w : World) (hs : SrcI w v l) (hl : l.length * 8 ≤ 140737488351232) (h0 : 0 ≤ draw) (h1 : draw < 18446744073709551616) : Calls Try.prog 51 #[v, .int .u64 draw] w (ShufEnd l draw w) := by
  obtain ⟨p, cap, rfl, hcap, hpc⟩ := hs.2
  obtain ⟨K, hK, hK1, hK2⟩ : ∃ K : Nat, K = min 64 l.length ∧ K ≤ l.length ∧ K ≤ 64 := ⟨_, rfl, by omega, by omega⟩
  have HT : Hid (l.take 64 = l.take K) := Lib.hid (by
    rw [hK]
    by_cases h : 64 ≤ l.length
    · rw [Nat.min_eq_left h]
    · rw [Nat.min_eq_right (by omega), List.take_of_length_le (by omega), List.take_length])
  obtain ⟨M, hM⟩ : ∃ M, l.take K = M := ⟨_, rfl⟩
  have hlen : M.length = K := by rw [← hM, List.length_take]; omega
  have HS0 := srcI_take hs hK1
  rw [hM] at HS0 HT
  have HC := Lib.hid (clone_any (.slice p K cap) M w HS0 (by omega))
  unfold CopyEnd at HC
  have HLen := Lib.hid hlen
  have hKc : K ≤ cap := by omega
  have hM64 : M.length ≤ 64 := by omega
  have hq : (l.length ≤ 64 ∧ K = l.length) ∨ (64 < l.length ∧ K = 64) := by omega
  clear hs hK HS0 hM hlen
  go_enter Try.func51, Try.ntmps51
  rcases hq with ⟨hq1, hq2⟩ | ⟨hq1, hq2⟩
  all_goals
    subst hq2
    go_wp2_with fail
    refine HC.out.mono ?_
    rintro e w1 ⟨u, rfl, hm⟩
    obtain ⟨p1, c1, rfl⟩ := ownsRow_form hm.1
    have HM := Lib.hid hm
    clear hm
    go_wp2_with fail
    go_loopw [6, 7, 8] (fun v6 v7 _ wr => ∃ (iv : Int) (x : Int) (m : List Int), v7 = .int .i64 iv ∧ -1 ≤ iv ∧ iv < (M.length : Int) ∧ v6 = .int .u64 x ∧ (0 ≤ x ∧ x < 18446744073709551616) ∧ m.length = M.length ∧ MadeI w wr (.slice p1 M.length c1) m ∧ shufFrom iv.toNat x m = shufFrom (M.length - 1) draw M) (fun _ v7 _ _ => (intOf v7).toNat)
    case atStart => exact ⟨(M.length : Int) - 1, draw, M, by go_num, by omega, by omega, rfl, ⟨h0, h1⟩, rfl, HM.out, by congr 1; omega⟩
    case round =>
      clear HM
      obtain ⟨iv, x, m, rfl, hi1, hi2, rfl, ⟨hx0, hx1⟩, hml, hmade, hsh⟩ := hrel
      have HMd := Lib.hid hmade
      have HSh := Lib.hid hsh
      have HMl := Lib.hid hml
      clear hmade hsh hml
      by_cases hiv : 0 < iv
      · obtain ⟨I, rfl⟩ : ∃ I : Nat, iv = (I : Int) := ⟨iv.toNat, by omega⟩
        obtain ⟨i, hIi⟩ : ∃ i, I = i + 1 := ⟨I - 1, by omega⟩
        have gi : decide ((1 : Int) ≤ (I : Int)) = true := by simp <;> omega
        have hSh' : shufFrom i (lcg x) (swapI m I (drawn (lcg x) I)) = shufFrom (M.length - 1) draw M := by
          have := HSh.out
          rw [Int.toNat_natCast, hIi] at this
          rw [hIi]
          exact this
        have HIi := Lib.hid hIi
        have hI1 : 1 ≤ I := by omega
        have HStep := Lib.hid (step_any x wr)
        clear hIi
        go_wp2_with fail
        refine Gives.mono' HStep.out ?_
        intro x3
        have HMd3 := Lib.hid (HMd.out.later x3)
        go_upto_region 8 with fail
        rw [drawn_wrapU (lcg x) I (lcg_range x).1 (by omega)]
        have hJ := drawn_le (lcg x) I
        have hr := lcg_range x
        obtain ⟨X, hX⟩ : ∃ X, lcg x = X := ⟨_, rfl⟩
        rw [hX] at hr hJ hSh' ⊢
        obtain ⟨J, hJe⟩ : ∃ J, drawn X I = J := ⟨_, rfl⟩
        rw [hJe] at hJ hSh' ⊢
        have HS2 := Lib.hid hSh'
        have hml := HMl.out
        obtain ⟨g, cap', hv, hge, hgl, hfz, hcl⟩ := HMd3.out.open (by omega)
        obtain ⟨rfl, -, rfl⟩ := Value.slice.inj hv
        obtain ⟨a, ha⟩ : ∃ a, m[I]? = some a := ⟨_, List.getElem?_eq_getElem (by omega)⟩
        obtain ⟨b, hb⟩ : ∃ b, m[J]? = some b := ⟨_, List.getElem?_eq_getElem (by omega)⟩
        have e0 := hcl _ _ ha
        have e1 := hcl _ _ hb
        have z0 := hfz I
        have z1 := hfz J
        have HSw := Lib.hid (HMd3.out.swap hml ha hb)
        obtain ⟨hr0, hr1⟩ := hr
        have hiM : I < M.length := by omega
        have hJM : J < M.length := by omega
        clear hSh' hX hJe hv hfz hcl hml HSh HMd HMd3 hi1 hi2 hiv gi HStep
        by_cases hij : I = J
        · subst hij
          obtain rfl : a = b := by rw [ha] at hb; exact Option.some.inj hb
          clear e1 z1 hb ha
          go_region_law (fail)
          all_goals
            go_wp2_with fail
            go_roundw
            case rel => exact ⟨(I : Int) - 1, X, _, by go_num, by omega, by omega, rfl, ⟨hr0, hr1⟩, by rw [swapI_len]; exact HMl.out, HSw.out, by rw [show ((I : Int) - 1).toNat = i from by have := HIi.out; omega]; exact HS2.out⟩
            case measure => simp [intOf]; omega
        · have n0 : ¬ J = I := fun e => hij e.symm
          clear hb ha
          go_region_law (fail)
          all_goals
            go_wp2_with fail
            go_roundw
            case rel => exact ⟨(I : Int) - 1, X, _, by go_num, by omega, by omega, rfl, ⟨hr0, hr1⟩, by rw [swapI_len]; exact HMl.out, HSw.out, by rw [show ((I : Int) - 1).toNat = i from by have := HIi.out; omega]; exact HS2.out⟩
            case measure => simp [intOf]; omega
      · have hsz : iv.toNat = 0 := by omega
        have HF : Hid (m = shuf l draw) := Lib.hid (by
          have := HSh.out
          rw [hsz] at this
          unfold shuf
          rw [HT.out, ← this]
          rfl)
        have HR := Lib.hid (show MadeI w wr (.slice p1 M.length c1) (shuf l draw) from by rw [← HF.out]; exact HMd.out)
        have gi : decide ((1 : Int) ≤ iv) = false := by simp <;> omega
        go_wp2_with fail
        go_ret
        exact ⟨_, rfl, HR.out⟩
end
section
open Go Go.RowKit
end
section
open Go Go.RowKit
set_option maxHeartbeats 4000000 in
set_option maxRecDepth 100000 in
theorem nodesBut_any (v : Value) (l : List Int) (self : Int) (w : World) (hs : IntsAt w v l) (hl : l.length * 8 ≤ 140737488351232) : Calls Try.prog 47 #[.int .i64 self, v] w (PeersEnd l self w) := by
  obtain ⟨p, cap, rfl, hp⟩ := hs.form
  have HP := Lib.hid hp
  have HT0 := Lib.hid (BTab.start w)
  clear hs hp
  go_enter Try.func47, Try.ntmps47
  go_upto_region 2 with fail
  obtain ⟨tb, htb⟩ : ∃ b, w.heap.size = b := ⟨_, rfl⟩
  obtain ⟨w1, hw1⟩ : ∃ W, w.alloc (.cells #[.bool false, .bool false, .bool false, .bool false, .bool false, .bool false, .bool false, .bool false] 48) = W := ⟨_, rfl⟩
  have HT1 : Hid (BTab w tb (fun _ => false) w1) := Lib.hid (by rw [← htb, ← hw1]; exact HT0.out)
  rw [htb, hw1]
  clear htb hw1 HT0
  go_wp2_with fail
  go_loopw [7, 13] (fun _ v13 wr => ∃ k : Nat, v13 = .int .i64 k ∧ k ≤ l.length ∧ Hid (BTab w tb (isPeer (l.take k) self) wr)) (fun _ v13 _ => l.length - (intOf v13).toNat)
  case atStart => exact ⟨0, rfl, by omega, Lib.hid (HT1.out.cast fun j hj => by simp [isPeer])⟩
  case round =>
    clear HT1
    obtain ⟨k, rfl, hk, HB⟩ := hrel
    by_cases hkl : k < l.length
    · obtain ⟨x, hkc⟩ : ∃ c, l[k]? = some c := ⟨_, List.getElem?_eq_getElem hkl⟩
      rcases HP.out with h0 | ⟨b, o, rfl, hlt, hc⟩
      · rw [h0] at hkl; simp at hkl
      have hc0 : wr.cell? ⟨b, o + k, none⟩ = some (.int .i64 x) := (HB.out.below.cell (p := ⟨b, _, none⟩) hlt).trans (hc k x hkc)
      have HUp := Lib.hid (fun j => isPeer_up (self := self) hkc j)
      have hkd : decide ((k : Int) < (l.length : Int)) = true := by simp; omega
      clear hc hkc
      by_cases hn : 0 ≤ x ∧ x < 8 ∧ x ≠ self
      · obtain ⟨m, rfl⟩ : ∃ m : Nat, x = m := ⟨x.toNat, by omega⟩
        have hm8 : m < 8 := by omega
        have g1 : (((m : Int)) != self) = true := by simpa using hn.2.2
        have g2 : decide ((0 : Int) ≤ (m : Int)) = true := by simp
        have g3 : decide ((m : Int) < 8) = true := by simp; omega
        have HS : Hid (∀ j, j < 8 → (if j = m then true else isPeer (l.take k) self j) = isPeer (l.take (k + 1)) self j) := Lib.hid fun j hj => by
          rw [HUp.out j]
          by_cases e : j = m
          · subst e
            rw [if_pos rfl, if_pos rfl]
            have e2 : ((j : Int) == self) = false := by simpa using g1
            rw [e2]
            simp
          · rw [if_neg e, if_neg (by omega)]
        have hlt := HB.out.lt
        have hfz := HB.out.fz m
        have hold := HB.out.cell m hm8
        clear hn
        go_wp2_with fail
        go_roundw
        case rel => exact ⟨k + 1, by go_num, by omega, Lib.hid ((HB.out.set m hm8 true).cast HS.out)⟩
        case measure => simp [intOf]; omega
      · have HS : Hid (∀ j, j < 8 → isPeer (l.take k) self j = isPeer (l.take (k + 1)) self j) := Lib.hid fun j hj => by
          rw [HUp.out j]
          by_cases e : x = j
          · rw [if_pos e]
            have e2 : ((j : Int) == self) = true := by
              rw [beq_iff_eq]
              refine Classical.byContradiction fun h => hn ⟨by omega, by omega, by rw [e]; exact h⟩
            rw [e2]
            simp
          · rw [if_neg e]
        rcases (by omega : ¬ 0 ≤ x ∨ (0 ≤ x ∧ ¬ x < 8) ∨ (0 ≤ x ∧ x < 8 ∧ x = self)) with h1 | ⟨h1, h2⟩ | ⟨h1, h2, h3⟩
        · have g2 : decide ((0 : Int) ≤ x) = false := by simpa using h1
          clear hn h1
          go_wp2_with fail
          go_roundw
          case rel => exact ⟨k + 1, by go_num, by omega, Lib.hid (HB.out.cast HS.out)⟩
          case measure => simp [intOf]; omega
        · have g2 : decide ((0 : Int) ≤ x) = true := by simpa using h1
          have g3 : decide (x < 8) = false := by simpa using h2
          clear hn h1 h2
          go_wp2_with fail
          go_roundw
          case rel => exact ⟨k + 1, by go_num, by omega, Lib.hid (HB.out.cast HS.out)⟩
          case measure => simp [intOf]; omega
        · have g2 : decide ((0 : Int) ≤ x) = true := by simpa using h1
          have g3 : decide (x < 8) = true := by simpa using h2
          have g1 : (x != self) = false := by simpa using h3
          clear hn h1 h2 h3
          go_wp2_with fail
          go_roundw
          case rel => exact ⟨k + 1, by go_num, by omega, Lib.hid (HB.out.cast HS.out)⟩
          case measure => simp [intOf]; omega
    · obtain rfl : k = l.length := by omega
      have HB2 : Hid (BTab w tb (isPeer l self) wr) := Lib.hid (by have := HB.out; rw [List.take_length] at this; exact this)
      have HObj := Lib.hid HB2.out.obj
      have hlt := HB2.out.lt
      clear HB HP hkl hk
      obtain ⟨F, hF⟩ : ∃ F, isPeer l self = F := ⟨_, rfl⟩
      have HF := Lib.hid hF
      rw [hF] at HObj HB2
      clear hF
      go_wp2_with (refine wpList_load_row rfl _ _ rfl tb rfl _ _ _ _ HObj.out Try.underlying48 (by kernel_rfl) (by kernel_rfl) ?_)
      obtain ⟨tab, htab⟩ : ∃ t, tabB F = t := ⟨_, rfl⟩
      have HIx : Hid (∀ (j : Nat) W, j < 8 → (Instr.index 48 (.agg tab) (.int .i64 j)).run Try.prog W = .ok (.bool (F j)) W) := Lib.hid fun j W hj => by rw [← htab]; exact index_tabB _ j hj W
      rw [htab]
      clear htab HObj
      have HB3 := Lib.hid HB2.out.below
      obtain ⟨w2, hw2⟩ : ∃ W, W = wr := ⟨_, rfl⟩
      subst hw2
      clear HB2 hlt
      go_loopw [8, 9, 10, 32] (fun v8 _ _ v28 wz => ∃ k : Nat, v28 = .int .i64 k ∧ k ≤ 8 ∧ MadeI w wz v8 (peersF F k)) (fun _ _ _ v28 _ => 8 - (intOf v28).toNat)
      case atStart => exact ⟨0, rfl, by omega, madeI_nil HB3.out⟩
      case round =>
        obtain ⟨k, rfl, hk, hmade⟩ := hrel
        have hlen := peersF_len F k
        obtain ⟨pz, cz, rfl⟩ := ownsRow_form hmade.1
        obtain ⟨vz, hvz⟩ : ∃ v, Value.slice pz (peersF F k).length cz = v := ⟨_, rfl⟩
        have HVz := Lib.hid hvz
        have HMz := Lib.hid hmade
        rw [hvz] at HMz ⊢
        clear hvz hmade
        by_cases hk8 : k < 8
        · have hkd : decide ((k : Int) < 8) = true := by simp; omega
          have hix := fun W => HIx.out k W hk8
          cases hfk : F k with
          | true =>
            rw [hfk] at hix
            have HSrc : Hid (SrcI (wr.alloc (.cells #[.int .i64 k] 3)) (.slice (some ⟨wr.heap.size, 0, none⟩) 1 1) [(k : Int)]) := Lib.hid (srcI_one (heap_alloc_new wr _))
            have HMa := Lib.hid (HMz.out.later ⟨wr.alloc (.cells #[.int .i64 k] 3), ext_alloc (ext_refl _) _⟩)
            have HUp := Lib.hid (peersF_hit F k hfk)
            dsimp only at HMa
            go_wp2_with (at_builtin; refine wpListI_append (xs := peersF F k) (l := [(k : Int)]) rfl _ _ rfl rfl rfl HMa.out HSrc.out (by simp; omega) ?_; intro v' w5 hm; have HM5 := Lib.hid hm; clear hm)
            go_roundw
            case rel => exact ⟨k + 1, by go_num, by omega, by rw [HUp.out]; exact HM5.out⟩
            case measure => simp [intOf]; omega
          | false =>
            rw [hfk] at hix
            have HUp := Lib.hid (peersF_miss F k hfk)
            go_wp2_with fail
            go_roundw
            case rel => exact ⟨k + 1, by go_num, by omega, by rw [HUp.out]; exact HMz.out⟩
            case measure => simp [intOf]; omega
        · obtain rfl : k = 8 := by omega
          go_wp2_with fail
          go_ret
          exact ⟨_, rfl, by rw [peersOf, HF.out]; exact HMz.out⟩
/-- Where n lies. -/
def indexI (l : List Int) (n : Int) : Int := match l.findIdx? (· == n) with | some k => k | none => -1
theorem indexI_hit {l : List Int} {k : Nat} {n : Int} (hk : l[k]? = some n) (hn : (l.take k).contains n = false) : indexI l n = k := by
  have hkl := (List.getElem?_eq_some_iff.1 hk)
  obtain ⟨hlt, he⟩ := hkl
  have : l.findIdx? (· == n) = some k := by
    rw [List.findIdx?_eq_some_iff_getElem]
    refine ⟨hlt, by simpa using he, fun j hj => ?_⟩
    simp only [beq_iff_eq]
    intro e
    have hm : n ∈ l.take k := by
      rw [List.mem_iff_getElem]
      exact ⟨j, by rw [List.length_take]; omega, by rw [List.getElem_take]; exact e⟩
    rw [List.contains_eq_mem] at hn
    simp [hm] at hn
  simp [indexI, this]
theorem indexI_miss {l : List Int} {n : Int} (hn : l.contains n = false) : indexI l n = -1 := by
  have : l.findIdx? (· == n) = none := by
    rw [List.findIdx?_eq_none_iff]
    intro x hx
    simp only [beq_eq_false_iff_ne]
    rintro rfl
    rw [List.contains_eq_mem] at hn
    simp [hx] at hn
  simp [indexI, this]
theorem indexI_has (l : List Int) (n : Int) : decide (0 ≤ indexI l n) = l.contains n := by
  cases h : l.contains n with
  | false => rw [indexI_miss h]; rfl
  | true =>
    unfold indexI
    cases hf : l.findIdx? (· == n) with
    | some k => simp
    | none =>
      rw [List.findIdx?_eq_none_iff] at hf
      rw [List.contains_eq_mem] at h
      have := hf n (by simpa using h)
      simp at this
set_option maxHeartbeats 1000000 in
set_option maxRecDepth 100000 in
theorem indexI_any (v : Value) (l : List Int) (n : Int) (w : World) (hv : IntsAt w v l) (hl : l.length ≤ 1000) : Gives Try.prog 68 #[v, .int .i64 n] w (.int .i64 (indexI l n)) := by
  unfold Gives
  obtain ⟨p, cap, rfl, hp⟩ := hv.form
  have HP := Lib.hid hp
  clear hv hp
  go_enter Try.func68, Try.ntmps68
  go_wp2_with fail
  go_loopw [5, 8] (fun _ i wr => ∃ k : Nat, k ≤ l.length ∧ i = .int .i64 k ∧ Hid ((l.take k).contains n = false) ∧ ∃ x : Later w, wr = x.w) (fun _ i _ => l.length - (intOf i).toNat)
  case atStart => exact ⟨0, by omega, rfl, Lib.hid (by simp), ⟨w, Below.refl _ _⟩, rfl⟩
  case round =>
    obtain ⟨k, hk, rfl, HN, x, rfl⟩ := hrel
    by_cases hkl : k < l.length
    · obtain ⟨c, hkc⟩ : ∃ c, l[k]? = some c := ⟨_, List.getElem?_eq_getElem hkl⟩
      rcases HP.out with h0 | ⟨b, o, rfl, hlt, hc⟩
      · rw [h0] at hkl; simp at hkl
      have a0 := hc k _ hkc
      have HK := Lib.hid hkc
      clear hc hkc
      cases hcn : ((n : Int) == c) with
      | true =>
        have HV : Hid (indexI l n = k) := Lib.hid (indexI_hit (by rw [HK.out]; congr 1; exact (eq_of_beq hcn).symm) HN.out)
        go_wp2_with fail
        go_ret
        exact ⟨by rw [HV.out]; rfl, Later.ex (by repeat (first | exact ext_refl _ | refine ext_later ?_ _ | refine ext_alloc ?_ _ | refine ext_drew ?_ | refine ext_drewN ?_ _))⟩
      | false =>
        have hcn' : (c == n) = false := by rw [beq_eq_false_iff_ne] at hcn ⊢; exact fun e => hcn e.symm
        go_wp2_with fail
        go_roundw
        case rel => exact ⟨k + 1, by omega, by go_num, Lib.hid (by rw [contains_take HK.out, HN.out, hcn']; rfl), x, rfl⟩
        case measure => simp [intOf]; omega
    · obtain rfl : k = l.length := by omega
      have HV : Hid (indexI l n = -1) := Lib.hid (indexI_miss (by have := HN.out; rw [List.take_length] at this; exact this))
      go_wp2_with fail
      go_ret
      exact ⟨by rw [HV.out]; rfl, Later.ex x.below⟩
set_option maxHeartbeats 1000000 in
set_option maxRecDepth 100000 in
theorem containsI_any (v : Value) (l : List Int) (n : Int) (w : World) (hv : IntsAt w v l) (hl : l.length ≤ 1000) : Gives Try.prog 50 #[v, .int .i64 n] w (.bool (l.contains n)) := by
  unfold Gives
  have HI := Lib.hid (indexI_any v l n w hv hl)
  have HV := Lib.hid (indexI_has l n)
  obtain ⟨p, cap, rfl, hp⟩ := hv.form
  clear hv hp
  go_enter Try.func50, Try.ntmps50
  go_wp2_with fail
  refine Gives.mono' HI.out ?_
  intro x
  go_wp2_with fail
  go_ret
  exact ⟨by rw [← HV.out]; rfl, Later.ex x.below⟩
/-- The closure that Next hands on: whether a node is none of those that lie behind block b. -/
theorem gone_any (b : Nat) (v : Value) (l : List Int) (n : Int) (w : World) (hc : w.cell? ⟨b, 0, none⟩ = some v) (hv : IntsAt w v l) (hl : l.length ≤ 1000) : Gives Try.prog 49 #[.int .i64 n, .pointer (some ⟨b, 0, none⟩)] w (.bool !(l.contains n)) := by
  unfold Gives
  have HI := Lib.hid (containsI_any v l n w hv hl)
  obtain ⟨B, hB⟩ : ∃ B, l.contains n = B := ⟨_, rfl⟩
  rw [hB] at HI ⊢
  clear hB
  obtain ⟨p, cap, rfl, hp⟩ := hv.form
  clear hv hp
  go_enter Try.func49, Try.ntmps49
  go_wp2_with fail
  refine Gives.mono' HI.out ?_
  intro x
  go_wp2_with fail
  go_ret
  exact ⟨rfl, Later.ex x.below⟩
end
section
open Go Go.RowKit
/-- A row of ints that may be rewritten: at block g from o on. -/
structure RowI (W : World) (g o : Nat) (l : List Int) : Prop where
  lt : g < W.heap.size
  fz : ∀ j, W.frozen? ⟨g, j, none⟩ = false
  cell : ∀ k x, l[k]? = some x → W.cell? ⟨g, o + k, none⟩ = some (.int .i64 x)
theorem RowI.later {W : World} {g o : Nat} {l : List Int} (h : RowI W g o l) (x : Later W) : RowI x.w g o l :=
  ⟨Nat.lt_of_lt_of_le h.lt x.below.size, fun j => (x.below.frozen (p := ⟨g, j, none⟩) h.lt).trans (h.fz j), fun k y hk => (x.below.cell (p := ⟨g, _, none⟩) h.lt).trans (h.cell k y hk)⟩
theorem RowI.set {W : World} {g o : Nat} {l : List Int} (h : RowI W g o l) (k : Nat) (x : Int) (hk : k < l.length) : RowI (W.setCell ⟨g, o + k, none⟩ (.int .i64 x)) g o (l.set k x) := by
  refine ⟨by simpa [World.setCell] using h.lt, fun j => by rw [World.frozen?_setCell]; exact h.fz j, fun j y hj => ?_⟩
  by_cases e : j = k
  · subst e
    rw [List.getElem?_set_self hk] at hj
    obtain rfl := Option.some.inj hj
    exact World.cell?_setCell_same _ _ _ (h.cell j _ (List.getElem?_eq_getElem hk))
  · rw [List.getElem?_set_ne (Ne.symm e)] at hj
    rw [World.cell?_setCell_other _ _ _ _ (by intro h; simp only [Addr.mk.injEq] at h; omega)]
    exact h.cell j y hj
theorem RowI.take {W : World} {g o : Nat} {l : List Int} (h : RowI W g o l) (k : Nat) : RowI W g o (l.take k) :=
  ⟨h.lt, h.fz, fun j x hj => by
    rw [List.getElem?_take] at hj
    split at hj
    · exact h.cell j x hj
    · cases hj⟩
theorem size_setCellsI (b : Nat) : ∀ (vs : List Value) (o : Nat) (w : World), (w.setCells b o vs).heap.size = w.heap.size
  | [], _, _ => rfl
  | v :: r, o, w => by rw [World.setCells, size_setCellsI b r]; simp [World.setCell]
theorem RowI.cleared {W : World} {g o : Nat} {l : List Int} (h : RowI W g o l) (i : Nat) (vs : List Value) : RowI (W.setCells g (o + i) vs) g o (l.take i) :=
  ⟨by rw [size_setCellsI]; exact h.lt, fun j => by rw [World.frozen?_setCells]; exact h.fz j, fun j x hj => by
    rw [List.getElem?_take] at hj
    split at hj
    · rename_i hji
      rw [World.cell?_setCells_out _ _ _ _ _ (fun _ _ => .inl (show o + j < o + i by omega))]
      exact h.cell j x hj
    · cases hj⟩
theorem Fr.setCells {F : Nat → Prop} {W : World} {b : Nat} (hb : F b) : ∀ (vs : List Value) (o : Nat) {W' : World}, Fr F W W' → Fr F W (W'.setCells b o vs)
  | [], _, _, h => h
  | v :: r, o, _, h => by rw [World.setCells]; exact Fr.setCells hb r (o + 1) (h.set b o v (.inl hb))
theorem RowI.ints {W : World} {g o cap : Nat} {l : List Int} (h : RowI W g o l) : IntsAt W (.slice (some ⟨g, o, none⟩) l.length cap) l := .inr ⟨g, o, cap, rfl, h.lt, h.cell⟩
/-- The first one of l that P has not. -/
def firstGone (P l : List Int) : Int := match l.findIdx? (fun n => !P.contains n) with | some k => k | none => -1
theorem firstGone_hit {P l : List Int} {k : Nat} {x : Int} (hk : l[k]? = some x) (hx : P.contains x = false) (hn : (l.take k).filter (fun n => P.contains n) = l.take k) : firstGone P l = k := by
  obtain ⟨hlt, he⟩ := List.getElem?_eq_some_iff.1 hk
  have : l.findIdx? (fun n => !P.contains n) = some k := by
    rw [List.findIdx?_eq_some_iff_getElem]
    refine ⟨hlt, by rw [he, hx]; rfl, fun j hj => ?_⟩
    rw [List.filter_eq_self] at hn
    have := hn l[j] (by rw [List.mem_iff_getElem]; exact ⟨j, by rw [List.length_take]; omega, by rw [List.getElem_take]⟩)
    simp only [this]
    simp
  unfold firstGone
  rw [this]
theorem firstGone_none {P l : List Int} (hn : l.filter (fun n => P.contains n) = l) : firstGone P l = -1 := by
  have : l.findIdx? (fun n => !P.contains n) = none := by
    rw [List.findIdx?_eq_none_iff]
    intro x hx
    rw [List.filter_eq_self] at hn
    rw [hn x hx]; rfl
  unfold firstGone
  rw [this]
set_option maxHeartbeats 1000000 in
set_option maxRecDepth 100000 in
theorem goneIdx_any (b : Nat) (u : Value) (P : List Int) (v : Value) (l : List Int) (w : World) (hb : b < w.heap.size) (hc : w.cell? ⟨b, 0, none⟩ = some u) (hu : IntsAt w u P) (hP : P.length ≤ 1000) (hv : IntsAt w v l) (hl : l.length ≤ 1000) :
    Gives Try.prog 67 #[v, .func (.func 49) #[] #[.pointer (some ⟨b, 0, none⟩)]] w (.int .i64 (firstGone P l)) := by
  unfold Gives
  obtain ⟨p, cap, rfl, hp⟩ := hv.form
  have HP := Lib.hid hp
  have HU := Lib.hid hu
  have HC := Lib.hid hc
  clear hv hp hu hc
  go_enter Try.func67, Try.ntmps67
  go_wp2_with fail
  go_loopw [5, 8] (fun _ i wr => ∃ k : Nat, k ≤ l.length ∧ i = .int .i64 k ∧ Hid ((l.take k).filter (fun n => P.contains n) = l.take k) ∧ ∃ x : Later w, wr = x.w) (fun _ i _ => l.length - (intOf i).toNat)
  case atStart => exact ⟨0, by omega, rfl, Lib.hid (by simp), ⟨w, Below.refl _ _⟩, rfl⟩
  case round =>
    obtain ⟨k, hk, rfl, HN, x, rfl⟩ := hrel
    by_cases hkl : k < l.length
    · obtain ⟨c, hkc⟩ : ∃ c, l[k]? = some c := ⟨_, List.getElem?_eq_getElem hkl⟩
      rcases HP.out with h0 | ⟨g, o, rfl, hlt, hcl⟩
      · rw [h0] at hkl; simp at hkl
      have a0 := hcl k _ hkc
      have HK := Lib.hid hkc
      have HG := Lib.hid (gone_any b u P c x.w ((x.below.cell (p := ⟨b, _, none⟩) hb).trans HC.out) (HU.out.below x.below) hP)
      clear hcl hkc
      cases hcn : P.contains c with
      | false =>
        rw [hcn] at HG
        have HV : Hid (firstGone P l = k) := Lib.hid (firstGone_hit HK.out hcn HN.out)
        clear hcn
        go_wp2_with fail
        refine Gives.mono' HG.out ?_
        intro y
        go_wp2_with fail
        go_ret
        exact ⟨by rw [HV.out]; rfl, Later.ex (below_later x.below x.below.size y)⟩
      | true =>
        rw [hcn] at HG
        have HUp := Lib.hid (filter_hit HK.out hcn)
        clear hcn
        go_wp2_with fail
        refine Gives.mono' HG.out ?_
        intro y
        go_wp2_with fail
        go_roundw
        case rel => exact ⟨k + 1, by omega, by go_num, Lib.hid (by rw [HUp.out, HN.out, List.take_add_one, HK.out]; rfl), Later.ex (below_later x.below x.below.size y)⟩
        case measure => simp [intOf]; omega
    · obtain rfl : k = l.length := by omega
      have HV : Hid (firstGone P l = -1) := Lib.hid (firstGone_none (by have := HN.out; rw [List.take_length] at this; exact this))
      go_wp2_with fail
      go_ret
      exact ⟨by rw [HV.out]; rfl, Later.ex x.below⟩
/-- What is there of a row while those that are gone are struck: i kept of the first j. -/
structure Striking (P l : List Int) (i j : Nat) (L : List Int) : Prop where
  len : L.length = l.length
  kept : L.take i = (l.take j).filter fun n => P.contains n
  rest : L.drop j = l.drop j
  lt : i < j
theorem Striking.keep {P l L : List Int} {i j : Nat} {x : Int} (h : Striking P l i j L) (hx : l[j]? = some x) (hp : P.contains x = true) : L[j]? = some x ∧ Striking P l (i + 1) (j + 1) (L.set i x) := by
  have hj := (List.getElem?_eq_some_iff.1 hx).1
  have hl := h.len
  have hij := h.lt
  have hLj : L[j]? = some x := by
    have := congrArg (·[0]?) h.rest
    simpa [List.getElem?_drop, hx] using this
  refine ⟨hLj, by simpa using hl, ?_, ?_, by omega⟩
  · rw [filter_hit hx hp, ← h.kept]
    rw [List.take_add_one, List.getElem?_set_self (by omega), List.take_set_of_le (Nat.le_refl i)]
    rfl
  · have := congrArg (List.drop 1) h.rest
    rw [List.drop_drop, List.drop_drop] at this
    rw [List.drop_set_of_lt (by omega)]
    exact this
theorem Striking.skip {P l L : List Int} {i j : Nat} {x : Int} (h : Striking P l i j L) (hx : l[j]? = some x) (hp : P.contains x = false) : L[j]? = some x ∧ Striking P l i (j + 1) L := by
  have hLj : L[j]? = some x := by
    have := congrArg (·[0]?) h.rest
    simpa [List.getElem?_drop, hx] using this
  refine ⟨hLj, h.len, ?_, ?_, by have := h.lt; omega⟩
  · rw [filter_miss hx hp]; exact h.kept
  · have := congrArg (List.drop 1) h.rest
    rw [List.drop_drop, List.drop_drop] at this
    exact this
theorem gone_split (P l : List Int) : (l.filter (fun n => P.contains n) = l ∧ firstGone P l = -1) ∨ ∃ (k : Nat) (x : Int), l[k]? = some x ∧ P.contains x = false ∧ firstGone P l = (k : Int) ∧ Striking P l k (k + 1) l := by
  cases hf : l.findIdx? (fun n => !P.contains n) with
  | none =>
    rw [List.findIdx?_eq_none_iff] at hf
    have : l.filter (fun n => P.contains n) = l := by
      rw [List.filter_eq_self]
      intro x hx
      simpa using hf x hx
    exact .inl ⟨this, firstGone_none this⟩
  | some k =>
    have hf' := hf
    rw [List.findIdx?_eq_some_iff_getElem] at hf
    obtain ⟨hlt, h1, h2⟩ := hf
    have hk : l[k]? = some l[k] := List.getElem?_eq_getElem hlt
    have hx : P.contains l[k] = false := by simpa using h1
    have hn : (l.take k).filter (fun n => P.contains n) = l.take k := by
      rw [List.filter_eq_self]
      intro x hx
      rw [List.mem_iff_getElem] at hx
      obtain ⟨j, hj, rfl⟩ := hx
      rw [List.length_take] at hj
      rw [List.getElem_take]
      simpa using h2 j (by omega)
    refine .inr ⟨k, l[k], hk, hx, firstGone_hit hk hx hn, rfl, ?_, rfl, by omega⟩
    rw [filter_miss hk hx, hn]
end
section
open Go Go.RowKit
theorem zeroI (w : World) : (zeroValue 3).run Try.prog w = .ok (.int .i64 0) w := by
  obtain ⟨i0, hi, hz0, hz1, hz2⟩ := info_parts infoInt
  simp [zeroValue, typeInfo, hi, hz0]
theorem clearI (W : World) (ty : TypeId) {g o n cap : Nat} {l : List Int} (h : RowI W g o l) {i : Nat} (hi : i < l.length) (hn : n = l.length - i) :
    (Builtin.clear_ #[30] ty #[.slice (some ⟨g, o + i, none⟩) n cap]).run Try.prog W = .ok (.tuple #[]) (W.setCells g (o + i) (List.replicate n (.int .i64 0))) := by
  subst hn
  exact Go.Lib.run_clear_slice W _ _ ty _ uSlI zeroI rfl rfl g (o + i) _ _ (by omega)
    (fun j hj => by rw [show o + i + j = o + (i + j) from by omega, h.cell (i + j) _ (List.getElem?_eq_getElem (by omega))]; rfl)
    (fun j _ => h.fz _)
theorem delNone_any (b : Nat) (u : Value) (P : List Int) (v : Value) (l : List Int) (w : World) (hb : b < w.heap.size) (hc : w.cell? ⟨b, 0, none⟩ = some u) (hu : IntsAt w u P) (hP : P.length ≤ 1000) (hv : IntsAt w v l) (hl : l.length ≤ 1000) (hno : firstGone P l = -1) :
    Gives Try.prog 48 #[v, .func (.func 49) #[] #[.pointer (some ⟨b, 0, none⟩)]] w v := by
  unfold Gives
  have HI := Lib.hid (goneIdx_any b u P v l w hb hc hu hP hv hl)
  rw [hno] at HI
  obtain ⟨p, cap, rfl, hp⟩ := hv.form
  clear hv hp hu hc hno
  go_enter Try.func48, Try.ntmps48
  go_wp2_with fail
  refine Gives.mono' HI.out ?_
  intro x
  go_wp2_with fail
  go_ret
  exact ⟨rfl, Later.ex x.below⟩
def StrikeEnd (P l : List Int) (g o cap : Nat) (w : World) (e : Ending) (w' : World) : Prop :=
  ∃ n, n = (l.filter fun x => P.contains x).length ∧ e = .returned (.slice (some ⟨g, o, none⟩) n cap) ∧ RowI w' g o (l.filter fun x => P.contains x) ∧ Fr (fun k => k = g) w w'
set_option maxHeartbeats 1000000 in
set_option maxRecDepth 100000 in
theorem strike_any (b : Nat) (u : Value) (P : List Int) (g o cap : Nat) (l : List Int) (w : World) (hb : b < w.heap.size)
    (hG : ∀ W', Fr (fun k => k = g) w W' → W'.cell? ⟨b, 0, none⟩ = some u ∧ IntsAt W' u P) (hP : P.length ≤ 1000) (hr : RowI w g o l) (hl : l.length ≤ 1000) (hcap : l.length ≤ cap) {k0 : Nat} (hk0 : firstGone P l = (k0 : Int)) (hs : Striking P l k0 (k0 + 1) l) (hkl : k0 < l.length) :
    Calls Try.prog 48 #[.slice (some ⟨g, o, none⟩) l.length cap, .func (.func 49) #[] #[.pointer (some ⟨b, 0, none⟩)]] w (StrikeEnd P l g o cap w) := by
  have HG := Lib.hid hG
  obtain ⟨hc0, hu0⟩ := hG w (Fr.refl _ _)
  have HI := Lib.hid (goneIdx_any b u P (.slice (some ⟨g, o, none⟩) l.length cap) l w hb hc0 hu0 hP hr.ints hl)
  rw [hk0] at HI
  have HS := Lib.hid hs
  have HR := Lib.hid hr
  have gk : ((k0 : Int) == -1) = false := by rw [beq_eq_false_iff_ne]; omega
  clear hG hc0 hu0 hk0 hs hr
  go_enter Try.func48, Try.ntmps48
  go_wp2_with fail
  refine Gives.mono' HI.out ?_
  intro x
  have HR1 := Lib.hid (HR.out.later x)
  have HF1 := Lib.hid ((Fr.refl (fun k => k = g) w).later x)
  go_wp2_with fail
  go_loopw [5, 6, 7] (fun v5 v6 _ wr => ∃ (i j : Nat) (L : List Int), v5 = .int .i64 i ∧ v6 = .int .i64 j ∧ j ≤ l.length ∧ Hid (Striking P l i j L) ∧ Hid (RowI wr g o L) ∧ Hid (Fr (fun k => k = g) w wr)) (fun _ v6 _ _ => l.length - (intOf v6).toNat)
  case atStart => exact ⟨k0, k0 + 1, l, rfl, by go_num, by omega, HS, HR1, HF1⟩
  case round =>
    clear HR1 HF1
    obtain ⟨i, j, L, rfl, rfl, hj, HSt, HRo, HFr⟩ := hrel
    have hij := HSt.out.lt
    by_cases hjl : j < l.length
    · obtain ⟨c, hjc⟩ : ∃ c, l[j]? = some c := ⟨_, List.getElem?_eq_getElem hjl⟩
      have HK := Lib.hid hjc
      have hjd : decide ((j : Int) < (l.length : Int)) = true := by simp; omega
      have hb1 : b < wr.heap.size := Nat.lt_of_lt_of_le hb HFr.out.size
      have hg1 := HRo.out.lt
      obtain ⟨hcb, hub⟩ := HG.out wr HFr.out
      have HGo := Lib.hid (gone_any b u P c wr hcb hub hP)
      clear hjc hcb hub
      cases hcn : P.contains c with
      | true =>
        rw [hcn] at HGo
        obtain ⟨hLj, hst⟩ := HSt.out.keep HK.out hcn
        have HSt' := Lib.hid hst
        obtain ⟨c0, hLi⟩ : ∃ c0, L[i]? = some c0 := ⟨_, List.getElem?_eq_getElem (by have := HSt.out.len; omega)⟩
        have aj := HRo.out.cell j _ hLj
        clear hst hcn hLj
        go_wp2_with fail
        refine Gives.mono' HGo.out ?_
        intro y
        have ai := (HRo.out.later y).cell i _ hLi
        have fi := (HRo.out.later y).fz (o + i)
        have HRo' := Lib.hid ((HRo.out.later y).set i c (by have := HSt.out.len; omega))
        have HFr' := Lib.hid ((HFr.out.later y).set g (o + i) (.int .i64 c) (.inl rfl))
        have hg2 : g < y.w.heap.size := Nat.lt_of_lt_of_le hg1 y.below.size
        clear hLi
        go_wp2_with fail
        go_roundw
        case rel => exact ⟨i + 1, j + 1, _, by go_num, by go_num, by omega, HSt', HRo', HFr'⟩
        case measure => simp [intOf]; omega
      | false =>
        rw [hcn] at HGo
        obtain ⟨hLj, hst⟩ := HSt.out.skip HK.out hcn
        have HSt' := Lib.hid hst
        have aj := HRo.out.cell j _ hLj
        clear hst hcn hLj
        go_wp2_with fail
        refine Gives.mono' HGo.out ?_
        intro y
        go_wp2_with fail
        go_roundw
        case rel => exact ⟨i, j + 1, L, rfl, by go_num, by omega, HSt', Lib.hid (HRo.out.later y), Lib.hid (HFr.out.later y)⟩
        case measure => simp [intOf]; omega
    · obtain rfl : j = l.length := by omega
      have hLl := HSt.out.len
      have hcl := fun ty => clearI (cap := cap - i) wr ty HRo.out (i := i) (n := l.length - i) (by omega) (by omega)
      have hic : ¬ cap = i := by omega
      have hjd : decide ((l.length : Int) < (l.length : Int)) = false := by simp
      have HFin : Hid (StrikeEnd P l g o cap w (.returned (.slice (some ⟨g, o, none⟩) i cap)) (wr.setCells g (o + i) (List.replicate (l.length - i) (.int .i64 0)))) := Lib.hid (by
        have hk := HSt.out.kept
        rw [List.take_length] at hk
        refine ⟨i, ?_, rfl, ?_, Fr.setCells (F := fun k => k = g) rfl _ _ HFr.out⟩
        · rw [← hk, List.length_take]; omega
        · rw [← hk]; exact HRo.out.cleared i _)
      go_wp2_with fail
      go_ret
      exact HFin.out
end
section
open Go Go.RowKit
/-- The blocks that a row's slice names. -/
def OfRow (l : List Int) (v : Value) (k : Nat) : Prop := l ≠ [] ∧ ∃ o n c, v = .slice (some ⟨k, o, none⟩) n c
/-- A row that may be rewritten, as a value. -/
def RowV (W : World) (v : Value) (l : List Int) : Prop := SrcI W v l ∧ (l ≠ [] → ∃ g o cap, v = .slice (some ⟨g, o, none⟩) l.length cap ∧ RowI W g o l)
theorem RowI.kept {W W' : World} {g o : Nat} {l : List Int} (h : RowI W g o l) (hs : W.heap.size ≤ W'.heap.size) (hk : W'.heap[g]? = W.heap[g]?) : RowI W' g o l :=
  ⟨Nat.lt_of_lt_of_le h.lt hs, fun j => by have := h.fz j; simp only [World.frozen?, hk] at this ⊢; exact this, fun k x hx => by have := h.cell k x hx; simp only [World.cell?, hk] at this ⊢; exact this⟩
theorem RowV.kept {W W' : World} {v : Value} {l : List Int} (h : RowV W v l) (hs : W.heap.size ≤ W'.heap.size) (hk : ∀ k, OfRow l v k → W'.heap[k]? = W.heap[k]?) : RowV W' v l := by
  by_cases hl : l = []
  · subst hl
    obtain ⟨⟨_, ho⟩, _⟩ := h
    refine ⟨⟨?_, ho⟩, fun e => absurd rfl e⟩
    obtain ⟨p, cap, rfl, _⟩ := ho
    exact .inl ⟨rfl, _, _, rfl⟩
  · obtain ⟨g, o, cap, rfl, hr⟩ := h.2 hl
    have hr' := hr.kept hs (hk g ⟨hl, _, _, _, rfl⟩)
    exact ⟨⟨hr'.ints, h.1.2⟩, fun _ => ⟨g, o, cap, rfl, hr'⟩⟩
theorem RowV.later {W : World} {v : Value} {l : List Int} (h : RowV W v l) (x : Later W) : RowV x.w v l := ⟨h.1.below x.below, fun hl => by
  obtain ⟨g, o, cap, rfl, hr⟩ := h.2 hl
  exact ⟨g, o, cap, rfl, hr.later x⟩⟩
theorem RowV.lt {W : World} {v : Value} {l : List Int} (h : RowV W v l) {k : Nat} (hk : OfRow l v k) : k < W.heap.size := by
  obtain ⟨hl, o, n, c, rfl⟩ := hk
  obtain ⟨g, o', cap, hv, hr⟩ := h.2 hl
  obtain ⟨hv1, _⟩ := Value.slice.inj hv
  simp only [Option.some.injEq, Addr.mk.injEq] at hv1
  obtain ⟨rfl, _⟩ := hv1
  exact hr.lt
/-- The landed order at block m: who asks, who is left; the blocks that it owns. -/
def ProO (m : Nat) (self : Int) (rest : List Int) (W : World) (H : Nat → Prop) : Prop :=
  ∃ v, W.heap[m]? = some (.cells #[.int .i64 self, v] 88 (0, 0)) ∧ RowV W v rest ∧ ¬ OfRow rest v m ∧ ∀ k, H k ↔ k = m ∨ OfRow rest v k
theorem proO_owns (m : Nat) (self : Int) (rest : List Int) : Owns (ProO m self rest) where
  lt W H h k hk := by
    obtain ⟨v, hm, hr, _, hH⟩ := h
    rcases (hH k).1 hk with rfl | h1
    · exact (Array.getElem?_eq_some_iff.1 hm).1
    · exact hr.lt h1
  kept W W' H h hs hk := by
    obtain ⟨v, hm, hr, hn, hH⟩ := h
    exact ⟨v, (hk m ((hH m).2 (.inl rfl))).trans hm, hr.kept hs fun k h1 => hk k ((hH k).2 (.inr h1)), hn, hH⟩
def PEnd (m : Nat) (self : Int) (rest : List Int) (H : Nat → Prop) (W W' : World) : Prop := ∃ H', ProO m self rest W' H' ∧ Fr H W W' ∧ ∀ k, H' k → H k ∨ W.heap.size ≤ k
theorem newP_at (w : World) (self : Int) : ProO w.heap.size self [] (w.alloc (.cells #[.int .i64 self, .slice none 0 0] 88)) (fun k => k = w.heap.size) :=
  ⟨.slice none 0 0, heap_alloc_new _ _, ⟨⟨.inl ⟨rfl, _, _, rfl⟩, none, 0, rfl, by simp, fun _ => rfl⟩, fun h => absurd rfl h⟩, fun h => h.1 rfl, fun k => by simp [OfRow]⟩
def NewEnd (self : Int) (w : World) (e : Ending) (w' : World) : Prop := e = .returned (.pointer (some ⟨w.heap.size, 0, none⟩)) ∧ ProO w.heap.size self [] w' (fun k => k = w.heap.size) ∧ Below w.heap.size w w'
set_option maxHeartbeats 400000 in
theorem newP_any (self : Int) (w : World) : Calls Try.prog 26 #[.int .i64 self] w (NewEnd self w) := by
  have H := Lib.hid (newP_at w self)
  go_enter Try.func26, Try.ntmps26
  go_wp2_with fail
  go_ret
  exact ⟨rfl, H.out, ext_alloc (ext_refl w) _⟩
set_option maxHeartbeats 400000 in
theorem nextP_nil (v : Value) (draw : Int) (w : World) : Gives Try.prog 27 #[.pointer none, v, .int .u64 draw] w (.int .i64 (-1)) := by
  unfold Gives
  go_enter Try.func27, Try.ntmps27
  go_wp2_with fail
  go_ret
  exact ⟨rfl, Later.ex (by repeat (first | exact ext_refl _ | refine ext_later ?_ _ | refine ext_alloc ?_ _ | refine ext_drew ?_ | refine ext_drewN ?_ _))⟩
/-- slices.DeleteFunc, whether or not somebody is struck. -/
def DelEnd (P rest : List Int) (v : Value) (w : World) (e : Ending) (w' : World) : Prop :=
  ∃ v', e = .returned v' ∧ RowV w' v' (rest.filter fun x => P.contains x) ∧ (∀ k, OfRow (rest.filter fun x => P.contains x) v' k → OfRow rest v k) ∧ Fr (OfRow rest v) w w'
theorem del_any (b : Nat) (u : Value) (P : List Int) (v : Value) (rest : List Int) (w : World) (hb : b < w.heap.size)
    (hG : ∀ W', Fr (OfRow rest v) w W' → W'.cell? ⟨b, 0, none⟩ = some u ∧ IntsAt W' u P) (hP : P.length ≤ 1000) (hv : RowV w v rest) (hl : rest.length ≤ 1000) :
    Calls Try.prog 48 #[v, .func (.func 49) #[] #[.pointer (some ⟨b, 0, none⟩)]] w (DelEnd P rest v w) := by
  rcases gone_split P rest with ⟨h1, h2⟩ | ⟨k, x, hk, hx, hf, hs⟩
  · obtain ⟨hc, hu⟩ := hG w (Fr.refl _ _)
    refine (delNone_any b u P v rest w hb hc hu hP hv.1.1 hl h2).mono' fun y => ⟨v, rfl, ?_, fun k hk => ?_, (Fr.refl _ w).later y⟩
    · rw [h1]; exact hv.later y
    · rw [h1] at hk; exact hk
  · have hkl := (List.getElem?_eq_some_iff.1 hk).1
    have hne : rest ≠ [] := fun e => by rw [e] at hkl; simp at hkl
    obtain ⟨g, o, cap, rfl, hr⟩ := hv.2 hne
    have hF : ∀ k, k = g ↔ OfRow rest (.slice (some ⟨g, o, none⟩) rest.length cap) k := fun k => ⟨fun e => by subst e; exact ⟨hne, o, _, _, rfl⟩, fun ⟨_, o', n, c, e⟩ => by
      obtain ⟨e1, _⟩ := Value.slice.inj e
      simp only [Option.some.injEq, Addr.mk.injEq] at e1
      exact e1.1.symm⟩
    have hFr : ∀ W', Fr (fun k => k = g) w W' → Fr (OfRow rest (.slice (some ⟨g, o, none⟩) rest.length cap)) w W' := fun W' h => ⟨h.os, h.tape, h.output, h.size, fun k hk hn => h.block k hk fun e => hn ((hF k).1 e)⟩
    have hcap : rest.length ≤ cap := by
      obtain ⟨p', cap', e, h1, _⟩ := hv.1.2
      obtain ⟨_, _, rfl⟩ := Value.slice.inj e
      exact h1
    refine (strike_any b u P g o cap rest w hb (fun W' h => hG W' (hFr W' h)) hP hr hl hcap hf hs hkl).mono ?_
    rintro e w' ⟨n, hn, rfl, hr', hfr⟩
    have hle : n ≤ rest.length := by rw [hn]; exact List.length_filter_le _ _
    refine ⟨_, rfl, ⟨⟨by rw [hn]; exact hr'.ints, some ⟨g, o, none⟩, cap, by rw [hn], by omega, fun h => by cases h⟩, fun _ => ⟨g, o, cap, by rw [hn], hr'⟩⟩, fun k hk => ?_, hFr w' hfr⟩
    obtain ⟨_, o', n', c, e⟩ := hk
    obtain ⟨e1, _⟩ := Value.slice.inj e
    simp only [Option.some.injEq, Addr.mk.injEq] at e1
    exact (hF k).1 e1.1.symm
end
section
open Go Go.RowKit
theorem RowI.tail {W : World} {g o : Nat} {x : Int} {r : List Int} (h : RowI W g o (x :: r)) : RowI W g (o + 1) r :=
  ⟨h.lt, h.fz, fun k y hk => by rw [show o + 1 + k = o + (k + 1) from by omega]; exact h.cell (k + 1) y (by simpa using hk)⟩
theorem RowI.other {W : World} {g o : Nat} {l : List Int} (h : RowI W g o l) {m : Nat} (hne : g ≠ m) (i : Nat) (v : Value) : RowI (W.setCell ⟨m, i, none⟩ v) g o l :=
  h.kept (by simp [World.setCell]) (Below.heap_setCell _ _ _ g hne)
theorem MadeI.row {w0 W : World} {g cap n : Nat} {l : List Int} (h : MadeI w0 W (.slice (some ⟨g, 0, none⟩) n cap) l) (hn : 0 < l.length) : RowI W g 0 l := by
  obtain ⟨g', cap', hv, _, hlt, hfz, hc⟩ := h.open hn
  obtain ⟨hv1, _⟩ := Value.slice.inj hv
  obtain rfl : g = g' := by simpa using hv1
  exact ⟨hlt, hfz, fun k x hk => by rw [Nat.zero_add]; exact hc k x hk⟩
/-- The first one is struck off: the slice from 1 on is stored. -/
theorem ask_done {m : Nat} {self x : Int} {r : List Int} {W : World} {u : Value} {g o cap : Nat} (hm : W.heap[m]? = some (.cells #[.int .i64 self, u] 88 (0, 0))) (hr : RowI W g o (x :: r)) (hcap : r.length + 1 ≤ cap) (hgm : g ≠ m) :
    ProO m self r (W.setCell ⟨m, 1, none⟩ (.slice (if cap = 1 then some ⟨g, o, none⟩ else some ⟨g, o + 1, none⟩) r.length (cap - 1))) (fun k => k = m ∨ (r ≠ [] ∧ k = g)) := by
  refine ⟨_, by rw [heap_setCell_same _ _ _ _ _ _ hm]; rfl, ?_, ?_, fun k => ?_⟩
  · by_cases hr0 : r = []
    · subst hr0
      exact ⟨⟨.inl ⟨rfl, _, _, rfl⟩, _, _, rfl, by simp, fun h => by split at h <;> cases h⟩, fun h => absurd rfl h⟩
    · have hl : 0 < r.length := List.length_pos_iff.2 hr0
      rw [if_neg (by omega)]
      have ht := hr.tail.other (m := m) hgm 1 (.slice (some ⟨g, o + 1, none⟩) r.length (cap - 1))
      exact ⟨⟨ht.ints, _, _, rfl, by omega, fun h => by cases h⟩, fun _ => ⟨g, o + 1, cap - 1, rfl, ht⟩⟩
  · rintro ⟨hr0, o', n, c, e⟩
    have hl : 0 < r.length := List.length_pos_iff.2 hr0
    rw [if_neg (by omega)] at e
    obtain ⟨e1, _⟩ := Value.slice.inj e
    simp only [Option.some.injEq, Addr.mk.injEq] at e1
    exact hgm e1.1
  · by_cases hr0 : r = []
    · simp [hr0, OfRow]
    · have hl : 0 < r.length := List.length_pos_iff.2 hr0
      rw [if_neg (by omega)]
      simp [hr0, OfRow, eq_comm]
theorem MadeI.kept {w0 W W' : World} {v : Value} {l : List Int} {F : Nat → Prop} (h : MadeI w0 W v l) (hf : Fr F W W') (hF : ∀ k, F k → k < w0.heap.size) : SrcI W' v l := by
  have hr : W'.ownsRow w0.heap.size 3 1 v l.length (cellsI l) := row_keeps h.1 fun g hg => hf.block g (h.1.lt g hg).2 fun e => by
    have := hF g e
    have := (h.1.lt g hg).1
    omega
  exact ⟨intsAt_of_own hr, h.src.2⟩
def AskEnd (m : Nat) (self : Int) (rest peers : List Int) (draw : Int) (H : Nat → Prop) (w : World) (e : Ending) (w' : World) : Prop := e = .returned (.int .i64 (nextOf self rest peers draw).1) ∧ PEnd m self (nextOf self rest peers draw).2 H w w'
set_option maxHeartbeats 4000000 in
set_option maxRecDepth 100000 in
theorem nextP_any (m : Nat) (self : Int) (rest peers : List Int) (draw : Int) (v : Value) (w : World) (H : Nat → Prop) (h : ProO m self rest w H) (hrest : rest.length ≤ 100) (hs : IntsAt w v peers) (hl : peers.length * 8 ≤ 140737488351232) (h0 : 0 ≤ draw) (h1 : draw < 18446744073709551616) :
    Calls Try.prog 27 #[.pointer (some ⟨m, 0, none⟩), v, .int .u64 draw] w (AskEnd m self rest peers draw H w) := by
  have HN := Lib.hid (nodesBut_any v peers self w hs hl)
  have HO := Lib.hid h
  obtain ⟨vo, hq, hro, hno, hH⟩ := h
  have HRo := Lib.hid hro
  have HNo := Lib.hid hno
  have HH := Lib.hid hH
  have hlt := (Array.getElem?_eq_some_iff.1 hq).1
  have e0 : w.cell? ⟨m, 0, none⟩ = some (.int .i64 self) := by simp [World.cell?, hq]
  have HQ := Lib.hid hq
  obtain ⟨pv, cv, rfl, _⟩ := hs.form
  obtain ⟨P, hP⟩ : ∃ P, peersOf peers self = P := ⟨_, rfl⟩
  have hP8 : P.length ≤ 8 := by rw [← hP]; exact peersOf_len _ _
  have HPe := Lib.hid hP
  unfold PeersEnd at HN
  rw [hP] at HN
  clear hs hq hro hno hH hP
  go_enter Try.func27, Try.ntmps27
  go_wp2_with fail
  refine HN.out.mono ?_
  rintro e w1 ⟨u, rfl, hmade⟩
  obtain ⟨p1, c1, rfl⟩ := ownsRow_form hmade.1
  have HM1 := Lib.hid hmade
  clear hmade HN e0
  go_upto_region 4 with fail
  obtain ⟨b, hb⟩ : ∃ b, w1.heap.size = b := ⟨_, rfl⟩
  obtain ⟨w2, hw2⟩ : ∃ W, w1.alloc (.cells #[.slice p1 P.length c1] 30) = W := ⟨_, rfl⟩
  have HM2 : Hid (MadeI w w2 (.slice p1 P.length c1) P) := Lib.hid (by rw [← hw2]; exact HM1.out.later ⟨_, ext_alloc (ext_refl w1) _⟩)
  have hbw : w.heap.size ≤ b := by rw [← hb]; exact HM1.out.2.size
  have hb2 : b < w2.heap.size := by rw [← hb, ← hw2]; simp
  have hc2 : w2.cell? ⟨b, 0, none⟩ = some (.slice p1 P.length c1) := by
    rw [← hb, ← hw2]
    unfold World.cell?
    rw [heap_alloc_new]
    rfl
  have hq2 : w2.heap[m]? = some (.cells #[.int .i64 self, vo] 88 (0, 0)) := (HM2.out.2.block m hlt).trans HQ.out
  rw [hb, hw2]
  clear hb hw2 HM1 HQ
  have e1 : w2.cell? ⟨m, 1, none⟩ = some vo := by simp [World.cell?, hq2]
  have hl2 : m < w2.heap.size := Nat.lt_of_lt_of_le hlt HM2.out.2.size
  have hmb : m ≠ b := by omega
  by_cases hP0 : P.length = 0
  · have hPn : P = [] := List.eq_nil_of_length_eq_zero hP0
    have HR : Hid (nextOf self rest peers draw = (-1, rest)) := Lib.hid (by unfold nextOf; rw [HPe.out, if_pos hPn])
    have HEnd := Lib.hid (show PEnd m self rest H w w2 from ⟨H, (proO_owns m self rest).kept w w2 H HO.out HM2.out.2.size fun k hk => HM2.out.2.block k ((proO_owns m self rest).lt w H HO.out k hk), Fr.of_below HM2.out.2, fun k hk => .inl hk⟩)
    rw [hP0] at hc2
    clear hq2 e1
    go_wp2_with fail
    go_ret
    exact ⟨by rw [HR.out]; rfl, by rw [HR.out]; exact HEnd.out⟩
  · have gP : (((P.length : Nat) : Int) == 0) = false := by rw [beq_eq_false_iff_ne]; omega
    have HOld : Hid (∀ k, OfRow rest vo k → k < w.heap.size) := Lib.hid fun k hk => HRo.out.lt hk
    have HRo2 : Hid (RowV w2 vo rest) := Lib.hid (HRo.out.later ⟨w2, HM2.out.2⟩)
    have HG := Lib.hid (del_any b (.slice p1 P.length c1) P vo rest w2 hb2 (fun W' hf => ⟨by
      have hbk := hf.block b hb2 fun e => by have := HOld.out b e; omega
      simpa only [World.cell?, hbk] using hc2, (HM2.out.kept hf fun k hk => HOld.out k hk).1⟩) (by omega) HRo2.out (by omega))
    obtain ⟨po, co, hvo, _⟩ := HRo.out.1.1.form
    subst hvo
    go_wp2_with fail
    refine HG.out.mono ?_
    rintro e w3 ⟨v3, rfl, hr3, ho3, hf3⟩
    have HGone := HNo.out
    have hq3 := (hf3.block m hl2 HGone).trans hq2
    have hl3 : m < w3.heap.size := Nat.lt_of_lt_of_le hl2 hf3.size
    have m1 : w3.cell? ⟨m, 1, none⟩ = some (.slice po rest.length co) := by simp [World.cell?, hq3]
    have m2 : w3.frozen? ⟨m, 1, none⟩ = false := by simp [World.frozen?, hq3]
    have hc3 : w3.cell? ⟨b, 0, none⟩ = some (.slice p1 P.length c1) := by
      have hbk := hf3.block b hb2 fun e => by have := HOld.out b e; omega
      simpa only [World.cell?, hbk] using hc2
    have HF23 : Hid (Fr H w2 w3) := Lib.hid ⟨hf3.os, hf3.tape, hf3.output, hf3.size, fun k hk hn => hf3.block k hk fun e => hn ((HH.out k).2 (.inr e))⟩
    have HHlt : Hid (∀ k, H k → k < w.heap.size) := Lib.hid fun k hk => (proO_owns m self rest).lt w H HO.out k hk
    obtain ⟨pf, cf, hvf, _⟩ := hr3.1.1.form
    subst hvf
    obtain ⟨fl, hfl⟩ : ∃ fl, (rest.filter fun x => P.contains x) = fl := ⟨_, rfl⟩
    have hfl100 : fl.length ≤ 100 := by rw [← hfl]; exact Nat.le_trans (List.length_filter_le _ _) hrest
    have HFl := Lib.hid hfl
    rw [hfl] at hr3 ho3 ⊢
    have HR3 := Lib.hid hr3
    have HO3 := Lib.hid ho3
    have HF3 : Hid (Fr H w w3) := Lib.hid ((Fr.of_below HM2.out.2 : Fr H w w2).trans hf3 fun k hk => .inl ((HH.out k).2 (.inr hk)))
    have HQ3 := Lib.hid hq3
    have hb3 : b < w3.heap.size := Nat.lt_of_lt_of_le hb2 hf3.size
    clear hfl hr3 ho3 hf3 hq3 hq2 e1 hc2 hl2 HGone HG HRo2
    go_upto_region 7 with fail
    obtain ⟨w4, hw4⟩ : ∃ W, w3.setCell ⟨m, 1, none⟩ (.slice pf fl.length cf) = W := ⟨_, rfl⟩
    have hq4 : w4.heap[m]? = some (.cells #[.int .i64 self, .slice pf fl.length cf] 88 (0, 0)) := by rw [← hw4, heap_setCell_same _ _ _ _ _ _ HQ3.out]; rfl
    have hs4 : w4.heap.size = w3.heap.size := by rw [← hw4]; simp [World.setCell]
    have hk4 : ∀ k, k ≠ m → w4.heap[k]? = w3.heap[k]? := fun k hk => by rw [← hw4]; exact Below.heap_setCell _ _ _ k hk
    have HR4 : Hid (RowV w4 (.slice pf fl.length cf) fl) := Lib.hid (HR3.out.kept (by omega) fun k hk => hk4 k fun e => by subst e; exact HNo.out (HO3.out k hk))
    have HF4 : Hid (Fr H w w4) := Lib.hid (by rw [← hw4]; exact HF3.out.set m 1 _ (.inl ((HH.out m).2 (.inl rfl))))
    have hc4 : w4.cell? ⟨b, 0, none⟩ = some (.slice p1 P.length c1) := by
      have hbk := hk4 b (by omega)
      simpa only [World.cell?, hbk] using hc3
    have HPm : Hid (SrcI w4 (.slice p1 P.length c1) P) := Lib.hid (HM2.out.kept (F := H) (by rw [← hw4]; exact HF23.out.set m 1 _ (.inl ((HH.out m).2 (.inl rfl)))) HHlt.out)
    have HW4 : Hid (∀ k, OfRow fl (.slice pf fl.length cf) k → k ≠ m) := Lib.hid fun k hk e => by subst e; exact HNo.out (HO3.out k hk)
    rw [hw4]
    have hl4 : m < w4.heap.size := by omega
    have hb4 : b < w4.heap.size := by omega
    have n1 : w4.cell? ⟨m, 1, none⟩ = some (.slice pf fl.length cf) := by simp [World.cell?, hq4]
    have n2 : w4.frozen? ⟨m, 1, none⟩ = false := by simp [World.frozen?, hq4]
    have HQ4 := Lib.hid hq4
    -- from a row whose first one is struck off
    have HFin : Hid (∀ (W : World) (x : Int) (r : List Int) (u : Value) (g o cap : Nat), leftNow rest P draw = x :: r → Fr H w W → W.heap[m]? = some (.cells #[.int .i64 self, u] 88 (0, 0)) → RowI W g o (x :: r) → r.length + 1 ≤ cap → g ≠ m → (H g ∨ w.heap.size ≤ g) →
        (nextOf self rest peers draw).1 = x ∧ PEnd m self (nextOf self rest peers draw).2 H w (W.setCell ⟨m, 1, none⟩ (.slice (if cap = 1 then some ⟨g, o, none⟩ else some ⟨g, o + 1, none⟩) r.length (cap - 1)))) := Lib.hid fun W x r u g o cap hx hf hm hr hcap hgm hg => by
      have hne : P ≠ [] := fun e => by rw [e] at hP0; simp at hP0
      have e : nextOf self rest peers draw = (x, r) := by unfold nextOf; rw [HPe.out, if_neg hne, hx]; rfl
      rw [e]
      refine ⟨rfl, _, ask_done hm hr hcap hgm, hf.set m 1 _ (.inl ((HH.out m).2 (.inl rfl))), fun k hk => ?_⟩
      rcases hk with rfl | ⟨_, rfl⟩
      · exact .inl ((HH.out k).2 (.inl rfl))
      · exact hg
    clear hw4 HR3 HQ3 HF3 hc3 m1 m2 HF23 HM2 hq4 hk4 hs4 hl3 hb3
    cases fl with
    | nil =>
      have hne : P ≠ [] := fun e => by rw [e] at hP0; simp at hP0
      have hLN : leftNow rest P draw = shuf P draw := by unfold leftNow; rw [HFl.out]
      obtain ⟨x, r, hxr⟩ : ∃ x r, shuf P draw = x :: r := by
        cases hs : shuf P draw with
        | nil => exact absurd (hLN.trans hs) (leftNow_ne hne)
        | cons x r => exact ⟨x, r, rfl⟩
      have hr8 : r.length ≤ 64 := by have := shuf_len P draw; rw [hxr, List.length_cons] at this; omega
      have HSh := Lib.hid (proShuf_any (.slice p1 P.length c1) P draw w4 HPm.out (by omega) h0 h1)
      unfold ShufEnd at HSh
      rw [hxr] at HSh
      have HFin' := Lib.hid (fun W u g o cap => HFin.out W x r u g o cap (hLN.trans hxr))
      rw [List.length_nil] at n1 ⊢
      clear hLN hxr HFin
      go_wp2_with fail
      refine HSh.out.mono ?_
      rintro e w5 ⟨u5, rfl, hm5⟩
      obtain ⟨g, cap, rfl, -⟩ := hm5.open (by simp)
      have hr5 := hm5.row (by simp)
      have hge := (hm5.1.lt g rfl).1
      have hcap : r.length + 1 ≤ cap := by
        rcases hm5.1.2 with ⟨e1, e2⟩ | ⟨g', cap', cur, hv, _, _, hnc, _⟩
        · simp at e1
        · obtain ⟨_, _, rfl⟩ := Value.slice.inj hv
          simpa using hnc
      have hq5 := (hm5.2.block m hl4).trans HQ4.out
      have m1 : w5.cell? ⟨m, 1, none⟩ = some (.slice pf 0 cf) := by simp [World.cell?, hq5]
      have m2 : w5.frozen? ⟨m, 1, none⟩ = false := by simp [World.frozen?, hq5]
      have hl5 : m < w5.heap.size := Nat.lt_of_lt_of_le hl4 hm5.2.size
      have HF5 : Hid (Fr H w w5) := Lib.hid (HF4.out.later ⟨w5, hm5.2⟩)
      have HQ5 := Lib.hid hq5
      have HR5 := Lib.hid hr5
      have hgm : g ≠ m := by omega
      have hgw : w.heap.size ≤ g := by have := HF4.out.size; omega
      rw [List.length_cons]
      clear hm5 hq5 hr5 n1 n2 hge
      go_upto_region 9 with fail
      obtain ⟨w6, hw6⟩ : ∃ W, w5.setCell ⟨m, 1, none⟩ (.slice (some ⟨g, 0, none⟩) (r.length + 1) cap) = W := ⟨_, rfl⟩
      have HQz : Hid (w6.heap[m]? = some (.cells #[.int .i64 self, .slice (some ⟨g, 0, none⟩) (r.length + 1) cap] 88 (0, 0))) := Lib.hid (by rw [← hw6, heap_setCell_same _ _ _ _ _ _ HQ5.out]; rfl)
      have HRz : Hid (RowI w6 g 0 (x :: r)) := Lib.hid (by rw [← hw6]; exact HR5.out.other hgm _ _)
      have HFz : Hid (Fr H w w6) := Lib.hid (by rw [← hw6]; exact HF5.out.set m 1 _ (.inl ((HH.out m).2 (.inl rfl))))
      have hl6 : m < w6.heap.size := by rw [← hw6]; simpa [World.setCell] using hl5
      rw [hw6]
      have HF1 := Lib.hid (HFin'.out w6 _ g 0 cap HFz.out HQz.out HRz.out hcap hgm (.inr hgw))
      clear hw6 m1 m2
      have k1 : w6.cell? ⟨m, 1, none⟩ = some (.slice (some ⟨g, 0, none⟩) (r.length + 1) cap) := by simp [World.cell?, HQz.out]
      have k2 : w6.frozen? ⟨m, 1, none⟩ = false := by simp [World.frozen?, HQz.out]
      have k0 := HRz.out.cell 0 x (by simp)
      rw [Nat.add_zero] at k0
      have kg := HRz.out.lt
      have gr : (((r.length : Nat) : Int) + 1 == 0) = false := by rw [beq_eq_false_iff_ne]; omega
      by_cases hc1 : cap = 1
      · subst hc1
        rw [if_pos rfl, show r.length = 0 from by omega] at HF1
        go_wp2_with fail
        go_ret
        exact ⟨by rw [HF1.out.1]; rfl, HF1.out.2⟩
      · rw [if_neg hc1] at HF1
        go_wp2_with fail
        go_ret
        exact ⟨by rw [HF1.out.1]; rfl, HF1.out.2⟩
    | cons x r =>
      have hLN : leftNow rest P draw = x :: r := by unfold leftNow; rw [HFl.out]
      obtain ⟨g, o, cap, hv, hrow⟩ := HR4.out.2 (by simp)
      obtain ⟨rfl, -, rfl⟩ := Value.slice.inj hv
      have hgm := HW4.out g ⟨by simp, o, _, _, rfl⟩
      have hcap : r.length + 1 ≤ cf := by
        obtain ⟨p', cap', e, h1, _⟩ := HR4.out.1.2
        obtain ⟨_, _, rfl⟩ := Value.slice.inj e
        exact h1
      have HQz := HQ4
      have HRz := Lib.hid hrow
      have hgH : H g := (HH.out g).2 (.inr (HO3.out g ⟨by simp, o, _, _, rfl⟩))
      have HF1 := Lib.hid (HFin.out w4 x r _ g o cf hLN HF4.out HQz.out HRz.out hcap hgm (.inl hgH))
      rw [List.length_cons] at n1 hfl100 HQz ⊢
      clear hLN hv hrow n1 n2
      have k1 : w4.cell? ⟨m, 1, none⟩ = some (.slice (some ⟨g, o, none⟩) (r.length + 1) cf) := by simp [World.cell?, HQz.out]
      go_upto_region 9 with fail
      clear k1
      have k1 : w4.cell? ⟨m, 1, none⟩ = some (.slice (some ⟨g, o, none⟩) (r.length + 1) cf) := by simp [World.cell?, HQz.out]
      have k2 : w4.frozen? ⟨m, 1, none⟩ = false := by simp [World.frozen?, HQz.out]
      have k0 := HRz.out.cell 0 x (by simp)
      rw [Nat.add_zero] at k0
      have kg := HRz.out.lt
      have gr : (((r.length : Nat) : Int) + 1 == 0) = false := by rw [beq_eq_false_iff_ne]; omega
      by_cases hc1 : cf = 1
      · subst hc1
        rw [if_pos rfl, show r.length = 0 from by omega] at HF1
        go_wp2_with fail
        go_ret
        exact ⟨by rw [HF1.out.1]; rfl, HF1.out.2⟩
      · rw [if_neg hc1] at HF1
        go_wp2_with fail
        go_ret
        exact ⟨by rw [HF1.out.1]; rfl, HF1.out.2⟩
end
end Go.Proofs.Ytnkchmafofpimaa
