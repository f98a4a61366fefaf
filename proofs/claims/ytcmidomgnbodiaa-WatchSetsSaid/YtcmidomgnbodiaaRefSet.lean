/- The reference's clock: Set. -/
import Derived.Test.YtcmidomgnbodiaaRefCut
namespace Go.Proofs.Ytcmidomgnbodiaa
open Go Go.RowKit Go.BigFrame

theorem takeWhile_at {p : Mo → Bool} : ∀ {L : List Mo} {i : Nat}, i ≤ L.length → (∀ x ∈ L.take i, p x = true) → (∀ x, L[i]? = some x → p x = false) → L.takeWhile p = L.take i ∧ L.dropWhile p = L.drop i
  | [], i, _, _, _ => by simp
  | x :: L, 0, _, _, h => by
    have := h x (by simp)
    simp [this]
  | x :: L, i + 1, hi, ht, h => by
    have hx : p x = true := ht x (by simp)
    obtain ⟨h1, h2⟩ := takeWhile_at (p := p) (L := L) (i := i) (by simpa using hi) (fun y hy => ht y (by simp [hy])) (fun y hy => h y (by simpa using hy))
    simp [hx, h1, h2]
theorem RCEnd.trans {m : Nat} {L M : List Mo} {H : Nat → Prop} {A B C : World} (h : RCEnd m L H A B) (k : ∀ H', RefC m L B H' → RCEnd m M H' B C) : RCEnd m M H A C := by
  obtain ⟨H1, hr, hf, hg⟩ := h
  obtain ⟨H2, hr2, hf2, hg2⟩ := k H1 hr
  refine ⟨H2, hr2, hf.trans hf2 (fun j hj => .inl hj), fun k hk => ?_⟩
  rcases hg2 k hk with h1 | h1
  · exact hg k h1
  · exact .inr (Nat.le_trans hf.size h1)

def SetEnd (m : Nat) (L : List Mo) (x : Mo) (H : Nat → Prop) (W : World) (e : Ending) (W' : World) : Prop :=
  e = .returned (.bool (okM x)) ∧ RCEnd m (if okM x then setM L x else L) H W W'

set_option maxHeartbeats 4000000 in
set_option maxRecDepth 100000 in
theorem refSet_any (m : Nat) (L : List Mo) (n t : Int) (w : World) (H : Nat → Prop) (h : RefC m L w H) (ho : OnceM L) (hL : L.length ≤ 1000) : Calls Try.prog 16 #[.pointer (some ⟨m, 0, none⟩), .int .i64 n, .int .i64 t] w (SetEnd m L ⟨n, t⟩ H w) := by
  by_cases hok : (0 ≤ n ∧ n ≤ 999) ∧ (0 ≤ t ∧ t ≤ 1099511627776)
  · have HOk : Hid (okM ⟨n, t⟩ = true) := Lib.hid (by simp only [okM, decide_eq_true_eq]; exact hok)
    have HW := Lib.hid (without_any m L n w H h ho (by omega))
    obtain ⟨M, hM⟩ : ∃ M, cutM L n = M := ⟨_, rfl⟩
    have hMl : M.length ≤ 1000 := by rw [← hM]; exact Nat.le_trans (List.length_filter_le _ _) hL
    unfold WithoutEnd at HW
    rw [hM] at HW
    have HM := Lib.hid hM
    obtain ⟨⟨g1, g2⟩, g3, g4⟩ := hok
    have q1 : decide (n < 0) = false := by simpa using g1
    have q2 : decide ((999 : Int) < n) = false := by simpa using g2
    have q3 : decide (t < 0) = false := by simpa using g3
    have q4 : decide ((1099511627776 : Int) < t) = false := by simpa using g4
    clear h ho hM
    go_enter Try.func16, Try.ntmps16
    go_wp2_with fail
    refine HW.out.mono ?_
    rintro e w1 ⟨rfl, hrc⟩
    obtain ⟨H1, hr1, hf1, hg1⟩ := hrc
    have HRc := Lib.hid (show RCEnd m M H w w1 from ⟨H1, hr1, hf1, hg1⟩)
    have HO1 := Lib.hid hr1
    obtain ⟨p, cap, hlt, hm, hs⟩ := hr1.cells
    have HQ := Lib.hid hm
    have e0 : w1.cell? ⟨m, 0, none⟩ = some (.slice p M.length cap) := by simp [World.cell?, hm]
    have HS := Lib.hid hs
    obtain ⟨p', cap', hv, hrow⟩ := hs.1.form
    obtain ⟨rfl, -, rfl⟩ := Value.slice.inj hv
    have HR := Lib.hid hrow
    have hcap : M.length ≤ cap := by
      obtain ⟨_, p', cap', e, h1, _⟩ := hs
      obtain ⟨_, _, rfl⟩ := Value.slice.inj e
      exact h1
    clear hr1 hf1 hg1 hm hs hv hrow HW
    go_wp2_with fail
    go_loopw [7] (fun v7 wr => ∃ k : Nat, v7 = .int .i64 k ∧ k ≤ M.length ∧ Hid (∀ x ∈ M.take k, lessM x ⟨n, t⟩ = true) ∧ ∃ x : Later w1, wr = x.w) (fun v7 _ => M.length - (intOf v7).toNat)
    case atStart => exact ⟨0, rfl, by omega, Lib.hid (fun x hx => by simp at hx), ⟨w1, Below.refl _ _⟩, rfl⟩
    case round =>
      obtain ⟨k, rfl, hk, HN, x, rfl⟩ := hrel
      by_cases hkl : k < M.length
      · obtain ⟨⟨cn, ct⟩, hkc⟩ : ∃ c, M[k]? = some c := ⟨_, List.getElem?_eq_getElem hkl⟩
        rcases HR.out with h0 | ⟨b, o, rfl, hbl, hc⟩
        · rw [h0] at hkl; simp at hkl
        have a0 : x.w.cell? ⟨b, o + k * 2, none⟩ = some (.int .i64 cn) := (x.below.cell (p := ⟨b, _, none⟩) hbl).trans (hc k _ hkc 0 _ rfl)
        have a1 : x.w.cell? ⟨b, o + k * 2 + 1, none⟩ = some (.int .i64 ct) := (x.below.cell (p := ⟨b, _, none⟩) hbl).trans (hc k _ hkc 1 _ rfl)
        have hkd : decide ((k : Int) < (M.length : Int)) = true := by simp; omega
        have HK := Lib.hid hkc
        clear hc hkc
        have hkc2 : k < cap := by omega
        by_cases hless : lessM ⟨cn, ct⟩ ⟨n, t⟩ = true
        · have HN' := Lib.hid (show ∀ x ∈ M.take (k + 1), lessM x ⟨n, t⟩ = true from fun x hx => by
            rw [List.take_add_one, HK.out] at hx
            rcases List.mem_append.1 hx with hx | hx
            · exact HN.out x hx
            · obtain rfl : x = ⟨cn, ct⟩ := by simpa using hx
              exact hless)
          rw [lessM_iff] at hless
          dsimp only at hless
          by_cases hlt2 : ct < t
          · go_wp2_with fail
            go_roundw
            case rel => exact ⟨k + 1, by go_num, by omega, HN', Later.ex x.below⟩
            case measure => simp [intOf]; omega
          · have h1 : (ct == t) = true := by rw [beq_iff_eq]; omega
            have h2 : cn < n := by omega
            go_wp2_with fail
            go_roundw
            case rel => exact ⟨k + 1, by go_num, by omega, HN', Later.ex x.below⟩
            case measure => simp [intOf]; omega
        · have hstop : ∀ y, M[k]? = some y → lessM y ⟨n, t⟩ = false := fun y hy => by
            rw [HK.out] at hy
            obtain rfl := Option.some.inj hy
            simpa using hless
          rw [lessM_iff] at hless
          dsimp only at hless
          have z1 : decide (ct < t) = false := by rw [decide_eq_false_iff_not]; omega
          rcases (by omega : ¬ ct = t ∨ (ct = t ∧ ¬ cn < n)) with h1 | ⟨h1, h2⟩
          · have z2 : (ct == t) = false := by rw [beq_eq_false_iff_ne]; exact h1
            have HEq : Hid (M.take k ++ [⟨n, t⟩] ++ M.drop k = setM L ⟨n, t⟩) := Lib.hid (by
              obtain ⟨h1, h2⟩ := takeWhile_at (p := fun x => lessM x ⟨n, t⟩) (L := M) (i := k) (by omega) HN.out hstop
              unfold setM insM
              rw [show cutM L (⟨n, t⟩ : Mo).n = M from HM.out, h1, h2, List.append_assoc]
              rfl)
            go_upto_region 7 with fail
            have HLt : Hid ((M.take k).length = k) := Lib.hid (by rw [List.length_take]; omega)
            have HLd : Hid ((M.drop k).length = M.length - k) := Lib.hid List.length_drop
            obtain ⟨D0, hD0⟩ : ∃ W, x.w = W := ⟨_, rfl⟩
            obtain ⟨D, hDD⟩ : ∃ W, D0.drew = W := ⟨_, rfl⟩
            have HD : Hid (Below w1.heap.size w1 D) := Lib.hid (by rw [← hDD, ← hD0]; exact ext_drew (ext_later (ext_refl w1) x))
            have HTk := Lib.hid ((HS.out.below HD.out).take (m := k) (by omega))
            have hdr := (HS.out.below HD.out).drop (m := k) (by omega)
            rw [if_neg (by omega), Option.map_some, addr_off] at hdr
            rw [show k * elemMo.k = k * 2 from rfl] at hdr
            have HDr := Lib.hid hdr
            have hd0 : D.cell? ⟨m, 0, none⟩ = some (.slice (some ⟨b, o, none⟩) M.length cap) := (HD.out.cell (p := ⟨m, 0, none⟩) hlt).trans e0
            have hml : m < D.heap.size := Nat.lt_of_lt_of_le hlt HD.out.size
            rw [hD0]
            refine wp_region_taken [22] (fun k => k < D.heap.size) (by kernel_rfl) (n := 23) rfl (fresh := Array.replicate 23 false) rfl ?_
            rw [hDD]
            clear hD0 hDD hdr
            refine wpT_batchK [0, 1, 2, 3, 4, 5, 6, 8, 9, 10, 13, 14, 15, 16, 17, 18] 7 rfl (by kernel_rfl) (by kernel_rfl) (by simp only [pickL, nthL, List.cons_append, List.nil_append]; rfl) ?_
            repeat (go_big_quiet_step (fail))
            refine wpQuiet_nil ?_
            refine wpT_two (i := 7) (j := 11) (by kernel_rfl) ?_ ?_
            · refine opT_append (E := elemMo) (d := some 77) (w0 := D) (v := .slice none 0 0) (v2 := .slice (some ⟨b, o, none⟩) k cap) (xs := []) (l2 := M.take k) rfl (by rfl) rfl rfl rfl (madeE_nil (Below.refl _ _)) HTk.out (by rw [HLt.out]; show (0 + k) * 16 ≤ _; omega) (fun k hk => hk) rfl ?_
              intro v1 w2 hm2 hz2
              rw [List.nil_append] at hm2
              simp only [Act.put, List.setIfInBounds_toArray, List.set_cons_succ, List.set_cons_zero]
              refine wpT_just (i := 11) (by kernel_rfl) ?_
              refine opT_value (d := some 81) (v := .slice (some ⟨w2.heap.size, 0, none⟩) 1 1) (w' := w2.alloc (.cells #[.int .i64 n, .int .i64 t] 58)) rfl (by rfl) (by simp [execOp, Instr.buildSlice, go_sem]) (.inr (GK.of_below (ext_alloc (ext_refl w2) _) fun k hk => Nat.lt_of_lt_of_le hk hz2)) rfl ?_
              have HSrc := Lib.hid (srcE_one (E := elemMo) (x := ⟨n, t⟩) (heap_alloc_new w2 (.cells #[.int .i64 n, .int .i64 t] 58)) rfl)
              have HM2 := Lib.hid (hm2.later ⟨w2.alloc (.cells #[.int .i64 n, .int .i64 t] 58), ext_alloc (ext_refl w2) _⟩)
              dsimp only at HM2
              simp only [Act.put, List.setIfInBounds_toArray, List.set_cons_succ, List.set_cons_zero]
              obtain ⟨bn, hbn⟩ : ∃ b, w2.heap.size = b := ⟨_, rfl⟩
              rw [hbn] at HSrc ⊢
              clear hm2 hz2 hbn
              refine wpT_append (E := elemMo) (i := 12) (d := some 82) (w0 := D) (v := v1) (v2 := .slice (some ⟨bn, 0, none⟩) 1 1) (xs := M.take k) (l2 := [⟨n, t⟩]) (by kernel_rfl) rfl (by rfl) rfl rfl rfl HM2.out HSrc.out (by rw [HLt.out]; show (k + 1) * 16 ≤ _; omega) (fun k hk => hk) rfl ?_
              intro v3 w3 hm3 hz3
              have HM3 := Lib.hid hm3
              have HD3 := Lib.hid (HDr.out.below hm3.2)
              clear hm3 hz3
              simp only [Act.put, List.setIfInBounds_toArray, List.set_cons_succ, List.set_cons_zero]
              refine wpT_append (E := elemMo) (i := 19) (d := some 89) (w0 := D) (v := v3) (v2 := .slice (some ⟨b, o + k * 2, none⟩) (M.length - k) (cap - k)) (xs := M.take k ++ [⟨n, t⟩]) (l2 := M.drop k) (by kernel_rfl) rfl (by rfl) rfl rfl rfl HM3.out HD3.out (by rw [List.length_append, HLt.out, HLd.out]; show (k + 1 + (M.length - k)) * 16 ≤ _; omega) (fun k hk => hk) rfl ?_
              intro v4 w4 hm4 hz4
              have HM4 := Lib.hid hm4
              have hq4 : w4.heap[m]? = some (.cells #[.slice (some ⟨b, o, none⟩) M.length cap] 28 (0, 0)) := ((HD.out.trans (hm4.2.mono HD.out.size)).block m hlt).trans HQ.out
              have m1 : w4.cell? ⟨m, 0, none⟩ = some (.slice (some ⟨b, o, none⟩) M.length cap) := by simp [World.cell?, hq4]
              have m2 : w4.frozen? ⟨m, 0, none⟩ = false := by simp [World.frozen?, hq4]
              have HFin : Hid (SetEnd m L ⟨n, t⟩ H w (.returned (.bool true)) (w4.setCell ⟨m, 0, none⟩ v4)) := Lib.hid ⟨by rw [HOk.out], by
                rw [HOk.out, if_pos rfl]
                exact HRc.out.trans fun H' hr => by
                  have := rc_done hr HD.out HM4.out hq4
                  rw [HEq.out] at this
                  exact this⟩
              clear hm4 hz4
              simp only [Act.put, List.setIfInBounds_toArray, List.set_cons_succ, List.set_cons_zero]
              refine wpT_batchK [20, 21] 1 rfl (by kernel_rfl) (by kernel_rfl) (by simp only [pickL, nthL, List.cons_append, List.nil_append]; rfl) ?_
              repeat (go_big_quiet_step (fail))
              refine wpQuiet_nil ?_
              obtain ⟨pv4, cv4, hv4, -⟩ := HM4.out.list.form
              refine wpT_store (i := 22) (w' := w4.setCell ⟨m, 0, none⟩ v4) (by kernel_rfl) rfl (by rfl) (by subst hv4; simp [execOp, go_sem, m1, m2]) (.inl rfl) rfl ?_
              clear hv4
              refine wpT_end (by kernel_rfl) ?_
              go_wp2_with fail
              go_ret
              exact HFin.out
            · refine opT_value (d := some 81) (v := .slice (some ⟨D.heap.size, 0, none⟩) 1 1) (w' := D.alloc (.cells #[.int .i64 n, .int .i64 t] 58)) rfl (by rfl) (by simp [execOp, Instr.buildSlice, go_sem]) (.inr (GK.of_below (ext_alloc (ext_refl D) _) fun k hk => hk)) rfl ?_
              simp only [Act.put, List.setIfInBounds_toArray, List.set_cons_succ, List.set_cons_zero]
              refine wpT_just (i := 7) (by kernel_rfl) ?_
              refine opT_append (E := elemMo) (d := some 77) (w0 := D.alloc (.cells #[.int .i64 n, .int .i64 t] 58)) (v := .slice none 0 0) (v2 := .slice (some ⟨b, o, none⟩) k cap) (xs := []) (l2 := M.take k) rfl (by rfl) rfl rfl rfl (madeE_nil (Below.refl _ _)) (HTk.out.below (ext_alloc (ext_refl D) _)) (by rw [HLt.out]; show (0 + k) * 16 ≤ _; omega) (fun k hk => Nat.lt_of_lt_of_le hk (ext_alloc (ext_refl D) _).size) rfl ?_
              intro v1 w2 hm2 hz2
              rw [List.nil_append] at hm2
              have HSrc := Lib.hid ((srcE_one (E := elemMo) (x := ⟨n, t⟩) (heap_alloc_new D (.cells #[.int .i64 n, .int .i64 t] 58)) rfl).below hm2.2)
              have HM2 := Lib.hid (hm2.base (ext_alloc (ext_refl D) _))
              simp only [Act.put, List.setIfInBounds_toArray, List.set_cons_succ, List.set_cons_zero]
              clear hm2 hz2
              refine wpT_append (E := elemMo) (i := 12) (d := some 82) (w0 := D) (v := v1) (v2 := .slice (some ⟨D.heap.size, 0, none⟩) 1 1) (xs := M.take k) (l2 := [⟨n, t⟩]) (by kernel_rfl) rfl (by rfl) rfl rfl rfl HM2.out HSrc.out (by rw [HLt.out]; show (k + 1) * 16 ≤ _; omega) (fun k hk => hk) rfl ?_
              intro v3 w3 hm3 hz3
              have HM3 := Lib.hid hm3
              have HD3 := Lib.hid (HDr.out.below hm3.2)
              clear hm3 hz3
              simp only [Act.put, List.setIfInBounds_toArray, List.set_cons_succ, List.set_cons_zero]
              refine wpT_append (E := elemMo) (i := 19) (d := some 89) (w0 := D) (v := v3) (v2 := .slice (some ⟨b, o + k * 2, none⟩) (M.length - k) (cap - k)) (xs := M.take k ++ [⟨n, t⟩]) (l2 := M.drop k) (by kernel_rfl) rfl (by rfl) rfl rfl rfl HM3.out HD3.out (by rw [List.length_append, HLt.out, HLd.out]; show (k + 1 + (M.length - k)) * 16 ≤ _; omega) (fun k hk => hk) rfl ?_
              intro v4 w4 hm4 hz4
              have HM4 := Lib.hid hm4
              have hq4 : w4.heap[m]? = some (.cells #[.slice (some ⟨b, o, none⟩) M.length cap] 28 (0, 0)) := ((HD.out.trans (hm4.2.mono HD.out.size)).block m hlt).trans HQ.out
              have m1 : w4.cell? ⟨m, 0, none⟩ = some (.slice (some ⟨b, o, none⟩) M.length cap) := by simp [World.cell?, hq4]
              have m2 : w4.frozen? ⟨m, 0, none⟩ = false := by simp [World.frozen?, hq4]
              have HFin : Hid (SetEnd m L ⟨n, t⟩ H w (.returned (.bool true)) (w4.setCell ⟨m, 0, none⟩ v4)) := Lib.hid ⟨by rw [HOk.out], by
                rw [HOk.out, if_pos rfl]
                exact HRc.out.trans fun H' hr => by
                  have := rc_done hr HD.out HM4.out hq4
                  rw [HEq.out] at this
                  exact this⟩
              clear hm4 hz4
              simp only [Act.put, List.setIfInBounds_toArray, List.set_cons_succ, List.set_cons_zero]
              refine wpT_batchK [20, 21] 1 rfl (by kernel_rfl) (by kernel_rfl) (by simp only [pickL, nthL, List.cons_append, List.nil_append]; rfl) ?_
              repeat (go_big_quiet_step (fail))
              refine wpQuiet_nil ?_
              obtain ⟨pv4, cv4, hv4, -⟩ := HM4.out.list.form
              refine wpT_store (i := 22) (w' := w4.setCell ⟨m, 0, none⟩ v4) (by kernel_rfl) rfl (by rfl) (by subst hv4; simp [execOp, go_sem, m1, m2]) (.inl rfl) rfl ?_
              clear hv4
              refine wpT_end (by kernel_rfl) ?_
              go_wp2_with fail
              go_ret
              exact HFin.out
          · have z2 : (ct == t) = true := by rw [beq_iff_eq]; exact h1
            have z3 : decide (cn < n) = false := by rw [decide_eq_false_iff_not]; omega
            have HEq : Hid (M.take k ++ [⟨n, t⟩] ++ M.drop k = setM L ⟨n, t⟩) := Lib.hid (by
              obtain ⟨h1, h2⟩ := takeWhile_at (p := fun x => lessM x ⟨n, t⟩) (L := M) (i := k) (by omega) HN.out hstop
              unfold setM insM
              rw [show cutM L (⟨n, t⟩ : Mo).n = M from HM.out, h1, h2, List.append_assoc]
              rfl)
            go_upto_region 7 with fail
            have HLt : Hid ((M.take k).length = k) := Lib.hid (by rw [List.length_take]; omega)
            have HLd : Hid ((M.drop k).length = M.length - k) := Lib.hid List.length_drop
            obtain ⟨D0, hD0⟩ : ∃ W, x.w = W := ⟨_, rfl⟩
            obtain ⟨D, hDD⟩ : ∃ W, D0.drew = W := ⟨_, rfl⟩
            have HD : Hid (Below w1.heap.size w1 D) := Lib.hid (by rw [← hDD, ← hD0]; exact ext_drew (ext_later (ext_refl w1) x))
            have HTk := Lib.hid ((HS.out.below HD.out).take (m := k) (by omega))
            have hdr := (HS.out.below HD.out).drop (m := k) (by omega)
            rw [if_neg (by omega), Option.map_some, addr_off] at hdr
            rw [show k * elemMo.k = k * 2 from rfl] at hdr
            have HDr := Lib.hid hdr
            have hd0 : D.cell? ⟨m, 0, none⟩ = some (.slice (some ⟨b, o, none⟩) M.length cap) := (HD.out.cell (p := ⟨m, 0, none⟩) hlt).trans e0
            have hml : m < D.heap.size := Nat.lt_of_lt_of_le hlt HD.out.size
            rw [hD0]
            refine wp_region_taken [22] (fun k => k < D.heap.size) (by kernel_rfl) (n := 23) rfl (fresh := Array.replicate 23 false) rfl ?_
            rw [hDD]
            clear hD0 hDD hdr
            refine wpT_batchK [0, 1, 2, 3, 4, 5, 6, 8, 9, 10, 13, 14, 15, 16, 17, 18] 7 rfl (by kernel_rfl) (by kernel_rfl) (by simp only [pickL, nthL, List.cons_append, List.nil_append]; rfl) ?_
            repeat (go_big_quiet_step (fail))
            refine wpQuiet_nil ?_
            refine wpT_two (i := 7) (j := 11) (by kernel_rfl) ?_ ?_
            · refine opT_append (E := elemMo) (d := some 77) (w0 := D) (v := .slice none 0 0) (v2 := .slice (some ⟨b, o, none⟩) k cap) (xs := []) (l2 := M.take k) rfl (by rfl) rfl rfl rfl (madeE_nil (Below.refl _ _)) HTk.out (by rw [HLt.out]; show (0 + k) * 16 ≤ _; omega) (fun k hk => hk) rfl ?_
              intro v1 w2 hm2 hz2
              rw [List.nil_append] at hm2
              simp only [Act.put, List.setIfInBounds_toArray, List.set_cons_succ, List.set_cons_zero]
              refine wpT_just (i := 11) (by kernel_rfl) ?_
              refine opT_value (d := some 81) (v := .slice (some ⟨w2.heap.size, 0, none⟩) 1 1) (w' := w2.alloc (.cells #[.int .i64 n, .int .i64 t] 58)) rfl (by rfl) (by simp [execOp, Instr.buildSlice, go_sem]) (.inr (GK.of_below (ext_alloc (ext_refl w2) _) fun k hk => Nat.lt_of_lt_of_le hk hz2)) rfl ?_
              have HSrc := Lib.hid (srcE_one (E := elemMo) (x := ⟨n, t⟩) (heap_alloc_new w2 (.cells #[.int .i64 n, .int .i64 t] 58)) rfl)
              have HM2 := Lib.hid (hm2.later ⟨w2.alloc (.cells #[.int .i64 n, .int .i64 t] 58), ext_alloc (ext_refl w2) _⟩)
              dsimp only at HM2
              simp only [Act.put, List.setIfInBounds_toArray, List.set_cons_succ, List.set_cons_zero]
              obtain ⟨bn, hbn⟩ : ∃ b, w2.heap.size = b := ⟨_, rfl⟩
              rw [hbn] at HSrc ⊢
              clear hm2 hz2 hbn
              refine wpT_append (E := elemMo) (i := 12) (d := some 82) (w0 := D) (v := v1) (v2 := .slice (some ⟨bn, 0, none⟩) 1 1) (xs := M.take k) (l2 := [⟨n, t⟩]) (by kernel_rfl) rfl (by rfl) rfl rfl rfl HM2.out HSrc.out (by rw [HLt.out]; show (k + 1) * 16 ≤ _; omega) (fun k hk => hk) rfl ?_
              intro v3 w3 hm3 hz3
              have HM3 := Lib.hid hm3
              have HD3 := Lib.hid (HDr.out.below hm3.2)
              clear hm3 hz3
              simp only [Act.put, List.setIfInBounds_toArray, List.set_cons_succ, List.set_cons_zero]
              refine wpT_append (E := elemMo) (i := 19) (d := some 89) (w0 := D) (v := v3) (v2 := .slice (some ⟨b, o + k * 2, none⟩) (M.length - k) (cap - k)) (xs := M.take k ++ [⟨n, t⟩]) (l2 := M.drop k) (by kernel_rfl) rfl (by rfl) rfl rfl rfl HM3.out HD3.out (by rw [List.length_append, HLt.out, HLd.out]; show (k + 1 + (M.length - k)) * 16 ≤ _; omega) (fun k hk => hk) rfl ?_
              intro v4 w4 hm4 hz4
              have HM4 := Lib.hid hm4
              have hq4 : w4.heap[m]? = some (.cells #[.slice (some ⟨b, o, none⟩) M.length cap] 28 (0, 0)) := ((HD.out.trans (hm4.2.mono HD.out.size)).block m hlt).trans HQ.out
              have m1 : w4.cell? ⟨m, 0, none⟩ = some (.slice (some ⟨b, o, none⟩) M.length cap) := by simp [World.cell?, hq4]
              have m2 : w4.frozen? ⟨m, 0, none⟩ = false := by simp [World.frozen?, hq4]
              have HFin : Hid (SetEnd m L ⟨n, t⟩ H w (.returned (.bool true)) (w4.setCell ⟨m, 0, none⟩ v4)) := Lib.hid ⟨by rw [HOk.out], by
                rw [HOk.out, if_pos rfl]
                exact HRc.out.trans fun H' hr => by
                  have := rc_done hr HD.out HM4.out hq4
                  rw [HEq.out] at this
                  exact this⟩
              clear hm4 hz4
              simp only [Act.put, List.setIfInBounds_toArray, List.set_cons_succ, List.set_cons_zero]
              refine wpT_batchK [20, 21] 1 rfl (by kernel_rfl) (by kernel_rfl) (by simp only [pickL, nthL, List.cons_append, List.nil_append]; rfl) ?_
              repeat (go_big_quiet_step (fail))
              refine wpQuiet_nil ?_
              obtain ⟨pv4, cv4, hv4, -⟩ := HM4.out.list.form
              refine wpT_store (i := 22) (w' := w4.setCell ⟨m, 0, none⟩ v4) (by kernel_rfl) rfl (by rfl) (by subst hv4; simp [execOp, go_sem, m1, m2]) (.inl rfl) rfl ?_
              clear hv4
              refine wpT_end (by kernel_rfl) ?_
              go_wp2_with fail
              go_ret
              exact HFin.out
            · refine opT_value (d := some 81) (v := .slice (some ⟨D.heap.size, 0, none⟩) 1 1) (w' := D.alloc (.cells #[.int .i64 n, .int .i64 t] 58)) rfl (by rfl) (by simp [execOp, Instr.buildSlice, go_sem]) (.inr (GK.of_below (ext_alloc (ext_refl D) _) fun k hk => hk)) rfl ?_
              simp only [Act.put, List.setIfInBounds_toArray, List.set_cons_succ, List.set_cons_zero]
              refine wpT_just (i := 7) (by kernel_rfl) ?_
              refine opT_append (E := elemMo) (d := some 77) (w0 := D.alloc (.cells #[.int .i64 n, .int .i64 t] 58)) (v := .slice none 0 0) (v2 := .slice (some ⟨b, o, none⟩) k cap) (xs := []) (l2 := M.take k) rfl (by rfl) rfl rfl rfl (madeE_nil (Below.refl _ _)) (HTk.out.below (ext_alloc (ext_refl D) _)) (by rw [HLt.out]; show (0 + k) * 16 ≤ _; omega) (fun k hk => Nat.lt_of_lt_of_le hk (ext_alloc (ext_refl D) _).size) rfl ?_
              intro v1 w2 hm2 hz2
              rw [List.nil_append] at hm2
              have HSrc := Lib.hid ((srcE_one (E := elemMo) (x := ⟨n, t⟩) (heap_alloc_new D (.cells #[.int .i64 n, .int .i64 t] 58)) rfl).below hm2.2)
              have HM2 := Lib.hid (hm2.base (ext_alloc (ext_refl D) _))
              simp only [Act.put, List.setIfInBounds_toArray, List.set_cons_succ, List.set_cons_zero]
              clear hm2 hz2
              refine wpT_append (E := elemMo) (i := 12) (d := some 82) (w0 := D) (v := v1) (v2 := .slice (some ⟨D.heap.size, 0, none⟩) 1 1) (xs := M.take k) (l2 := [⟨n, t⟩]) (by kernel_rfl) rfl (by rfl) rfl rfl rfl HM2.out HSrc.out (by rw [HLt.out]; show (k + 1) * 16 ≤ _; omega) (fun k hk => hk) rfl ?_
              intro v3 w3 hm3 hz3
              have HM3 := Lib.hid hm3
              have HD3 := Lib.hid (HDr.out.below hm3.2)
              clear hm3 hz3
              simp only [Act.put, List.setIfInBounds_toArray, List.set_cons_succ, List.set_cons_zero]
              refine wpT_append (E := elemMo) (i := 19) (d := some 89) (w0 := D) (v := v3) (v2 := .slice (some ⟨b, o + k * 2, none⟩) (M.length - k) (cap - k)) (xs := M.take k ++ [⟨n, t⟩]) (l2 := M.drop k) (by kernel_rfl) rfl (by rfl) rfl rfl rfl HM3.out HD3.out (by rw [List.length_append, HLt.out, HLd.out]; show (k + 1 + (M.length - k)) * 16 ≤ _; omega) (fun k hk => hk) rfl ?_
              intro v4 w4 hm4 hz4
              have HM4 := Lib.hid hm4
              have hq4 : w4.heap[m]? = some (.cells #[.slice (some ⟨b, o, none⟩) M.length cap] 28 (0, 0)) := ((HD.out.trans (hm4.2.mono HD.out.size)).block m hlt).trans HQ.out
              have m1 : w4.cell? ⟨m, 0, none⟩ = some (.slice (some ⟨b, o, none⟩) M.length cap) := by simp [World.cell?, hq4]
              have m2 : w4.frozen? ⟨m, 0, none⟩ = false := by simp [World.frozen?, hq4]
              have HFin : Hid (SetEnd m L ⟨n, t⟩ H w (.returned (.bool true)) (w4.setCell ⟨m, 0, none⟩ v4)) := Lib.hid ⟨by rw [HOk.out], by
                rw [HOk.out, if_pos rfl]
                exact HRc.out.trans fun H' hr => by
                  have := rc_done hr HD.out HM4.out hq4
                  rw [HEq.out] at this
                  exact this⟩
              clear hm4 hz4
              simp only [Act.put, List.setIfInBounds_toArray, List.set_cons_succ, List.set_cons_zero]
              refine wpT_batchK [20, 21] 1 rfl (by kernel_rfl) (by kernel_rfl) (by simp only [pickL, nthL, List.cons_append, List.nil_append]; rfl) ?_
              repeat (go_big_quiet_step (fail))
              refine wpQuiet_nil ?_
              obtain ⟨pv4, cv4, hv4, -⟩ := HM4.out.list.form
              refine wpT_store (i := 22) (w' := w4.setCell ⟨m, 0, none⟩ v4) (by kernel_rfl) rfl (by rfl) (by subst hv4; simp [execOp, go_sem, m1, m2]) (.inl rfl) rfl ?_
              clear hv4
              refine wpT_end (by kernel_rfl) ?_
              go_wp2_with fail
              go_ret
              exact HFin.out
      · have hkM : k = M.length := by omega
        have hstop : ∀ y, M[k]? = some y → lessM y ⟨n, t⟩ = false := fun y hy => by rw [hkM] at hy; simp at hy
        have HkM := Lib.hid hkM
        clear hkM
        have hkd : decide ((k : Int) < (M.length : Int)) = false := by simp; omega
        by_cases hM0 : M = []
        · obtain rfl : k = 0 := by rw [hM0] at hk; simpa using hk
          subst hM0
          rw [List.length_nil] at e0 HS HQ hkd
          cases p with
          | none =>
            obtain rfl : cap = 0 := by
              obtain ⟨_, p', cap', e, _, h1⟩ := HS.out
              obtain ⟨rfl, _, rfl⟩ := Value.slice.inj e
              exact h1 rfl
            go_upto_region 7 with fail
            have HLt : Hid (([] : List Mo).length = 0) := Lib.hid rfl
            have HEq : Hid (([] : List Mo) ++ [⟨n, t⟩] ++ [] = setM L ⟨n, t⟩) := Lib.hid (by unfold setM; rw [show cutM L (⟨n, t⟩ : Mo).n = [] from HM.out]; rfl)
            obtain ⟨D0, hD0⟩ : ∃ W, x.w = W := ⟨_, rfl⟩
            obtain ⟨D, hDD⟩ : ∃ W, D0.drew = W := ⟨_, rfl⟩
            have HD : Hid (Below w1.heap.size w1 D) := Lib.hid (by rw [← hDD, ← hD0]; exact ext_drew (ext_later (ext_refl w1) x))
            have HTk : Hid (SrcE elemMo D (.slice none 0 0) []) := Lib.hid ⟨.inl ⟨rfl, _, _, rfl⟩, _, _, rfl, Nat.zero_le _, fun h => by cases h <;> rfl⟩
            have HDr : Hid (SrcE elemMo D (.slice none 0 0) []) := Lib.hid ⟨.inl ⟨rfl, _, _, rfl⟩, _, _, rfl, Nat.zero_le _, fun h => by cases h <;> rfl⟩
            have hd0 : D.cell? ⟨m, 0, none⟩ = some (.slice none 0 0) := (HD.out.cell (p := ⟨m, 0, none⟩) hlt).trans e0
            have hml : m < D.heap.size := Nat.lt_of_lt_of_le hlt HD.out.size
            rw [hD0]
            refine wp_region_taken [22] (fun k => k < D.heap.size) (by kernel_rfl) (n := 23) rfl (fresh := Array.replicate 23 false) rfl ?_
            rw [hDD]
            clear hD0 hDD
            refine wpT_batchK [0, 1, 2, 3, 4, 5, 6, 8, 9, 10, 13, 14, 15, 16, 17, 18] 7 rfl (by kernel_rfl) (by kernel_rfl) (by simp only [pickL, nthL, List.cons_append, List.nil_append]; rfl) ?_
            repeat (go_big_quiet_step (fail))
            refine wpQuiet_nil ?_
            refine wpT_two (i := 7) (j := 11) (by kernel_rfl) ?_ ?_
            · refine opT_append (E := elemMo) (d := some 77) (w0 := D) (v := .slice none 0 0) (v2 := .slice none 0 0) (xs := []) (l2 := ([] : List Mo)) rfl (by rfl) rfl rfl rfl (madeE_nil (Below.refl _ _)) HTk.out (by rw [HLt.out]; show (0 + 0) * 16 ≤ _; omega) (fun k hk => hk) rfl ?_
              intro v1 w2 hm2 hz2
              rw [List.nil_append] at hm2
              simp only [Act.put, List.setIfInBounds_toArray, List.set_cons_succ, List.set_cons_zero]
              refine wpT_just (i := 11) (by kernel_rfl) ?_
              refine opT_value (d := some 81) (v := .slice (some ⟨w2.heap.size, 0, none⟩) 1 1) (w' := w2.alloc (.cells #[.int .i64 n, .int .i64 t] 58)) rfl (by rfl) (by simp [execOp, Instr.buildSlice, go_sem]) (.inr (GK.of_below (ext_alloc (ext_refl w2) _) fun k hk => Nat.lt_of_lt_of_le hk hz2)) rfl ?_
              have HSrc := Lib.hid (srcE_one (E := elemMo) (x := ⟨n, t⟩) (heap_alloc_new w2 (.cells #[.int .i64 n, .int .i64 t] 58)) rfl)
              have HM2 := Lib.hid (hm2.later ⟨w2.alloc (.cells #[.int .i64 n, .int .i64 t] 58), ext_alloc (ext_refl w2) _⟩)
              dsimp only at HM2
              simp only [Act.put, List.setIfInBounds_toArray, List.set_cons_succ, List.set_cons_zero]
              obtain ⟨bn, hbn⟩ : ∃ b, w2.heap.size = b := ⟨_, rfl⟩
              rw [hbn] at HSrc ⊢
              clear hm2 hz2 hbn
              refine wpT_append (E := elemMo) (i := 12) (d := some 82) (w0 := D) (v := v1) (v2 := .slice (some ⟨bn, 0, none⟩) 1 1) (xs := ([] : List Mo)) (l2 := [⟨n, t⟩]) (by kernel_rfl) rfl (by rfl) rfl rfl rfl HM2.out HSrc.out (by rw [HLt.out]; show (0 + 1) * 16 ≤ _; omega) (fun k hk => hk) rfl ?_
              intro v3 w3 hm3 hz3
              have HM3 := Lib.hid hm3
              have HD3 := Lib.hid (HDr.out.below hm3.2)
              clear hm3 hz3
              simp only [Act.put, List.setIfInBounds_toArray, List.set_cons_succ, List.set_cons_zero]
              refine wpT_append (E := elemMo) (i := 19) (d := some 89) (w0 := D) (v := v3) (v2 := .slice none 0 0) (xs := ([] : List Mo) ++ [⟨n, t⟩]) (l2 := ([] : List Mo)) (by kernel_rfl) rfl (by rfl) rfl rfl rfl HM3.out HD3.out (by rw [List.length_append, HLt.out]; show (0 + 1 + 0) * 16 ≤ _; omega) (fun k hk => hk) rfl ?_
              intro v4 w4 hm4 hz4
              have HM4 := Lib.hid hm4
              have hq4 : w4.heap[m]? = some (.cells #[.slice none 0 0] 28 (0, 0)) := ((HD.out.trans (hm4.2.mono HD.out.size)).block m hlt).trans HQ.out
              have m1 : w4.cell? ⟨m, 0, none⟩ = some (.slice none 0 0) := by simp [World.cell?, hq4]
              have m2 : w4.frozen? ⟨m, 0, none⟩ = false := by simp [World.frozen?, hq4]
              have HFin : Hid (SetEnd m L ⟨n, t⟩ H w (.returned (.bool true)) (w4.setCell ⟨m, 0, none⟩ v4)) := Lib.hid ⟨by rw [HOk.out], by
                rw [HOk.out, if_pos rfl]
                exact HRc.out.trans fun H' hr => by
                  have := rc_done hr HD.out HM4.out hq4
                  rw [HEq.out] at this
                  exact this⟩
              clear hm4 hz4
              simp only [Act.put, List.setIfInBounds_toArray, List.set_cons_succ, List.set_cons_zero]
              refine wpT_batchK [20, 21] 1 rfl (by kernel_rfl) (by kernel_rfl) (by simp only [pickL, nthL, List.cons_append, List.nil_append]; rfl) ?_
              repeat (go_big_quiet_step (fail))
              refine wpQuiet_nil ?_
              obtain ⟨pv4, cv4, hv4, -⟩ := HM4.out.list.form
              refine wpT_store (i := 22) (w' := w4.setCell ⟨m, 0, none⟩ v4) (by kernel_rfl) rfl (by rfl) (by subst hv4; simp [execOp, go_sem, m1, m2]) (.inl rfl) rfl ?_
              clear hv4
              refine wpT_end (by kernel_rfl) ?_
              go_wp2_with fail
              go_ret
              exact HFin.out
            · refine opT_value (d := some 81) (v := .slice (some ⟨D.heap.size, 0, none⟩) 1 1) (w' := D.alloc (.cells #[.int .i64 n, .int .i64 t] 58)) rfl (by rfl) (by simp [execOp, Instr.buildSlice, go_sem]) (.inr (GK.of_below (ext_alloc (ext_refl D) _) fun k hk => hk)) rfl ?_
              simp only [Act.put, List.setIfInBounds_toArray, List.set_cons_succ, List.set_cons_zero]
              refine wpT_just (i := 7) (by kernel_rfl) ?_
              refine opT_append (E := elemMo) (d := some 77) (w0 := D.alloc (.cells #[.int .i64 n, .int .i64 t] 58)) (v := .slice none 0 0) (v2 := .slice none 0 0) (xs := []) (l2 := ([] : List Mo)) rfl (by rfl) rfl rfl rfl (madeE_nil (Below.refl _ _)) (HTk.out.below (ext_alloc (ext_refl D) _)) (by rw [HLt.out]; show (0 + 0) * 16 ≤ _; omega) (fun k hk => Nat.lt_of_lt_of_le hk (ext_alloc (ext_refl D) _).size) rfl ?_
              intro v1 w2 hm2 hz2
              rw [List.nil_append] at hm2
              have HSrc := Lib.hid ((srcE_one (E := elemMo) (x := ⟨n, t⟩) (heap_alloc_new D (.cells #[.int .i64 n, .int .i64 t] 58)) rfl).below hm2.2)
              have HM2 := Lib.hid (hm2.base (ext_alloc (ext_refl D) _))
              simp only [Act.put, List.setIfInBounds_toArray, List.set_cons_succ, List.set_cons_zero]
              clear hm2 hz2
              refine wpT_append (E := elemMo) (i := 12) (d := some 82) (w0 := D) (v := v1) (v2 := .slice (some ⟨D.heap.size, 0, none⟩) 1 1) (xs := ([] : List Mo)) (l2 := [⟨n, t⟩]) (by kernel_rfl) rfl (by rfl) rfl rfl rfl HM2.out HSrc.out (by rw [HLt.out]; show (0 + 1) * 16 ≤ _; omega) (fun k hk => hk) rfl ?_
              intro v3 w3 hm3 hz3
              have HM3 := Lib.hid hm3
              have HD3 := Lib.hid (HDr.out.below hm3.2)
              clear hm3 hz3
              simp only [Act.put, List.setIfInBounds_toArray, List.set_cons_succ, List.set_cons_zero]
              refine wpT_append (E := elemMo) (i := 19) (d := some 89) (w0 := D) (v := v3) (v2 := .slice none 0 0) (xs := ([] : List Mo) ++ [⟨n, t⟩]) (l2 := ([] : List Mo)) (by kernel_rfl) rfl (by rfl) rfl rfl rfl HM3.out HD3.out (by rw [List.length_append, HLt.out]; show (0 + 1 + 0) * 16 ≤ _; omega) (fun k hk => hk) rfl ?_
              intro v4 w4 hm4 hz4
              have HM4 := Lib.hid hm4
              have hq4 : w4.heap[m]? = some (.cells #[.slice none 0 0] 28 (0, 0)) := ((HD.out.trans (hm4.2.mono HD.out.size)).block m hlt).trans HQ.out
              have m1 : w4.cell? ⟨m, 0, none⟩ = some (.slice none 0 0) := by simp [World.cell?, hq4]
              have m2 : w4.frozen? ⟨m, 0, none⟩ = false := by simp [World.frozen?, hq4]
              have HFin : Hid (SetEnd m L ⟨n, t⟩ H w (.returned (.bool true)) (w4.setCell ⟨m, 0, none⟩ v4)) := Lib.hid ⟨by rw [HOk.out], by
                rw [HOk.out, if_pos rfl]
                exact HRc.out.trans fun H' hr => by
                  have := rc_done hr HD.out HM4.out hq4
                  rw [HEq.out] at this
                  exact this⟩
              clear hm4 hz4
              simp only [Act.put, List.setIfInBounds_toArray, List.set_cons_succ, List.set_cons_zero]
              refine wpT_batchK [20, 21] 1 rfl (by kernel_rfl) (by kernel_rfl) (by simp only [pickL, nthL, List.cons_append, List.nil_append]; rfl) ?_
              repeat (go_big_quiet_step (fail))
              refine wpQuiet_nil ?_
              obtain ⟨pv4, cv4, hv4, -⟩ := HM4.out.list.form
              refine wpT_store (i := 22) (w' := w4.setCell ⟨m, 0, none⟩ v4) (by kernel_rfl) rfl (by rfl) (by subst hv4; simp [execOp, go_sem, m1, m2]) (.inl rfl) rfl ?_
              clear hv4
              refine wpT_end (by kernel_rfl) ?_
              go_wp2_with fail
              go_ret
              exact HFin.out
          | some ad =>
            by_cases hkc2 : 0 < cap
            · go_upto_region 7 with fail
              have HLt : Hid (([] : List Mo).length = 0) := Lib.hid rfl
              have HEq : Hid (([] : List Mo) ++ [⟨n, t⟩] ++ [] = setM L ⟨n, t⟩) := Lib.hid (by unfold setM; rw [show cutM L (⟨n, t⟩ : Mo).n = [] from HM.out]; rfl)
              obtain ⟨D0, hD0⟩ : ∃ W, x.w = W := ⟨_, rfl⟩
              obtain ⟨D, hDD⟩ : ∃ W, D0.drew = W := ⟨_, rfl⟩
              have HD : Hid (Below w1.heap.size w1 D) := Lib.hid (by rw [← hDD, ← hD0]; exact ext_drew (ext_later (ext_refl w1) x))
              have HTk : Hid (SrcE elemMo D (.slice (some ad) 0 cap) []) := Lib.hid ⟨.inl ⟨rfl, _, _, rfl⟩, _, _, rfl, Nat.zero_le _, fun h => by cases h <;> rfl⟩
              have HDr : Hid (SrcE elemMo D (.slice (some ad) 0 cap) []) := Lib.hid ⟨.inl ⟨rfl, _, _, rfl⟩, _, _, rfl, Nat.zero_le _, fun h => by cases h <;> rfl⟩
              have hd0 : D.cell? ⟨m, 0, none⟩ = some (.slice (some ad) 0 cap) := (HD.out.cell (p := ⟨m, 0, none⟩) hlt).trans e0
              have hml : m < D.heap.size := Nat.lt_of_lt_of_le hlt HD.out.size
              rw [hD0]
              refine wp_region_taken [22] (fun k => k < D.heap.size) (by kernel_rfl) (n := 23) rfl (fresh := Array.replicate 23 false) rfl ?_
              rw [hDD]
              clear hD0 hDD
              refine wpT_batchK [0, 1, 2, 3, 4, 5, 6, 8, 9, 10, 13, 14, 15, 16, 17, 18] 7 rfl (by kernel_rfl) (by kernel_rfl) (by simp only [pickL, nthL, List.cons_append, List.nil_append]; rfl) ?_
              repeat (go_big_quiet_step (fail))
              refine wpQuiet_nil ?_
              refine wpT_two (i := 7) (j := 11) (by kernel_rfl) ?_ ?_
              · refine opT_append (E := elemMo) (d := some 77) (w0 := D) (v := .slice none 0 0) (v2 := .slice (some ad) 0 cap) (xs := []) (l2 := ([] : List Mo)) rfl (by rfl) rfl rfl rfl (madeE_nil (Below.refl _ _)) HTk.out (by rw [HLt.out]; show (0 + 0) * 16 ≤ _; omega) (fun k hk => hk) rfl ?_
                intro v1 w2 hm2 hz2
                rw [List.nil_append] at hm2
                simp only [Act.put, List.setIfInBounds_toArray, List.set_cons_succ, List.set_cons_zero]
                refine wpT_just (i := 11) (by kernel_rfl) ?_
                refine opT_value (d := some 81) (v := .slice (some ⟨w2.heap.size, 0, none⟩) 1 1) (w' := w2.alloc (.cells #[.int .i64 n, .int .i64 t] 58)) rfl (by rfl) (by simp [execOp, Instr.buildSlice, go_sem]) (.inr (GK.of_below (ext_alloc (ext_refl w2) _) fun k hk => Nat.lt_of_lt_of_le hk hz2)) rfl ?_
                have HSrc := Lib.hid (srcE_one (E := elemMo) (x := ⟨n, t⟩) (heap_alloc_new w2 (.cells #[.int .i64 n, .int .i64 t] 58)) rfl)
                have HM2 := Lib.hid (hm2.later ⟨w2.alloc (.cells #[.int .i64 n, .int .i64 t] 58), ext_alloc (ext_refl w2) _⟩)
                dsimp only at HM2
                simp only [Act.put, List.setIfInBounds_toArray, List.set_cons_succ, List.set_cons_zero]
                obtain ⟨bn, hbn⟩ : ∃ b, w2.heap.size = b := ⟨_, rfl⟩
                rw [hbn] at HSrc ⊢
                clear hm2 hz2 hbn
                refine wpT_append (E := elemMo) (i := 12) (d := some 82) (w0 := D) (v := v1) (v2 := .slice (some ⟨bn, 0, none⟩) 1 1) (xs := ([] : List Mo)) (l2 := [⟨n, t⟩]) (by kernel_rfl) rfl (by rfl) rfl rfl rfl HM2.out HSrc.out (by rw [HLt.out]; show (0 + 1) * 16 ≤ _; omega) (fun k hk => hk) rfl ?_
                intro v3 w3 hm3 hz3
                have HM3 := Lib.hid hm3
                have HD3 := Lib.hid (HDr.out.below hm3.2)
                clear hm3 hz3
                simp only [Act.put, List.setIfInBounds_toArray, List.set_cons_succ, List.set_cons_zero]
                refine wpT_append (E := elemMo) (i := 19) (d := some 89) (w0 := D) (v := v3) (v2 := .slice (some ad) 0 cap) (xs := ([] : List Mo) ++ [⟨n, t⟩]) (l2 := ([] : List Mo)) (by kernel_rfl) rfl (by rfl) rfl rfl rfl HM3.out HD3.out (by rw [List.length_append, HLt.out]; show (0 + 1 + 0) * 16 ≤ _; omega) (fun k hk => hk) rfl ?_
                intro v4 w4 hm4 hz4
                have HM4 := Lib.hid hm4
                have hq4 : w4.heap[m]? = some (.cells #[.slice (some ad) 0 cap] 28 (0, 0)) := ((HD.out.trans (hm4.2.mono HD.out.size)).block m hlt).trans HQ.out
                have m1 : w4.cell? ⟨m, 0, none⟩ = some (.slice (some ad) 0 cap) := by simp [World.cell?, hq4]
                have m2 : w4.frozen? ⟨m, 0, none⟩ = false := by simp [World.frozen?, hq4]
                have HFin : Hid (SetEnd m L ⟨n, t⟩ H w (.returned (.bool true)) (w4.setCell ⟨m, 0, none⟩ v4)) := Lib.hid ⟨by rw [HOk.out], by
                  rw [HOk.out, if_pos rfl]
                  exact HRc.out.trans fun H' hr => by
                    have := rc_done hr HD.out HM4.out hq4
                    rw [HEq.out] at this
                    exact this⟩
                clear hm4 hz4
                simp only [Act.put, List.setIfInBounds_toArray, List.set_cons_succ, List.set_cons_zero]
                refine wpT_batchK [20, 21] 1 rfl (by kernel_rfl) (by kernel_rfl) (by simp only [pickL, nthL, List.cons_append, List.nil_append]; rfl) ?_
                repeat (go_big_quiet_step (fail))
                refine wpQuiet_nil ?_
                obtain ⟨pv4, cv4, hv4, -⟩ := HM4.out.list.form
                refine wpT_store (i := 22) (w' := w4.setCell ⟨m, 0, none⟩ v4) (by kernel_rfl) rfl (by rfl) (by subst hv4; simp [execOp, go_sem, m1, m2]) (.inl rfl) rfl ?_
                clear hv4
                refine wpT_end (by kernel_rfl) ?_
                go_wp2_with fail
                go_ret
                exact HFin.out
              · refine opT_value (d := some 81) (v := .slice (some ⟨D.heap.size, 0, none⟩) 1 1) (w' := D.alloc (.cells #[.int .i64 n, .int .i64 t] 58)) rfl (by rfl) (by simp [execOp, Instr.buildSlice, go_sem]) (.inr (GK.of_below (ext_alloc (ext_refl D) _) fun k hk => hk)) rfl ?_
                simp only [Act.put, List.setIfInBounds_toArray, List.set_cons_succ, List.set_cons_zero]
                refine wpT_just (i := 7) (by kernel_rfl) ?_
                refine opT_append (E := elemMo) (d := some 77) (w0 := D.alloc (.cells #[.int .i64 n, .int .i64 t] 58)) (v := .slice none 0 0) (v2 := .slice (some ad) 0 cap) (xs := []) (l2 := ([] : List Mo)) rfl (by rfl) rfl rfl rfl (madeE_nil (Below.refl _ _)) (HTk.out.below (ext_alloc (ext_refl D) _)) (by rw [HLt.out]; show (0 + 0) * 16 ≤ _; omega) (fun k hk => Nat.lt_of_lt_of_le hk (ext_alloc (ext_refl D) _).size) rfl ?_
                intro v1 w2 hm2 hz2
                rw [List.nil_append] at hm2
                have HSrc := Lib.hid ((srcE_one (E := elemMo) (x := ⟨n, t⟩) (heap_alloc_new D (.cells #[.int .i64 n, .int .i64 t] 58)) rfl).below hm2.2)
                have HM2 := Lib.hid (hm2.base (ext_alloc (ext_refl D) _))
                simp only [Act.put, List.setIfInBounds_toArray, List.set_cons_succ, List.set_cons_zero]
                clear hm2 hz2
                refine wpT_append (E := elemMo) (i := 12) (d := some 82) (w0 := D) (v := v1) (v2 := .slice (some ⟨D.heap.size, 0, none⟩) 1 1) (xs := ([] : List Mo)) (l2 := [⟨n, t⟩]) (by kernel_rfl) rfl (by rfl) rfl rfl rfl HM2.out HSrc.out (by rw [HLt.out]; show (0 + 1) * 16 ≤ _; omega) (fun k hk => hk) rfl ?_
                intro v3 w3 hm3 hz3
                have HM3 := Lib.hid hm3
                have HD3 := Lib.hid (HDr.out.below hm3.2)
                clear hm3 hz3
                simp only [Act.put, List.setIfInBounds_toArray, List.set_cons_succ, List.set_cons_zero]
                refine wpT_append (E := elemMo) (i := 19) (d := some 89) (w0 := D) (v := v3) (v2 := .slice (some ad) 0 cap) (xs := ([] : List Mo) ++ [⟨n, t⟩]) (l2 := ([] : List Mo)) (by kernel_rfl) rfl (by rfl) rfl rfl rfl HM3.out HD3.out (by rw [List.length_append, HLt.out]; show (0 + 1 + 0) * 16 ≤ _; omega) (fun k hk => hk) rfl ?_
                intro v4 w4 hm4 hz4
                have HM4 := Lib.hid hm4
                have hq4 : w4.heap[m]? = some (.cells #[.slice (some ad) 0 cap] 28 (0, 0)) := ((HD.out.trans (hm4.2.mono HD.out.size)).block m hlt).trans HQ.out
                have m1 : w4.cell? ⟨m, 0, none⟩ = some (.slice (some ad) 0 cap) := by simp [World.cell?, hq4]
                have m2 : w4.frozen? ⟨m, 0, none⟩ = false := by simp [World.frozen?, hq4]
                have HFin : Hid (SetEnd m L ⟨n, t⟩ H w (.returned (.bool true)) (w4.setCell ⟨m, 0, none⟩ v4)) := Lib.hid ⟨by rw [HOk.out], by
                  rw [HOk.out, if_pos rfl]
                  exact HRc.out.trans fun H' hr => by
                    have := rc_done hr HD.out HM4.out hq4
                    rw [HEq.out] at this
                    exact this⟩
                clear hm4 hz4
                simp only [Act.put, List.setIfInBounds_toArray, List.set_cons_succ, List.set_cons_zero]
                refine wpT_batchK [20, 21] 1 rfl (by kernel_rfl) (by kernel_rfl) (by simp only [pickL, nthL, List.cons_append, List.nil_append]; rfl) ?_
                repeat (go_big_quiet_step (fail))
                refine wpQuiet_nil ?_
                obtain ⟨pv4, cv4, hv4, -⟩ := HM4.out.list.form
                refine wpT_store (i := 22) (w' := w4.setCell ⟨m, 0, none⟩ v4) (by kernel_rfl) rfl (by rfl) (by subst hv4; simp [execOp, go_sem, m1, m2]) (.inl rfl) rfl ?_
                clear hv4
                refine wpT_end (by kernel_rfl) ?_
                go_wp2_with fail
                go_ret
                exact HFin.out
            · obtain rfl : cap = 0 := by omega
              go_upto_region 7 with fail
              have HLt : Hid (([] : List Mo).length = 0) := Lib.hid rfl
              have HEq : Hid (([] : List Mo) ++ [⟨n, t⟩] ++ [] = setM L ⟨n, t⟩) := Lib.hid (by unfold setM; rw [show cutM L (⟨n, t⟩ : Mo).n = [] from HM.out]; rfl)
              obtain ⟨D0, hD0⟩ : ∃ W, x.w = W := ⟨_, rfl⟩
              obtain ⟨D, hDD⟩ : ∃ W, D0.drew = W := ⟨_, rfl⟩
              have HD : Hid (Below w1.heap.size w1 D) := Lib.hid (by rw [← hDD, ← hD0]; exact ext_drew (ext_later (ext_refl w1) x))
              have HTk : Hid (SrcE elemMo D (.slice (some ad) 0 0) []) := Lib.hid ⟨.inl ⟨rfl, _, _, rfl⟩, _, _, rfl, Nat.zero_le _, fun h => by cases h <;> rfl⟩
              have HDr : Hid (SrcE elemMo D (.slice (some ad) 0 0) []) := Lib.hid ⟨.inl ⟨rfl, _, _, rfl⟩, _, _, rfl, Nat.zero_le _, fun h => by cases h <;> rfl⟩
              have hd0 : D.cell? ⟨m, 0, none⟩ = some (.slice (some ad) 0 0) := (HD.out.cell (p := ⟨m, 0, none⟩) hlt).trans e0
              have hml : m < D.heap.size := Nat.lt_of_lt_of_le hlt HD.out.size
              rw [hD0]
              refine wp_region_taken [22] (fun k => k < D.heap.size) (by kernel_rfl) (n := 23) rfl (fresh := Array.replicate 23 false) rfl ?_
              rw [hDD]
              clear hD0 hDD
              refine wpT_batchK [0, 1, 2, 3, 4, 5, 6, 8, 9, 10, 13, 14, 15, 16, 17, 18] 7 rfl (by kernel_rfl) (by kernel_rfl) (by simp only [pickL, nthL, List.cons_append, List.nil_append]; rfl) ?_
              repeat (go_big_quiet_step (fail))
              refine wpQuiet_nil ?_
              refine wpT_two (i := 7) (j := 11) (by kernel_rfl) ?_ ?_
              · refine opT_append (E := elemMo) (d := some 77) (w0 := D) (v := .slice none 0 0) (v2 := .slice (some ad) 0 0) (xs := []) (l2 := ([] : List Mo)) rfl (by rfl) rfl rfl rfl (madeE_nil (Below.refl _ _)) HTk.out (by rw [HLt.out]; show (0 + 0) * 16 ≤ _; omega) (fun k hk => hk) rfl ?_
                intro v1 w2 hm2 hz2
                rw [List.nil_append] at hm2
                simp only [Act.put, List.setIfInBounds_toArray, List.set_cons_succ, List.set_cons_zero]
                refine wpT_just (i := 11) (by kernel_rfl) ?_
                refine opT_value (d := some 81) (v := .slice (some ⟨w2.heap.size, 0, none⟩) 1 1) (w' := w2.alloc (.cells #[.int .i64 n, .int .i64 t] 58)) rfl (by rfl) (by simp [execOp, Instr.buildSlice, go_sem]) (.inr (GK.of_below (ext_alloc (ext_refl w2) _) fun k hk => Nat.lt_of_lt_of_le hk hz2)) rfl ?_
                have HSrc := Lib.hid (srcE_one (E := elemMo) (x := ⟨n, t⟩) (heap_alloc_new w2 (.cells #[.int .i64 n, .int .i64 t] 58)) rfl)
                have HM2 := Lib.hid (hm2.later ⟨w2.alloc (.cells #[.int .i64 n, .int .i64 t] 58), ext_alloc (ext_refl w2) _⟩)
                dsimp only at HM2
                simp only [Act.put, List.setIfInBounds_toArray, List.set_cons_succ, List.set_cons_zero]
                obtain ⟨bn, hbn⟩ : ∃ b, w2.heap.size = b := ⟨_, rfl⟩
                rw [hbn] at HSrc ⊢
                clear hm2 hz2 hbn
                refine wpT_append (E := elemMo) (i := 12) (d := some 82) (w0 := D) (v := v1) (v2 := .slice (some ⟨bn, 0, none⟩) 1 1) (xs := ([] : List Mo)) (l2 := [⟨n, t⟩]) (by kernel_rfl) rfl (by rfl) rfl rfl rfl HM2.out HSrc.out (by rw [HLt.out]; show (0 + 1) * 16 ≤ _; omega) (fun k hk => hk) rfl ?_
                intro v3 w3 hm3 hz3
                have HM3 := Lib.hid hm3
                have HD3 := Lib.hid (HDr.out.below hm3.2)
                clear hm3 hz3
                simp only [Act.put, List.setIfInBounds_toArray, List.set_cons_succ, List.set_cons_zero]
                refine wpT_append (E := elemMo) (i := 19) (d := some 89) (w0 := D) (v := v3) (v2 := .slice (some ad) 0 0) (xs := ([] : List Mo) ++ [⟨n, t⟩]) (l2 := ([] : List Mo)) (by kernel_rfl) rfl (by rfl) rfl rfl rfl HM3.out HD3.out (by rw [List.length_append, HLt.out]; show (0 + 1 + 0) * 16 ≤ _; omega) (fun k hk => hk) rfl ?_
                intro v4 w4 hm4 hz4
                have HM4 := Lib.hid hm4
                have hq4 : w4.heap[m]? = some (.cells #[.slice (some ad) 0 0] 28 (0, 0)) := ((HD.out.trans (hm4.2.mono HD.out.size)).block m hlt).trans HQ.out
                have m1 : w4.cell? ⟨m, 0, none⟩ = some (.slice (some ad) 0 0) := by simp [World.cell?, hq4]
                have m2 : w4.frozen? ⟨m, 0, none⟩ = false := by simp [World.frozen?, hq4]
                have HFin : Hid (SetEnd m L ⟨n, t⟩ H w (.returned (.bool true)) (w4.setCell ⟨m, 0, none⟩ v4)) := Lib.hid ⟨by rw [HOk.out], by
                  rw [HOk.out, if_pos rfl]
                  exact HRc.out.trans fun H' hr => by
                    have := rc_done hr HD.out HM4.out hq4
                    rw [HEq.out] at this
                    exact this⟩
                clear hm4 hz4
                simp only [Act.put, List.setIfInBounds_toArray, List.set_cons_succ, List.set_cons_zero]
                refine wpT_batchK [20, 21] 1 rfl (by kernel_rfl) (by kernel_rfl) (by simp only [pickL, nthL, List.cons_append, List.nil_append]; rfl) ?_
                repeat (go_big_quiet_step (fail))
                refine wpQuiet_nil ?_
                obtain ⟨pv4, cv4, hv4, -⟩ := HM4.out.list.form
                refine wpT_store (i := 22) (w' := w4.setCell ⟨m, 0, none⟩ v4) (by kernel_rfl) rfl (by rfl) (by subst hv4; simp [execOp, go_sem, m1, m2]) (.inl rfl) rfl ?_
                clear hv4
                refine wpT_end (by kernel_rfl) ?_
                go_wp2_with fail
                go_ret
                exact HFin.out
              · refine opT_value (d := some 81) (v := .slice (some ⟨D.heap.size, 0, none⟩) 1 1) (w' := D.alloc (.cells #[.int .i64 n, .int .i64 t] 58)) rfl (by rfl) (by simp [execOp, Instr.buildSlice, go_sem]) (.inr (GK.of_below (ext_alloc (ext_refl D) _) fun k hk => hk)) rfl ?_
                simp only [Act.put, List.setIfInBounds_toArray, List.set_cons_succ, List.set_cons_zero]
                refine wpT_just (i := 7) (by kernel_rfl) ?_
                refine opT_append (E := elemMo) (d := some 77) (w0 := D.alloc (.cells #[.int .i64 n, .int .i64 t] 58)) (v := .slice none 0 0) (v2 := .slice (some ad) 0 0) (xs := []) (l2 := ([] : List Mo)) rfl (by rfl) rfl rfl rfl (madeE_nil (Below.refl _ _)) (HTk.out.below (ext_alloc (ext_refl D) _)) (by rw [HLt.out]; show (0 + 0) * 16 ≤ _; omega) (fun k hk => Nat.lt_of_lt_of_le hk (ext_alloc (ext_refl D) _).size) rfl ?_
                intro v1 w2 hm2 hz2
                rw [List.nil_append] at hm2
                have HSrc := Lib.hid ((srcE_one (E := elemMo) (x := ⟨n, t⟩) (heap_alloc_new D (.cells #[.int .i64 n, .int .i64 t] 58)) rfl).below hm2.2)
                have HM2 := Lib.hid (hm2.base (ext_alloc (ext_refl D) _))
                simp only [Act.put, List.setIfInBounds_toArray, List.set_cons_succ, List.set_cons_zero]
                clear hm2 hz2
                refine wpT_append (E := elemMo) (i := 12) (d := some 82) (w0 := D) (v := v1) (v2 := .slice (some ⟨D.heap.size, 0, none⟩) 1 1) (xs := ([] : List Mo)) (l2 := [⟨n, t⟩]) (by kernel_rfl) rfl (by rfl) rfl rfl rfl HM2.out HSrc.out (by rw [HLt.out]; show (0 + 1) * 16 ≤ _; omega) (fun k hk => hk) rfl ?_
                intro v3 w3 hm3 hz3
                have HM3 := Lib.hid hm3
                have HD3 := Lib.hid (HDr.out.below hm3.2)
                clear hm3 hz3
                simp only [Act.put, List.setIfInBounds_toArray, List.set_cons_succ, List.set_cons_zero]
                refine wpT_append (E := elemMo) (i := 19) (d := some 89) (w0 := D) (v := v3) (v2 := .slice (some ad) 0 0) (xs := ([] : List Mo) ++ [⟨n, t⟩]) (l2 := ([] : List Mo)) (by kernel_rfl) rfl (by rfl) rfl rfl rfl HM3.out HD3.out (by rw [List.length_append, HLt.out]; show (0 + 1 + 0) * 16 ≤ _; omega) (fun k hk => hk) rfl ?_
                intro v4 w4 hm4 hz4
                have HM4 := Lib.hid hm4
                have hq4 : w4.heap[m]? = some (.cells #[.slice (some ad) 0 0] 28 (0, 0)) := ((HD.out.trans (hm4.2.mono HD.out.size)).block m hlt).trans HQ.out
                have m1 : w4.cell? ⟨m, 0, none⟩ = some (.slice (some ad) 0 0) := by simp [World.cell?, hq4]
                have m2 : w4.frozen? ⟨m, 0, none⟩ = false := by simp [World.frozen?, hq4]
                have HFin : Hid (SetEnd m L ⟨n, t⟩ H w (.returned (.bool true)) (w4.setCell ⟨m, 0, none⟩ v4)) := Lib.hid ⟨by rw [HOk.out], by
                  rw [HOk.out, if_pos rfl]
                  exact HRc.out.trans fun H' hr => by
                    have := rc_done hr HD.out HM4.out hq4
                    rw [HEq.out] at this
                    exact this⟩
                clear hm4 hz4
                simp only [Act.put, List.setIfInBounds_toArray, List.set_cons_succ, List.set_cons_zero]
                refine wpT_batchK [20, 21] 1 rfl (by kernel_rfl) (by kernel_rfl) (by simp only [pickL, nthL, List.cons_append, List.nil_append]; rfl) ?_
                repeat (go_big_quiet_step (fail))
                refine wpQuiet_nil ?_
                obtain ⟨pv4, cv4, hv4, -⟩ := HM4.out.list.form
                refine wpT_store (i := 22) (w' := w4.setCell ⟨m, 0, none⟩ v4) (by kernel_rfl) rfl (by rfl) (by subst hv4; simp [execOp, go_sem, m1, m2]) (.inl rfl) rfl ?_
                clear hv4
                refine wpT_end (by kernel_rfl) ?_
                go_wp2_with fail
                go_ret
                exact HFin.out
        · rcases HR.out with h0 | ⟨b, o, rfl, hbl, hc⟩
          · exact absurd h0 hM0
          clear hc hM0
          by_cases hkc2 : k < cap
          · have HEq : Hid (M.take k ++ [⟨n, t⟩] ++ M.drop k = setM L ⟨n, t⟩) := Lib.hid (by
              obtain ⟨h1, h2⟩ := takeWhile_at (p := fun x => lessM x ⟨n, t⟩) (L := M) (i := k) (by omega) HN.out hstop
              unfold setM insM
              rw [show cutM L (⟨n, t⟩ : Mo).n = M from HM.out, h1, h2, List.append_assoc]
              rfl)
            go_upto_region 7 with fail
            have HLt : Hid ((M.take k).length = k) := Lib.hid (by rw [List.length_take]; omega)
            have HLd : Hid ((M.drop k).length = M.length - k) := Lib.hid List.length_drop
            obtain ⟨D0, hD0⟩ : ∃ W, x.w = W := ⟨_, rfl⟩
            obtain ⟨D, hDD⟩ : ∃ W, D0.drew = W := ⟨_, rfl⟩
            have HD : Hid (Below w1.heap.size w1 D) := Lib.hid (by rw [← hDD, ← hD0]; exact ext_drew (ext_later (ext_refl w1) x))
            have HTk := Lib.hid ((HS.out.below HD.out).take (m := k) (by omega))
            have hdr := (HS.out.below HD.out).drop (m := k) (by omega)
            rw [if_neg (by omega), Option.map_some, addr_off] at hdr
            rw [show k * elemMo.k = k * 2 from rfl] at hdr
            have HDr := Lib.hid hdr
            have hd0 : D.cell? ⟨m, 0, none⟩ = some (.slice (some ⟨b, o, none⟩) M.length cap) := (HD.out.cell (p := ⟨m, 0, none⟩) hlt).trans e0
            have hml : m < D.heap.size := Nat.lt_of_lt_of_le hlt HD.out.size
            rw [hD0]
            refine wp_region_taken [22] (fun k => k < D.heap.size) (by kernel_rfl) (n := 23) rfl (fresh := Array.replicate 23 false) rfl ?_
            rw [hDD]
            clear hD0 hDD hdr
            refine wpT_batchK [0, 1, 2, 3, 4, 5, 6, 8, 9, 10, 13, 14, 15, 16, 17, 18] 7 rfl (by kernel_rfl) (by kernel_rfl) (by simp only [pickL, nthL, List.cons_append, List.nil_append]; rfl) ?_
            repeat (go_big_quiet_step (fail))
            refine wpQuiet_nil ?_
            refine wpT_two (i := 7) (j := 11) (by kernel_rfl) ?_ ?_
            · refine opT_append (E := elemMo) (d := some 77) (w0 := D) (v := .slice none 0 0) (v2 := .slice (some ⟨b, o, none⟩) k cap) (xs := []) (l2 := M.take k) rfl (by rfl) rfl rfl rfl (madeE_nil (Below.refl _ _)) HTk.out (by rw [HLt.out]; show (0 + k) * 16 ≤ _; omega) (fun k hk => hk) rfl ?_
              intro v1 w2 hm2 hz2
              rw [List.nil_append] at hm2
              simp only [Act.put, List.setIfInBounds_toArray, List.set_cons_succ, List.set_cons_zero]
              refine wpT_just (i := 11) (by kernel_rfl) ?_
              refine opT_value (d := some 81) (v := .slice (some ⟨w2.heap.size, 0, none⟩) 1 1) (w' := w2.alloc (.cells #[.int .i64 n, .int .i64 t] 58)) rfl (by rfl) (by simp [execOp, Instr.buildSlice, go_sem]) (.inr (GK.of_below (ext_alloc (ext_refl w2) _) fun k hk => Nat.lt_of_lt_of_le hk hz2)) rfl ?_
              have HSrc := Lib.hid (srcE_one (E := elemMo) (x := ⟨n, t⟩) (heap_alloc_new w2 (.cells #[.int .i64 n, .int .i64 t] 58)) rfl)
              have HM2 := Lib.hid (hm2.later ⟨w2.alloc (.cells #[.int .i64 n, .int .i64 t] 58), ext_alloc (ext_refl w2) _⟩)
              dsimp only at HM2
              simp only [Act.put, List.setIfInBounds_toArray, List.set_cons_succ, List.set_cons_zero]
              obtain ⟨bn, hbn⟩ : ∃ b, w2.heap.size = b := ⟨_, rfl⟩
              rw [hbn] at HSrc ⊢
              clear hm2 hz2 hbn
              refine wpT_append (E := elemMo) (i := 12) (d := some 82) (w0 := D) (v := v1) (v2 := .slice (some ⟨bn, 0, none⟩) 1 1) (xs := M.take k) (l2 := [⟨n, t⟩]) (by kernel_rfl) rfl (by rfl) rfl rfl rfl HM2.out HSrc.out (by rw [HLt.out]; show (k + 1) * 16 ≤ _; omega) (fun k hk => hk) rfl ?_
              intro v3 w3 hm3 hz3
              have HM3 := Lib.hid hm3
              have HD3 := Lib.hid (HDr.out.below hm3.2)
              clear hm3 hz3
              simp only [Act.put, List.setIfInBounds_toArray, List.set_cons_succ, List.set_cons_zero]
              refine wpT_append (E := elemMo) (i := 19) (d := some 89) (w0 := D) (v := v3) (v2 := .slice (some ⟨b, o + k * 2, none⟩) (M.length - k) (cap - k)) (xs := M.take k ++ [⟨n, t⟩]) (l2 := M.drop k) (by kernel_rfl) rfl (by rfl) rfl rfl rfl HM3.out HD3.out (by rw [List.length_append, HLt.out, HLd.out]; show (k + 1 + (M.length - k)) * 16 ≤ _; omega) (fun k hk => hk) rfl ?_
              intro v4 w4 hm4 hz4
              have HM4 := Lib.hid hm4
              have hq4 : w4.heap[m]? = some (.cells #[.slice (some ⟨b, o, none⟩) M.length cap] 28 (0, 0)) := ((HD.out.trans (hm4.2.mono HD.out.size)).block m hlt).trans HQ.out
              have m1 : w4.cell? ⟨m, 0, none⟩ = some (.slice (some ⟨b, o, none⟩) M.length cap) := by simp [World.cell?, hq4]
              have m2 : w4.frozen? ⟨m, 0, none⟩ = false := by simp [World.frozen?, hq4]
              have HFin : Hid (SetEnd m L ⟨n, t⟩ H w (.returned (.bool true)) (w4.setCell ⟨m, 0, none⟩ v4)) := Lib.hid ⟨by rw [HOk.out], by
                rw [HOk.out, if_pos rfl]
                exact HRc.out.trans fun H' hr => by
                  have := rc_done hr HD.out HM4.out hq4
                  rw [HEq.out] at this
                  exact this⟩
              clear hm4 hz4
              simp only [Act.put, List.setIfInBounds_toArray, List.set_cons_succ, List.set_cons_zero]
              refine wpT_batchK [20, 21] 1 rfl (by kernel_rfl) (by kernel_rfl) (by simp only [pickL, nthL, List.cons_append, List.nil_append]; rfl) ?_
              repeat (go_big_quiet_step (fail))
              refine wpQuiet_nil ?_
              obtain ⟨pv4, cv4, hv4, -⟩ := HM4.out.list.form
              refine wpT_store (i := 22) (w' := w4.setCell ⟨m, 0, none⟩ v4) (by kernel_rfl) rfl (by rfl) (by subst hv4; simp [execOp, go_sem, m1, m2]) (.inl rfl) rfl ?_
              clear hv4
              refine wpT_end (by kernel_rfl) ?_
              go_wp2_with fail
              go_ret
              exact HFin.out
            · refine opT_value (d := some 81) (v := .slice (some ⟨D.heap.size, 0, none⟩) 1 1) (w' := D.alloc (.cells #[.int .i64 n, .int .i64 t] 58)) rfl (by rfl) (by simp [execOp, Instr.buildSlice, go_sem]) (.inr (GK.of_below (ext_alloc (ext_refl D) _) fun k hk => hk)) rfl ?_
              simp only [Act.put, List.setIfInBounds_toArray, List.set_cons_succ, List.set_cons_zero]
              refine wpT_just (i := 7) (by kernel_rfl) ?_
              refine opT_append (E := elemMo) (d := some 77) (w0 := D.alloc (.cells #[.int .i64 n, .int .i64 t] 58)) (v := .slice none 0 0) (v2 := .slice (some ⟨b, o, none⟩) k cap) (xs := []) (l2 := M.take k) rfl (by rfl) rfl rfl rfl (madeE_nil (Below.refl _ _)) (HTk.out.below (ext_alloc (ext_refl D) _)) (by rw [HLt.out]; show (0 + k) * 16 ≤ _; omega) (fun k hk => Nat.lt_of_lt_of_le hk (ext_alloc (ext_refl D) _).size) rfl ?_
              intro v1 w2 hm2 hz2
              rw [List.nil_append] at hm2
              have HSrc := Lib.hid ((srcE_one (E := elemMo) (x := ⟨n, t⟩) (heap_alloc_new D (.cells #[.int .i64 n, .int .i64 t] 58)) rfl).below hm2.2)
              have HM2 := Lib.hid (hm2.base (ext_alloc (ext_refl D) _))
              simp only [Act.put, List.setIfInBounds_toArray, List.set_cons_succ, List.set_cons_zero]
              clear hm2 hz2
              refine wpT_append (E := elemMo) (i := 12) (d := some 82) (w0 := D) (v := v1) (v2 := .slice (some ⟨D.heap.size, 0, none⟩) 1 1) (xs := M.take k) (l2 := [⟨n, t⟩]) (by kernel_rfl) rfl (by rfl) rfl rfl rfl HM2.out HSrc.out (by rw [HLt.out]; show (k + 1) * 16 ≤ _; omega) (fun k hk => hk) rfl ?_
              intro v3 w3 hm3 hz3
              have HM3 := Lib.hid hm3
              have HD3 := Lib.hid (HDr.out.below hm3.2)
              clear hm3 hz3
              simp only [Act.put, List.setIfInBounds_toArray, List.set_cons_succ, List.set_cons_zero]
              refine wpT_append (E := elemMo) (i := 19) (d := some 89) (w0 := D) (v := v3) (v2 := .slice (some ⟨b, o + k * 2, none⟩) (M.length - k) (cap - k)) (xs := M.take k ++ [⟨n, t⟩]) (l2 := M.drop k) (by kernel_rfl) rfl (by rfl) rfl rfl rfl HM3.out HD3.out (by rw [List.length_append, HLt.out, HLd.out]; show (k + 1 + (M.length - k)) * 16 ≤ _; omega) (fun k hk => hk) rfl ?_
              intro v4 w4 hm4 hz4
              have HM4 := Lib.hid hm4
              have hq4 : w4.heap[m]? = some (.cells #[.slice (some ⟨b, o, none⟩) M.length cap] 28 (0, 0)) := ((HD.out.trans (hm4.2.mono HD.out.size)).block m hlt).trans HQ.out
              have m1 : w4.cell? ⟨m, 0, none⟩ = some (.slice (some ⟨b, o, none⟩) M.length cap) := by simp [World.cell?, hq4]
              have m2 : w4.frozen? ⟨m, 0, none⟩ = false := by simp [World.frozen?, hq4]
              have HFin : Hid (SetEnd m L ⟨n, t⟩ H w (.returned (.bool true)) (w4.setCell ⟨m, 0, none⟩ v4)) := Lib.hid ⟨by rw [HOk.out], by
                rw [HOk.out, if_pos rfl]
                exact HRc.out.trans fun H' hr => by
                  have := rc_done hr HD.out HM4.out hq4
                  rw [HEq.out] at this
                  exact this⟩
              clear hm4 hz4
              simp only [Act.put, List.setIfInBounds_toArray, List.set_cons_succ, List.set_cons_zero]
              refine wpT_batchK [20, 21] 1 rfl (by kernel_rfl) (by kernel_rfl) (by simp only [pickL, nthL, List.cons_append, List.nil_append]; rfl) ?_
              repeat (go_big_quiet_step (fail))
              refine wpQuiet_nil ?_
              obtain ⟨pv4, cv4, hv4, -⟩ := HM4.out.list.form
              refine wpT_store (i := 22) (w' := w4.setCell ⟨m, 0, none⟩ v4) (by kernel_rfl) rfl (by rfl) (by subst hv4; simp [execOp, go_sem, m1, m2]) (.inl rfl) rfl ?_
              clear hv4
              refine wpT_end (by kernel_rfl) ?_
              go_wp2_with fail
              go_ret
              exact HFin.out
          · obtain rfl : k = cap := by have := HkM.out; omega
            have HEq : Hid (M.take k ++ [⟨n, t⟩] ++ M.drop k = setM L ⟨n, t⟩) := Lib.hid (by
              obtain ⟨h1, h2⟩ := takeWhile_at (p := fun x => lessM x ⟨n, t⟩) (L := M) (i := k) (by omega) HN.out hstop
              unfold setM insM
              rw [show cutM L (⟨n, t⟩ : Mo).n = M from HM.out, h1, h2, List.append_assoc]
              rfl)
            go_upto_region 7 with fail
            have HLt : Hid ((M.take k).length = k) := Lib.hid (by rw [List.length_take]; omega)
            have HLd : Hid ((M.drop k).length = M.length - k) := Lib.hid List.length_drop
            obtain ⟨D0, hD0⟩ : ∃ W, x.w = W := ⟨_, rfl⟩
            obtain ⟨D, hDD⟩ : ∃ W, D0.drew = W := ⟨_, rfl⟩
            have HD : Hid (Below w1.heap.size w1 D) := Lib.hid (by rw [← hDD, ← hD0]; exact ext_drew (ext_later (ext_refl w1) x))
            have HTk := Lib.hid ((HS.out.below HD.out).take (m := k) (by omega))
            have hdr := (HS.out.below HD.out).drop (m := k) (by omega)
            rw [if_pos rfl, Nat.sub_self, show M.length - k = 0 from by omega] at hdr
            have HDr := Lib.hid hdr
            have hd0 : D.cell? ⟨m, 0, none⟩ = some (.slice (some ⟨b, o, none⟩) M.length k) := (HD.out.cell (p := ⟨m, 0, none⟩) hlt).trans e0
            have hml : m < D.heap.size := Nat.lt_of_lt_of_le hlt HD.out.size
            rw [hD0]
            refine wp_region_taken [22] (fun k => k < D.heap.size) (by kernel_rfl) (n := 23) rfl (fresh := Array.replicate 23 false) rfl ?_
            rw [hDD]
            clear hD0 hDD hdr
            refine wpT_batchK [0, 1, 2, 3, 4, 5, 6, 8, 9, 10, 13, 14, 15, 16, 17, 18] 7 rfl (by kernel_rfl) (by kernel_rfl) (by simp only [pickL, nthL, List.cons_append, List.nil_append]; rfl) ?_
            repeat (go_big_quiet_step (fail))
            refine wpQuiet_nil ?_
            refine wpT_two (i := 7) (j := 11) (by kernel_rfl) ?_ ?_
            · refine opT_append (E := elemMo) (d := some 77) (w0 := D) (v := .slice none 0 0) (v2 := .slice (some ⟨b, o, none⟩) k k) (xs := []) (l2 := M.take k) rfl (by rfl) rfl rfl rfl (madeE_nil (Below.refl _ _)) HTk.out (by rw [HLt.out]; show (0 + k) * 16 ≤ _; omega) (fun k hk => hk) rfl ?_
              intro v1 w2 hm2 hz2
              rw [List.nil_append] at hm2
              simp only [Act.put, List.setIfInBounds_toArray, List.set_cons_succ, List.set_cons_zero]
              refine wpT_just (i := 11) (by kernel_rfl) ?_
              refine opT_value (d := some 81) (v := .slice (some ⟨w2.heap.size, 0, none⟩) 1 1) (w' := w2.alloc (.cells #[.int .i64 n, .int .i64 t] 58)) rfl (by rfl) (by simp [execOp, Instr.buildSlice, go_sem]) (.inr (GK.of_below (ext_alloc (ext_refl w2) _) fun k hk => Nat.lt_of_lt_of_le hk hz2)) rfl ?_
              have HSrc := Lib.hid (srcE_one (E := elemMo) (x := ⟨n, t⟩) (heap_alloc_new w2 (.cells #[.int .i64 n, .int .i64 t] 58)) rfl)
              have HM2 := Lib.hid (hm2.later ⟨w2.alloc (.cells #[.int .i64 n, .int .i64 t] 58), ext_alloc (ext_refl w2) _⟩)
              dsimp only at HM2
              simp only [Act.put, List.setIfInBounds_toArray, List.set_cons_succ, List.set_cons_zero]
              obtain ⟨bn, hbn⟩ : ∃ b, w2.heap.size = b := ⟨_, rfl⟩
              rw [hbn] at HSrc ⊢
              clear hm2 hz2 hbn
              refine wpT_append (E := elemMo) (i := 12) (d := some 82) (w0 := D) (v := v1) (v2 := .slice (some ⟨bn, 0, none⟩) 1 1) (xs := M.take k) (l2 := [⟨n, t⟩]) (by kernel_rfl) rfl (by rfl) rfl rfl rfl HM2.out HSrc.out (by rw [HLt.out]; show (k + 1) * 16 ≤ _; omega) (fun k hk => hk) rfl ?_
              intro v3 w3 hm3 hz3
              have HM3 := Lib.hid hm3
              have HD3 := Lib.hid (HDr.out.below hm3.2)
              clear hm3 hz3
              simp only [Act.put, List.setIfInBounds_toArray, List.set_cons_succ, List.set_cons_zero]
              refine wpT_append (E := elemMo) (i := 19) (d := some 89) (w0 := D) (v := v3) (v2 := .slice (some ⟨b, o, none⟩) 0 0) (xs := M.take k ++ [⟨n, t⟩]) (l2 := M.drop k) (by kernel_rfl) rfl (by rfl) rfl rfl rfl HM3.out HD3.out (by rw [List.length_append, HLt.out, HLd.out]; show (k + 1 + (M.length - k)) * 16 ≤ _; omega) (fun k hk => hk) rfl ?_
              intro v4 w4 hm4 hz4
              have HM4 := Lib.hid hm4
              have hq4 : w4.heap[m]? = some (.cells #[.slice (some ⟨b, o, none⟩) M.length k] 28 (0, 0)) := ((HD.out.trans (hm4.2.mono HD.out.size)).block m hlt).trans HQ.out
              have m1 : w4.cell? ⟨m, 0, none⟩ = some (.slice (some ⟨b, o, none⟩) M.length k) := by simp [World.cell?, hq4]
              have m2 : w4.frozen? ⟨m, 0, none⟩ = false := by simp [World.frozen?, hq4]
              have HFin : Hid (SetEnd m L ⟨n, t⟩ H w (.returned (.bool true)) (w4.setCell ⟨m, 0, none⟩ v4)) := Lib.hid ⟨by rw [HOk.out], by
                rw [HOk.out, if_pos rfl]
                exact HRc.out.trans fun H' hr => by
                  have := rc_done hr HD.out HM4.out hq4
                  rw [HEq.out] at this
                  exact this⟩
              clear hm4 hz4
              simp only [Act.put, List.setIfInBounds_toArray, List.set_cons_succ, List.set_cons_zero]
              refine wpT_batchK [20, 21] 1 rfl (by kernel_rfl) (by kernel_rfl) (by simp only [pickL, nthL, List.cons_append, List.nil_append]; rfl) ?_
              repeat (go_big_quiet_step (fail))
              refine wpQuiet_nil ?_
              obtain ⟨pv4, cv4, hv4, -⟩ := HM4.out.list.form
              refine wpT_store (i := 22) (w' := w4.setCell ⟨m, 0, none⟩ v4) (by kernel_rfl) rfl (by rfl) (by subst hv4; simp [execOp, go_sem, m1, m2]) (.inl rfl) rfl ?_
              clear hv4
              refine wpT_end (by kernel_rfl) ?_
              go_wp2_with fail
              go_ret
              exact HFin.out
            · refine opT_value (d := some 81) (v := .slice (some ⟨D.heap.size, 0, none⟩) 1 1) (w' := D.alloc (.cells #[.int .i64 n, .int .i64 t] 58)) rfl (by rfl) (by simp [execOp, Instr.buildSlice, go_sem]) (.inr (GK.of_below (ext_alloc (ext_refl D) _) fun k hk => hk)) rfl ?_
              simp only [Act.put, List.setIfInBounds_toArray, List.set_cons_succ, List.set_cons_zero]
              refine wpT_just (i := 7) (by kernel_rfl) ?_
              refine opT_append (E := elemMo) (d := some 77) (w0 := D.alloc (.cells #[.int .i64 n, .int .i64 t] 58)) (v := .slice none 0 0) (v2 := .slice (some ⟨b, o, none⟩) k k) (xs := []) (l2 := M.take k) rfl (by rfl) rfl rfl rfl (madeE_nil (Below.refl _ _)) (HTk.out.below (ext_alloc (ext_refl D) _)) (by rw [HLt.out]; show (0 + k) * 16 ≤ _; omega) (fun k hk => Nat.lt_of_lt_of_le hk (ext_alloc (ext_refl D) _).size) rfl ?_
              intro v1 w2 hm2 hz2
              rw [List.nil_append] at hm2
              have HSrc := Lib.hid ((srcE_one (E := elemMo) (x := ⟨n, t⟩) (heap_alloc_new D (.cells #[.int .i64 n, .int .i64 t] 58)) rfl).below hm2.2)
              have HM2 := Lib.hid (hm2.base (ext_alloc (ext_refl D) _))
              simp only [Act.put, List.setIfInBounds_toArray, List.set_cons_succ, List.set_cons_zero]
              clear hm2 hz2
              refine wpT_append (E := elemMo) (i := 12) (d := some 82) (w0 := D) (v := v1) (v2 := .slice (some ⟨D.heap.size, 0, none⟩) 1 1) (xs := M.take k) (l2 := [⟨n, t⟩]) (by kernel_rfl) rfl (by rfl) rfl rfl rfl HM2.out HSrc.out (by rw [HLt.out]; show (k + 1) * 16 ≤ _; omega) (fun k hk => hk) rfl ?_
              intro v3 w3 hm3 hz3
              have HM3 := Lib.hid hm3
              have HD3 := Lib.hid (HDr.out.below hm3.2)
              clear hm3 hz3
              simp only [Act.put, List.setIfInBounds_toArray, List.set_cons_succ, List.set_cons_zero]
              refine wpT_append (E := elemMo) (i := 19) (d := some 89) (w0 := D) (v := v3) (v2 := .slice (some ⟨b, o, none⟩) 0 0) (xs := M.take k ++ [⟨n, t⟩]) (l2 := M.drop k) (by kernel_rfl) rfl (by rfl) rfl rfl rfl HM3.out HD3.out (by rw [List.length_append, HLt.out, HLd.out]; show (k + 1 + (M.length - k)) * 16 ≤ _; omega) (fun k hk => hk) rfl ?_
              intro v4 w4 hm4 hz4
              have HM4 := Lib.hid hm4
              have hq4 : w4.heap[m]? = some (.cells #[.slice (some ⟨b, o, none⟩) M.length k] 28 (0, 0)) := ((HD.out.trans (hm4.2.mono HD.out.size)).block m hlt).trans HQ.out
              have m1 : w4.cell? ⟨m, 0, none⟩ = some (.slice (some ⟨b, o, none⟩) M.length k) := by simp [World.cell?, hq4]
              have m2 : w4.frozen? ⟨m, 0, none⟩ = false := by simp [World.frozen?, hq4]
              have HFin : Hid (SetEnd m L ⟨n, t⟩ H w (.returned (.bool true)) (w4.setCell ⟨m, 0, none⟩ v4)) := Lib.hid ⟨by rw [HOk.out], by
                rw [HOk.out, if_pos rfl]
                exact HRc.out.trans fun H' hr => by
                  have := rc_done hr HD.out HM4.out hq4
                  rw [HEq.out] at this
                  exact this⟩
              clear hm4 hz4
              simp only [Act.put, List.setIfInBounds_toArray, List.set_cons_succ, List.set_cons_zero]
              refine wpT_batchK [20, 21] 1 rfl (by kernel_rfl) (by kernel_rfl) (by simp only [pickL, nthL, List.cons_append, List.nil_append]; rfl) ?_
              repeat (go_big_quiet_step (fail))
              refine wpQuiet_nil ?_
              obtain ⟨pv4, cv4, hv4, -⟩ := HM4.out.list.form
              refine wpT_store (i := 22) (w' := w4.setCell ⟨m, 0, none⟩ v4) (by kernel_rfl) rfl (by rfl) (by subst hv4; simp [execOp, go_sem, m1, m2]) (.inl rfl) rfl ?_
              clear hv4
              refine wpT_end (by kernel_rfl) ?_
              go_wp2_with fail
              go_ret
              exact HFin.out
  · have HOk : Hid (okM ⟨n, t⟩ = false) := Lib.hid (by simp only [okM, decide_eq_false_iff_not]; exact hok)
    have HE := Lib.hid (show RCEnd m L H w w from ⟨H, h, Fr.refl _ _, fun k hk => .inl hk⟩)
    have HFin : Hid (SetEnd m L ⟨n, t⟩ H w (.returned (.bool false)) w) := Lib.hid ⟨by rw [HOk.out], by rw [HOk.out, if_neg (by simp)]; exact HE.out⟩
    clear h ho HE
    rcases (by omega : n < 0 ∨ (0 ≤ n ∧ 999 < n) ∨ (0 ≤ n ∧ n ≤ 999 ∧ t < 0) ∨ (0 ≤ n ∧ n ≤ 999 ∧ 0 ≤ t ∧ 1099511627776 < t)) with g | ⟨g, g'⟩ | ⟨g, g', g''⟩ | ⟨g, g', g'', g3⟩
    all_goals
      clear hok
      go_enter Try.func16, Try.ntmps16
      go_wp2
      all_goals go_ret
      all_goals exact HFin.out
end Go.Proofs.Ytcmidomgnbodiaa
