/- The reference's clock: without, Cut. -/
import Derived.Test.YtcmidomgnbodiaaRefClock
namespace Go.Proofs.Ytcmidomgnbodiaa
open Go Go.RowKit Go.BigFrame

theorem cutM_at {L : List Mo} (ho : OnceM L) {k : Nat} {x : Mo} (hk : L[k]? = some x) : cutM L x.n = L.take k ++ L.drop (k + 1) := by
  obtain ⟨hlt, he⟩ := List.getElem?_eq_some_iff.1 hk
  have hsp : L = L.take k ++ x :: L.drop (k + 1) := by
    have := List.take_append_drop k L
    rw [List.drop_eq_getElem_cons hlt, he] at this
    exact this.symm
  have ho' := ho
  rw [hsp] at ho'
  unfold OnceM at ho'
  rw [List.pairwise_append, List.pairwise_cons] at ho'
  obtain ⟨_, ⟨h2, _⟩, h3⟩ := ho'
  conv => lhs; rw [hsp]
  unfold cutM
  rw [List.filter_append, List.filter_cons_of_neg (by simp)]
  congr 1
  · rw [List.filter_eq_self]
    intro y hy
    have := h3 y hy x List.mem_cons_self
    simpa using this
  · rw [List.filter_eq_self]
    intro y hy
    have := h2 y hy
    simpa using fun e => this e.symm

def WithoutEnd (m : Nat) (L : List Mo) (n : Int) (H : Nat → Prop) (W : World) (e : Ending) (W' : World) : Prop := e = .returned (.bool (hasM L n).isSome) ∧ RCEnd m (cutM L n) H W W'
/-- The clock holds another row, made by the call. -/
theorem rc_done {m : Nat} {L M : List Mo} {H : Nat → Prop} {W D W' : World} {v u : Value} (h : RefC m L W H) (hD : Below W.heap.size W D) (hm : MadeE elemMo D W' v M) (hq : W'.heap[m]? = some (.cells #[u] 28 (0, 0))) : RCEnd m M H W (W'.setCell ⟨m, 0, none⟩ v) := by
  obtain ⟨v0, hm0, hr, hH⟩ := h
  have hlt := (Array.getElem?_eq_some_iff.1 hm0).1
  have hb : Below W.heap.size W W' := hD.trans (hm.2.mono hD.size)
  have hge : ∀ b, v.ownBlock = some b → b ≠ m := fun b hb => by
    have := (hm.1.lt b hb).1
    have := hD.size
    omega
  refine ⟨fun k => k = m ∨ (M ≠ [] ∧ ∃ o n c, v = .slice (some ⟨k, o, none⟩) n c), ⟨v, by rw [heap_setCell_same _ _ _ _ _ _ hq]; rfl, ?_, fun k => Iff.rfl⟩, (Fr.of_below hb).set m 0 _ (.inl rfl), fun k hk => ?_⟩
  · refine ⟨hm.src.1.kept (by simp [World.setCell]) fun b o n c hl hv => Below.heap_setCell _ _ _ b (hge b (by rw [hv]; rfl)), hm.src.2⟩
  · rcases hk with rfl | ⟨_, o, n, c, rfl⟩
    · exact .inl ((hH k).2 (.inl rfl))
    · exact .inr (Nat.le_trans hD.size (hm.1.lt k rfl).1)

set_option maxHeartbeats 4000000 in
set_option maxRecDepth 100000 in
theorem without_any (m : Nat) (L : List Mo) (n : Int) (w : World) (H : Nat → Prop) (h : RefC m L w H) (ho : OnceM L) (hL : L.length ≤ 10000) : Calls Try.prog 23 #[.pointer (some ⟨m, 0, none⟩), .int .i64 n] w (WithoutEnd m L n H w) := by
  have HO := Lib.hid h
  have HOn := Lib.hid ho
  obtain ⟨p, cap, hlt, hm, hs⟩ := h.cells
  have HM := Lib.hid hm
  have e0 : w.cell? ⟨m, 0, none⟩ = some (.slice p L.length cap) := by simp [World.cell?, hm]
  have HS := Lib.hid hs
  obtain ⟨p', cap', hv, hrow⟩ := hs.1.form
  obtain ⟨rfl, -, rfl⟩ := Value.slice.inj hv
  have HR := Lib.hid hrow
  have hcap : L.length ≤ cap := by
    obtain ⟨_, p', cap', e, h1, _⟩ := hs
    obtain ⟨_, _, rfl⟩ := Value.slice.inj e
    exact h1
  clear h hm hs hv hrow ho
  go_enter Try.func23, Try.ntmps23
  go_wp2_with fail
  go_loopw [12] (fun v12 wr => ∃ k : Nat, v12 = .int .i64 k ∧ k ≤ L.length ∧ Hid (hasM (L.take k) n = none) ∧ ∃ x : Later w, wr = x.w) (fun v12 _ => L.length - (intOf v12).toNat)
  case atStart => exact ⟨0, rfl, by omega, Lib.hid rfl, ⟨w, Below.refl _ _⟩, rfl⟩
  case round =>
    obtain ⟨k, rfl, hk, HN, x, rfl⟩ := hrel
    by_cases hkl : k < L.length
    · obtain ⟨⟨cn, ct⟩, hkc⟩ : ∃ c, L[k]? = some c := ⟨_, List.getElem?_eq_getElem hkl⟩
      rcases HR.out with h0 | ⟨b, o, rfl, hbl, hc⟩
      · rw [h0] at hkl; simp at hkl
      have a0 : x.w.cell? ⟨b, o + k * 2, none⟩ = some (.int .i64 cn) := (x.below.cell (p := ⟨b, _, none⟩) hbl).trans (hc k _ hkc 0 _ rfl)
      have a1 : x.w.cell? ⟨b, o + k * 2 + 1, none⟩ = some (.int .i64 ct) := (x.below.cell (p := ⟨b, _, none⟩) hbl).trans (hc k _ hkc 1 _ rfl)
      have hkd : decide ((k : Int) < (L.length : Int)) = true := by simp; omega
      have HK := Lib.hid hkc
      clear hc hkc
      cases hcn : (cn == n) with
      | false =>
        have HN' := Lib.hid (show hasM (L.take (k + 1)) n = none from by rw [hasM_up HK.out, HN.out, hcn]; rfl)
        go_wp2_with fail
        go_roundw
        case rel => exact ⟨k + 1, by go_num, by omega, HN', Later.ex (by repeat (first | exact ext_refl _ | refine ext_alloc ?_ _ | refine ext_later ?_ _ | refine ext_drew ?_ | refine ext_drewN ?_ _))⟩
        case measure => simp [intOf]; omega
      | true =>
        have HV : Hid (hasM L n = some ⟨cn, ct⟩) := Lib.hid (hasM_hit HK.out HN.out hcn)
        go_upto_region 5 with fail
        obtain ⟨D, hD⟩ : ∃ W, x.w.alloc (.cells #[.int .i64 cn, .int .i64 ct] 58) = W := ⟨_, rfl⟩
        have HD : Hid (Below w.heap.size w D.drew) := Lib.hid (by rw [← hD]; exact ext_drew (ext_alloc (ext_later (ext_refl w) x) _))
        rw [hD]
        have hd0 : D.cell? ⟨m, 0, none⟩ = some (.slice (some ⟨b, o, none⟩) L.length cap) := (HD.out.cell (p := ⟨m, 0, none⟩) hlt).trans e0
        have hml : m < D.heap.size := Nat.lt_of_lt_of_le hlt HD.out.size
        clear hD a0 a1
        have HTk := Lib.hid ((HS.out.below HD.out).take (m := k) hk)
        have HDr := Lib.hid ((HS.out.below HD.out).drop (m := k + 1) (by omega))
        have HLt : Hid ((L.take k).length = k) := Lib.hid (by rw [List.length_take]; omega)
        have HLd : Hid ((L.drop (k + 1)).length = L.length - (k + 1)) := Lib.hid List.length_drop
        have hk1 : k + 1 ≤ L.length := hkl
        rw [Option.map_some, addr_off] at HDr
        by_cases hck : cap = k + 1
        · subst hck
          rw [if_pos rfl, Nat.sub_self, show L.length - (k + 1) = 0 from by omega] at HDr
          refine wp_region_taken [18] (fun k => k < D.heap.size) (by kernel_rfl) (n := 19) rfl (fresh := Array.replicate 19 false) rfl ?_
          refine wpT_batchK [0, 1, 2, 3, 4, 5, 6, 8, 9, 10, 11, 12, 13, 14] 5 rfl (by kernel_rfl) (by kernel_rfl) (by simp only [pickL, nthL, List.cons_append, List.nil_append]; rfl) ?_
          repeat (go_big_quiet_step (fail))
          refine wpQuiet_nil ?_
          refine wpT_append (E := elemMo) (i := 7) (d := some 28) (w0 := D.drew) (v := .slice none 0 0) (v2 := .slice (some ⟨b, o, none⟩) k (k + 1)) (xs := []) (l2 := L.take k) (by kernel_rfl) rfl (by rfl) rfl rfl rfl (madeE_nil (Below.refl _ _)) HTk.out (by rw [HLt.out]; show (0 + k) * 16 ≤ _; omega) (fun k hk => hk) rfl ?_
          intro v1 w1 hm1 hz1
          rw [List.nil_append] at hm1
          have HM1 := Lib.hid hm1
          have HD1 := Lib.hid (HDr.out.below hm1.2)
          clear hm1 hz1
          simp only [Act.put, List.setIfInBounds_toArray, List.set_cons_succ, List.set_cons_zero]
          refine wpT_append (E := elemMo) (i := 15) (d := some 36) (w0 := D.drew) (v := v1) (v2 := .slice (some ⟨b, o, none⟩) 0 0) (xs := L.take k) (l2 := L.drop (k + 1)) (by kernel_rfl) rfl (by rfl) rfl rfl rfl HM1.out HD1.out (by rw [HLt.out, HLd.out]; show (k + (L.length - (k + 1))) * 16 ≤ _; omega) (fun k hk => hk) rfl ?_
          intro v2 w2 hm2 hz2
          have HM2 := Lib.hid hm2
          have hq2 : w2.heap[m]? = some (.cells #[.slice (some ⟨b, o, none⟩) L.length (k + 1)] 28 (0, 0)) := ((HD.out.trans (hm2.2.mono HD.out.size)).block m hlt).trans HM.out
          have m1 : w2.cell? ⟨m, 0, none⟩ = some (.slice (some ⟨b, o, none⟩) L.length (k + 1)) := by simp [World.cell?, hq2]
          have m2 : w2.frozen? ⟨m, 0, none⟩ = false := by simp [World.frozen?, hq2]
          have HFin : Hid (WithoutEnd m L n H w (.returned (.bool true)) (w2.setCell ⟨m, 0, none⟩ v2)) := Lib.hid ⟨by rw [HV.out]; rfl, by
            have e : cutM L n = L.take k ++ L.drop (k + 1) := by
              have := cutM_at HOn.out HK.out
              rw [show (⟨cn, ct⟩ : Mo).n = n from eq_of_beq hcn] at this
              exact this
            rw [e]
            exact rc_done HO.out HD.out HM2.out hq2⟩
          clear hm2 hz2
          simp only [Act.put, List.setIfInBounds_toArray, List.set_cons_succ, List.set_cons_zero]
          refine wpT_batchK [16, 17] 1 rfl (by kernel_rfl) (by kernel_rfl) (by simp only [pickL, nthL, List.cons_append, List.nil_append]; rfl) ?_
          repeat (go_big_quiet_step (fail))
          refine wpQuiet_nil ?_
          obtain ⟨pv2, cv2, hv2, -⟩ := HM2.out.list.form
          refine wpT_store (i := 18) (w' := w2.setCell ⟨m, 0, none⟩ v2) (by kernel_rfl) rfl (by rfl) (by subst hv2; simp [execOp, go_sem, m1, m2]) (.inl rfl) rfl ?_
          refine wpT_end (by kernel_rfl) ?_
          go_wp2_with fail
          go_ret
          exact HFin.out
        · rw [if_neg hck] at HDr
          refine wp_region_taken [18] (fun k => k < D.heap.size) (by kernel_rfl) (n := 19) rfl (fresh := Array.replicate 19 false) rfl ?_
          refine wpT_batchK [0, 1, 2, 3, 4, 5, 6, 8, 9, 10, 11, 12, 13, 14] 5 rfl (by kernel_rfl) (by kernel_rfl) (by simp only [pickL, nthL, List.cons_append, List.nil_append]; rfl) ?_
          repeat (go_big_quiet_step (fail))
          refine wpQuiet_nil ?_
          refine wpT_append (E := elemMo) (i := 7) (d := some 28) (w0 := D.drew) (v := .slice none 0 0) (v2 := .slice (some ⟨b, o, none⟩) k cap) (xs := []) (l2 := L.take k) (by kernel_rfl) rfl (by rfl) rfl rfl rfl (madeE_nil (Below.refl _ _)) HTk.out (by rw [HLt.out]; show (0 + k) * 16 ≤ _; omega) (fun k hk => hk) rfl ?_
          intro v1 w1 hm1 hz1
          rw [List.nil_append] at hm1
          have HM1 := Lib.hid hm1
          have HD1 := Lib.hid (HDr.out.below hm1.2)
          clear hm1 hz1
          simp only [Act.put, List.setIfInBounds_toArray, List.set_cons_succ, List.set_cons_zero]
          refine wpT_append (E := elemMo) (i := 15) (d := some 36) (w0 := D.drew) (v := v1) (v2 := .slice (some ⟨b, o + (k + 1) * 2, none⟩) (L.length - (k + 1)) (cap - (k + 1))) (xs := L.take k) (l2 := L.drop (k + 1)) (by kernel_rfl) rfl (by rfl) rfl rfl rfl HM1.out HD1.out (by rw [HLt.out, HLd.out]; show (k + (L.length - (k + 1))) * 16 ≤ _; omega) (fun k hk => hk) rfl ?_
          intro v2 w2 hm2 hz2
          have HM2 := Lib.hid hm2
          have hq2 : w2.heap[m]? = some (.cells #[.slice (some ⟨b, o, none⟩) L.length cap] 28 (0, 0)) := ((HD.out.trans (hm2.2.mono HD.out.size)).block m hlt).trans HM.out
          have m1 : w2.cell? ⟨m, 0, none⟩ = some (.slice (some ⟨b, o, none⟩) L.length cap) := by simp [World.cell?, hq2]
          have m2 : w2.frozen? ⟨m, 0, none⟩ = false := by simp [World.frozen?, hq2]
          have HFin : Hid (WithoutEnd m L n H w (.returned (.bool true)) (w2.setCell ⟨m, 0, none⟩ v2)) := Lib.hid ⟨by rw [HV.out]; rfl, by
            have e : cutM L n = L.take k ++ L.drop (k + 1) := by
              have := cutM_at HOn.out HK.out
              rw [show (⟨cn, ct⟩ : Mo).n = n from eq_of_beq hcn] at this
              exact this
            rw [e]
            exact rc_done HO.out HD.out HM2.out hq2⟩
          clear hm2 hz2
          simp only [Act.put, List.setIfInBounds_toArray, List.set_cons_succ, List.set_cons_zero]
          refine wpT_batchK [16, 17] 1 rfl (by kernel_rfl) (by kernel_rfl) (by simp only [pickL, nthL, List.cons_append, List.nil_append]; rfl) ?_
          repeat (go_big_quiet_step (fail))
          refine wpQuiet_nil ?_
          obtain ⟨pv2, cv2, hv2, -⟩ := HM2.out.list.form
          refine wpT_store (i := 18) (w' := w2.setCell ⟨m, 0, none⟩ v2) (by kernel_rfl) rfl (by rfl) (by subst hv2; simp [execOp, go_sem, m1, m2]) (.inl rfl) rfl ?_
          refine wpT_end (by kernel_rfl) ?_
          go_wp2_with fail
          go_ret
          exact HFin.out
    · obtain rfl : k = L.length := by omega
      have hn : hasM L n = none := by have := HN.out; rw [List.take_length] at this; exact this
      have HV : Hid ((hasM L n).isSome = false) := Lib.hid (by rw [hn]; rfl)
      have HE := Lib.hid (show RCEnd m (cutM L n) H w x.w from by
        rw [cut_none hn]
        exact ⟨H, (refC_owns m L).kept w x.w H HO.out x.below.size fun k hk => x.below.block k ((refC_owns m L).lt w H HO.out k hk), Fr.of_below x.below, fun k hk => .inl hk⟩)
      go_wp2_with fail
      go_ret
      exact ⟨by rw [HV.out]; rfl, HE.out⟩

set_option maxHeartbeats 400000 in
theorem refCut_any (m : Nat) (L : List Mo) (n : Int) (w : World) (H : Nat → Prop) (h : RefC m L w H) (ho : OnceM L) (hL : L.length ≤ 10000) : Calls Try.prog 11 #[.pointer (some ⟨m, 0, none⟩), .int .i64 n] w (WithoutEnd m L n H w) := by
  have HW := Lib.hid (without_any m L n w H h ho hL)
  obtain ⟨B, hB⟩ : ∃ B, (hasM L n).isSome = B := ⟨_, rfl⟩
  have HB := Lib.hid hB
  clear h ho hB
  go_enter Try.func11, Try.ntmps11
  go_wp2_with fail
  refine HW.out.mono ?_
  rintro e w1 ⟨rfl, he⟩
  rw [HB.out]
  have HE := Lib.hid he
  clear he
  go_wp2_with fail
  go_ret
  exact ⟨by rw [HB.out]; rfl, HE.out⟩
end Go.Proofs.Ytcmidomgnbodiaa
