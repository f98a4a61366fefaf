/- WatchOrder: a walk by the contracts alone. -/
import Derived.Test.YtcmidomgnbodiaaWatOrdSt
import Derived.Test.YtcmidomgnbodiaaWatTies
namespace Go.Proofs.Ytcmidomgnbodiaa
open Go Go.RowKit Go.BigFrame

section
variable {C : WatC} {w W : World} {m m' : Nat} {L A : List Mo} {G : Nat → Prop}
def SetR (C : WatC) (w : World) (m m' : Nat) (A B : List Mo) (G : Nat → Prop) (b : Bool) (W : World) (v : Value) (W' : World) : Prop := v = .bool b ∧ TwoS C.Own C.Own w m m' A B G W' ∧ Stood G W W'
theorem ord_set1 (h : TwoS C.Own C.Own w m m' L L G W) (n t : Int) : Calls Try.prog 15 #[.pointer (some ⟨m, 0, none⟩), .int .i64 n, .int .i64 t] W fun e W' => ∃ v, e = .returned v ∧ SetR C w m m' (afterSet L ⟨n, t⟩) L G (okM ⟨n, t⟩) W v W' :=
  (set_two C.owns h n t).mono fun _ _ ⟨he, h1, h2⟩ => ⟨_, he, rfl, h1, h2⟩
theorem ord_set2 (h : TwoS C.Own C.Own w m m' A L G W) (n t : Int) : Calls Try.prog 15 #[.pointer (some ⟨m', 0, none⟩), .int .i64 n, .int .i64 t] W fun e W' => ∃ v, e = .returned v ∧ SetR C w m m' A (afterSet L ⟨n, t⟩) G (okM ⟨n, t⟩) W v W' :=
  (set_two C.owns h.swap n t).mono fun _ _ ⟨he, h1, h2⟩ => ⟨_, he, rfl, h1.swap, h2⟩
end
theorem cellI_one (W : World) (x : Int) (j : Nat) (v : Value) (h : [Value.int .i64 x][j]? = some v) : (W.alloc (.cells #[.int .i64 x] 3)).cell? ((⟨W.heap.size, 0, none⟩ : Addr).add j) = some v := by
  have hb := heap_alloc_new W (.cells #[.int .i64 x] 3)
  rw [addr_off, Nat.zero_add]
  simp only [World.cell?, hb]
  simpa using h

set_option maxHeartbeats 8000000 in
set_option maxRecDepth 100000 in
theorem orderLawW_any (C : WatC) (v : Value) (l : List MCall) (u : Value) (steps : List Int) (w : World) (hv : RowAt elemC w v l) (hl : l.length ≤ 140737488351232) (hu : RowAt elemI w u steps) (hul : steps.length ≤ 140737488351232) : Gives Try.prog 5 #[v, u] w (.bool true) := by
  unfold Gives
  obtain ⟨i0, hi, hz0, hz1, hz2⟩ := info_parts elemI.info
  obtain ⟨p, cap, rfl, -⟩ := hv.form
  obtain ⟨pu, cu, rfl, -⟩ := rowI_form hu
  have HV := Lib.hid hv
  have HU := Lib.hid hu
  have HAw := Lib.hid (awakeW_any C)
  have HN := Lib.hid (newW_any (C := C) (ext_refl w))
  clear hv hu
  obtain ⟨n, hn⟩ : ∃ n, l.length = n := ⟨_, rfl⟩
  have HNL := Lib.hid hn
  rw [hn] at hl ⊢
  obtain ⟨z, hz⟩ : ∃ n, steps.length = n := ⟨_, rfl⟩
  have HZL := Lib.hid hz
  rw [hz] at hul ⊢
  clear hn hz
  go_enter Try.func5, Try.ntmps5
  by_cases hb : 60 < n
  · have hd : decide ((60 : Int) < (n : Int)) = true := by rw [decide_eq_true_eq]; omega
    go_wp2_with fail
    refine Gives.mono' (HAw.out _) ?_
    intro x
    go_wp2_with fail
    go_ret
    exact ⟨rfl, Later.ex x.below⟩
  by_cases hb2 : 30 < z
  · have hd : decide ((60 : Int) < (n : Int)) = false := by rw [decide_eq_false_iff_not]; omega
    have hd2 : decide ((30 : Int) < (z : Int)) = true := by rw [decide_eq_true_eq]; omega
    go_wp2_with fail
    refine Gives.mono' (HAw.out _) ?_
    intro x
    go_wp2_with fail
    go_ret
    exact ⟨rfl, Later.ex x.below⟩
  have hd : decide ((60 : Int) < (n : Int)) = false := by rw [decide_eq_false_iff_not]; omega
  have hd2 : decide ((30 : Int) < (z : Int)) = false := by rw [decide_eq_false_iff_not]; omega
  go_wp2_with fail
  refine HN.out.mono ?_
  rintro e w1 ⟨m, rfl, hs⟩
  have H1 := Lib.hid (new_two hs)
  clear hs HN
  go_wp2_with fail
  refine H1.out.mono ?_
  rintro e w2 ⟨m', rfl, hs⟩
  have HS : Hid (TwoS C.Own C.Own w m m' [] [] (fun _ => False) w2) := Lib.hid hs
  clear hs H1 hd hd2
  go_wp2_with fail
  go_loopw [33] (fun v33 wr => ∃ k : Nat, k ≤ n ∧ v33 = .int .i64 k ∧ ∃ L, Hid (TwoS C.Own C.Own w m m' L L (fun _ => False) wr)) (fun v33 _ => n - (intOf v33).toNat)
  case atStart => exact ⟨0, by omega, rfl, [], HS⟩
  case round =>
    clear HS
    obtain ⟨k, hk, rfl, L, HP⟩ := hrel
    by_cases hkl : k < n
    · obtain ⟨c, hkc⟩ : ∃ c, l[k]? = some c := ⟨_, List.getElem?_eq_getElem (by have := HNL.out; omega)⟩
      obtain ⟨b, o, rfl, a0, a1, a2⟩ := cellC (HV.out.below HP.out.below) hkc
      obtain ⟨cd, cn, ct⟩ := c
      dsimp only at a0 a1 a2
      clear hkc
      go_upto_region 7 with fail
      have hTA := TwoS.box C.owns C.owns HP.out (.cells #[.int .i64 cd, .int .i64 cn, .int .i64 ct] 30)
      have hbox : (wr.alloc (.cells #[.int .i64 cd, .int .i64 cn, .int .i64 ct] 30)).heap[wr.heap.size]? = some (.cells #[.int .i64 cd, .int .i64 cn, .int .i64 ct] 30) := heap_alloc_new wr _
      obtain ⟨W3, hW3⟩ : ∃ W, wr.alloc (.cells #[.int .i64 cd, .int .i64 cn, .int .i64 ct] 30) = W := ⟨_, rfl⟩
      obtain ⟨q, hq⟩ : ∃ q, wr.heap.size = q := ⟨_, rfl⟩
      rw [hW3] at hTA hbox ⊢
      rw [hq] at hTA hbox ⊢
      have HT0 : Hid (TwoS C.Own C.Own w m m' L L (fun k => k = q) W3.drew) := Lib.hid (TwoS.later C.owns C.owns (hTA.less fun k h => .inr h) ⟨W3.drew, ext_drew (ext_refl W3)⟩)
      clear hW3 hq a0 a1 a2 HP hTA
      obtain ⟨b0, b1, b2⟩ := boxC hbox
      have hql : q < W3.heap.size := (Array.getElem?_eq_some_iff.1 hbox).1
      have H1 := Lib.hid (ord_set1 HT0.out cn ct)
      obtain ⟨B, hB⟩ : ∃ B, okM ⟨cn, ct⟩ = B := ⟨_, rfl⟩
      have HBB := Lib.hid hB
      rw [hB] at H1
      clear hB hbox
      refine wp_region_greedy (n := 13) (fresh := Array.replicate 13 false) (GK fun k => k = q) (by kernel_rfl) rfl rfl ?_
      refine wpAnyK_batch [0, 1, 2, 3, 4, 6, 7, 8, 9, 10] 3 rfl (by kernel_rfl) (by kernel_rfl) rfl (by simp only [pickL, nthL, List.cons_append, List.nil_append]; rfl) ?_
      repeat (go_big_quiet_step (fail))
      refine wpQuiet_nil ?_
      refine wpAnyG_call3 (i := 5) (d := some 42) (v0 := .pointer (some ⟨m, 0, none⟩)) (v1 := .int .i64 cn) (v2 := .int .i64 ct) (R := SetR C w m m' (afterSet L ⟨cn, ct⟩) L (fun k => k = q) B W3.drew) (by kernel_rfl) rfl (by rfl) rfl Try.call15 (by rfl) (by rfl) (by rfl) (H1.out) (fun _ _ h => h.2.2) rfl ?_
      rintro _ w4 ⟨rfl, hs4, hg4⟩
      have H2 := Lib.hid (ord_set2 hs4 cn ct)
      rw [HBB.out] at H2
      clear hs4 hg4 H1
      simp only [Act.put, List.setIfInBounds_toArray, List.set_cons_succ, List.set_cons_zero]
      refine wpAnyG_call3 (i := 11) (d := some 48) (v0 := .pointer (some ⟨m', 0, none⟩)) (v1 := .int .i64 cn) (v2 := .int .i64 ct) (R := SetR C w m m' (afterSet L ⟨cn, ct⟩) (afterSet L ⟨cn, ct⟩) (fun k => k = q) B w4) (by kernel_rfl) rfl (by rfl) rfl Try.call15 (by rfl) (by rfl) (by rfl) (H2.out) (fun _ _ h => h.2.2) rfl ?_
      rintro _ w5 ⟨rfl, hs5, hg5⟩
      have HS5 : Hid (TwoS C.Own C.Own w m m' (afterSet L ⟨cn, ct⟩) (afterSet L ⟨cn, ct⟩) (fun _ => False) w5) := Lib.hid (hs5.less fun _ h => h.elim)
      clear hs5 hg5 H2
      simp only [Act.put, List.setIfInBounds_toArray, List.set_cons_succ, List.set_cons_zero]
      refine wpAnyK_batch [12] 0 rfl (by kernel_rfl) (by kernel_rfl) rfl (by simp only [pickL, nthL, List.cons_append, List.nil_append]; rfl) ?_
      repeat (go_big_quiet_step (fail))
      refine wpQuiet_nil ?_
      refine wpAnyG_end (by kernel_rfl) ?_
      clear HT0 HBB b0 b1 b2 hql
      go_wp2_with fail
      go_roundw
      case rel => exact ⟨k + 1, by omega, by go_num, _, HS5⟩
      case measure => simp [intOf]; omega
    · obtain rfl : k = n := by omega
      have HF := Lib.hid HP.out.fine
      have HLen := Lib.hid (len_two HP.out)
      obtain ⟨N, hN⟩ : ∃ N, L.length = N := ⟨_, rfl⟩
      have hN1000 : N ≤ 1000 := by rw [← hN]; exact HP.out.fine.len
      have HNN := Lib.hid hN
      rw [hN] at HLen
      clear hN
      go_wp2_with fail
      refine Gives.mono' HLen.out ?_
      intro x1
      have hP1 := TwoS.later C.owns C.owns HP.out x1
      have HB1 := Lib.hid hP1.below
      have H1 := Lib.hid (due_two C.owns hP1 0)
      clear hP1 HP HLen
      go_wp2_with fail
      refine H1.out.mono ?_
      rintro e w3 ⟨p3, c3, rfl, hr3, hs3, -⟩
      have hord := OrdS.first (now := 0) HB1.out hr3 hs3
      obtain ⟨v3, hv3⟩ : ∃ v, Value.slice p3 ((dueM L 0).map Mo.n).length c3 = v := ⟨_, rfl⟩
      rw [hv3] at hord ⊢
      have HO := Lib.hid hord
      clear hord hr3 hs3 hv3 H1 HB1
      go_wp2_with fail
      go_loopw [10, 11, 57] (fun v10 v11 v57 wr => ∃ (r : Nat) (now : Int), r ≤ z ∧ v57 = .int .i64 r ∧ v11 = .int .i64 now ∧ 0 ≤ now ∧ now < 1099511627776 ∧ Hid (OrdS C w m m' L now v10 wr)) (fun _ _ v57 _ => z - (intOf v57).toNat)
      case atStart => exact ⟨0, 0, by omega, rfl, rfl, by omega, by omega, HO⟩
      case round =>
        clear HO
        obtain ⟨r, now, hr, rfl, rfl, hn0, hn1, HO⟩ := hrel
        by_cases hrz : r < z
        · obtain ⟨s, hks⟩ : ∃ s, steps[r]? = some s := ⟨_, List.getElem?_eq_getElem (by have := HZL.out; omega)⟩
          obtain ⟨b, o, rfl, a0⟩ := cellI (HU.out.below HO.out.two.below) hks
          obtain ⟨i, hi0, hi1, hiw, hit⟩ := mod_in 1099511627776 (by decide) (by decide) s
          have HI := Lib.hid hiw
          clear hiw hit hks
          go_upto_region 17 with fail
          rw [HI.out]
          obtain ⟨now', hnow⟩ : ∃ x, (if now < i then i else now) = x := ⟨_, rfl⟩
          have hle : now ≤ now' := by rw [← hnow]; split <;> omega
          have hn0' : 0 ≤ now' := by omega
          have hn1' : now' < 1099511627776 := by rw [← hnow]; split <;> omega
          rw [hnow]
          have h1 := HO.out.step hle
          obtain ⟨N2, hN2⟩ : ∃ N2, (dueM (restM L now) now').map Mo.n = N2 := ⟨_, rfl⟩
          have hN2l : N2.length ≤ 1000 := by rw [← hN2, List.length_map]; exact ((HF.out.rest now).due now').len
          have hAl : ((dueM L now).map Mo.n).length ≤ 1000 := by rw [List.length_map]; exact (HF.out.due now).len
          have HHas : Hid (∀ (k : Nat) (x : Int), N2[k]? = some x → ∃ t, hasM L x = some ⟨x, t⟩ ∧ t ≤ now') := Lib.hid fun k x hx => by
            rw [← hN2, List.getElem?_map] at hx
            cases hy : (dueM (restM L now) now')[k]? with
            | none => rw [hy] at hx; cases hx
            | some y =>
              rw [hy] at hx
              obtain ⟨yn, yt⟩ := y
              obtain rfl : yn = x := by simpa using hx
              have := order_at HF.out (List.mem_of_getElem? hy)
              exact ⟨yt, this.1, this.2⟩
          rw [hN2] at h1
          have HN2 := Lib.hid hN2
          have H1 := Lib.hid h1
          clear h1 hN2 HO hnow
          go_wp2_with fail
          refine H1.out.mono ?_
          rintro e w4 ⟨p4, c4, rfl, hin⟩
          have HIn := Lib.hid hin
          clear hin H1
          go_wp2_with fail
          go_loopw [10, 71] (fun v10 v71 wr => ∃ y : Nat, y ≤ N2.length ∧ v71 = .int .i64 y ∧ Hid (InS C w m m' L now' ((dueM L now).map Mo.n) N2 (.slice p4 N2.length c4) y v10 wr)) (fun _ v71 _ => N2.length - (intOf v71).toNat)
          case atStart => exact ⟨0, by omega, rfl, HIn⟩
          case round =>
            clear HIn
            obtain ⟨y, hy, rfl, HIn⟩ := hrel
            by_cases hyl : y < N2.length
            · obtain ⟨x, hx⟩ : ∃ x, N2[y]? = some x := ⟨_, List.getElem?_eq_getElem hyl⟩
              obtain ⟨t, ht, htn⟩ := HHas.out y x hx
              have hrow := rowAt_own (E := elemI) HIn.out.row
              obtain ⟨b', o', rfl, a0⟩ := cellI hrow hx
              have HA1 := Lib.hid (fun q : Later wr => at_two (TwoS.later C.owns C.owns HIn.out.two q).swap x)
              rw [ht] at HA1
              unfold atV at HA1
              have g21 : decide (now' < t) = false := by rw [decide_eq_false_iff_not]; omega
              have hgl : (((dueM L now).map Mo.n) ++ N2.take y).length ≤ 2000 := by rw [List.length_append, List.length_take]; omega
              have HX := Lib.hid hx
              clear hx ht hrow
              go_wp2_with fail
              refine Gives.mono' (HA1.out ⟨wr, ext_refl wr⟩) ?_
              intro q1
              have hin1 := HIn.out.later q1
              have HIn1 := Lib.hid hin1
              have HR1 := Lib.hid hin1.got
              have HC1 := Lib.hid (cellI_one q1.w x)
              clear hin1 HIn a0 HA1
              go_wp2_with (at_builtin; refine wpList_append_where rfl _ _ 33 rfl 3 i0 (.int .i64 0) 1 8 Try.underlying33 hi hz0 hz1 hz2 rfl (by decide) _ _ _ rfl (HR1.out.alloc _) ⟨q1.w.heap.size, 0, none⟩ 1 1 [.int .i64 x] rfl rfl HC1.out (by simp [Value.oneCell']) (by have := hgl; unfold maxLen; omega) (by have := hgl; omega) ?_; intro v' w5 hown' hgrow hwh; have HO1 := Lib.hid hown'; have HG := Lib.hid hgrow; have HW := Lib.hid hwh; clear hown' hgrow hwh)
              go_roundw
              case rel => exact ⟨y + 1, by omega, by go_num, Lib.hid (HIn1.out.next HX.out HO1.out HG.out HW.out)⟩
              case measure => simp [intOf]; omega
            · obtain rfl : y = N2.length := by omega
              have HO2 : Hid (OrdS C w m m' L now' _ wr) := Lib.hid (HIn.out.done HF.out hle HN2.out)
              clear HIn
              go_wp2_with fail
              go_roundw
              case rel => exact ⟨r + 1, now', by omega, by go_num, rfl, hn0', hn1', HO2⟩
              case measure => simp [intOf]; omega
        · obtain rfl : r = z := by omega
          have hgot := rowAt_own (E := elemI) HO.out.got
          have HO' := Lib.hid HO.out
          have h1 := due_two C.owns HO.out.two.swap now
          have hDl : ((dueM L now).map Mo.n).length ≤ 1000 := by rw [List.length_map]; exact (HF.out.due now).len
          have hrs := order_rest HF.out now
          rw [HNN.out] at hrs
          obtain ⟨D, hD⟩ : ∃ D, (dueM L now).map Mo.n = D := ⟨_, rfl⟩
          have HGot := Lib.hid HO.out.got
          obtain ⟨R, hR⟩ : ∃ R, (restM L now).length = R := ⟨_, rfl⟩
          have HRl := Lib.hid hR
          unfold DueT at h1
          rw [hD] at hDl hrs h1 HGot
          rw [hR] at hrs
          obtain ⟨hrs1, hrs2⟩ := hrs
          have HDD := Lib.hid hD
          have H1 := Lib.hid h1
          clear h1 hD hR hgot HO
          go_wp2_with fail
          refine H1.out.mono ?_
          rintro e w4 ⟨p4, c4, rfl, hr4, hs4, hg4⟩
          have HSame := Lib.hid (sameW_any _ (.slice p4 D.length c4) D w4 (rowAt_own (E := elemI) (row_keepsE HGot.out fun g hg => hg4.block hg)) (rowAt_own (E := elemI) hr4) (by omega))
          have HS4 : Hid (TwoS C.Own C.Own w m m' (restM L now) (restM L now) (fun _ => False) w4) := Lib.hid (hs4.swap.less fun _ h => h.elim)
          have HLa := Lib.hid (fun q : Later w4 => (len_two (TwoS.later C.owns C.owns HS4.out q)).cast (by rw [HRl.out]))
          have HLb := Lib.hid (fun q : Later w4 => (len_two (TwoS.later C.owns C.owns HS4.out q).swap).cast (by rw [HRl.out]))
          clear hr4 hs4 hg4 H1 HGot HO'
          go_wp2_with fail
          refine Gives.mono' HSame.out ?_
          intro q1
          go_wp2_with fail
          refine Gives.on (HLa.out q1) ?_
          intro q2
          go_wp2_with fail
          refine Gives.on (HLb.out q2) ?_
          intro q3
          go_wp2_with fail
          refine Gives.on (HLa.out q3) ?_
          intro q4
          have h1 := due_two C.owns (TwoS.later C.owns C.owns HS4.out q4) 1099511627776
          unfold DueT at h1
          rw [(order_end HF.out now).1, (order_end HF.out now).2] at h1
          obtain ⟨E, hE⟩ : ∃ E, (restM L now).map Mo.n = E := ⟨_, rfl⟩
          have hEl : E.length = R := by rw [← hE, List.length_map]; exact HRl.out
          rw [hE, hEl] at h1
          have H2 := Lib.hid h1
          clear h1 hE HLa HLb HSame
          go_wp2_with fail
          refine H2.out.mono ?_
          rintro e w5 ⟨p5, c5, rfl, -, hs5, -⟩
          have HS5 : Hid (TwoS C.Own C.Own w m m' [] (restM L now) (fun _ => False) w5) := Lib.hid (hs5.less fun _ h => h.elim)
          have HL5 := Lib.hid (len_two hs5)
          rw [show (([] : List Mo).length : Int) = 0 from rfl] at HL5
          clear hs5 H2
          go_wp2_with fail
          refine Gives.mono' HL5.out ?_
          intro q5
          have h1 := due_two C.owns (TwoS.later C.owns C.owns HS5.out q5) 1099511627776
          unfold DueT at h1
          rw [show ((dueM [] 1099511627776).map Mo.n).length = 0 from rfl] at h1
          have H3 := Lib.hid h1
          clear h1
          go_wp2_with fail
          refine H3.out.mono ?_
          rintro e w6 ⟨p6, c6, rfl, -, hs6, -⟩
          have HB6 := Lib.hid hs6.below
          clear hs6 H3
          go_wp2_with fail
          refine Gives.mono' (HAw.out _) ?_
          intro q6
          go_wp2_with fail
          go_ret
          exact ⟨rfl, Later.ex (below_later HB6.out HB6.out.size q6)⟩
end Go.Proofs.Ytcmidomgnbodiaa
