/- WatchPlays: a walk by the contracts alone. -/
import Derived.Test.YtcmidomgnbodiaaWatApart
import Derived.Test.YtcmidomgnbodiaaWatRef
namespace Go.Proofs.Ytcmidomgnbodiaa
open Go Go.RowKit Go.BigFrame

theorem ret_of {P : Program} {f : FuncId} {args : Array Value} {W : World} {v : Value} {R : World → Prop} (h : Calls P f args W fun e W' => e = .returned v ∧ R W') : Calls P f args W fun e W' => ∃ u, e = .returned u ∧ (u = v ∧ R W') :=
  h.mono fun _ _ ⟨he, hr⟩ => ⟨v, he, rfl, hr⟩
theorem gives_of {P : Program} {f : FuncId} {args : Array Value} {W : World} {v : Value} (h : Gives P f args W v) : Calls P f args W fun e W' => ∃ u, e = .returned u ∧ (u = v ∧ Below W.heap.size W W') :=
  h.mono fun _ _ ⟨he, x, hx⟩ => ⟨v, he, rfl, by rw [hx]; exact x.below⟩
/-- Both clocks have had the same. -/
def PlW (C : WatC) (w : World) (m m' : Nat) (G : Nat → Prop) (L : List Mo) (W : World) : Prop := TwoS C.Own RefC w m m' L L G W
section
variable {C : WatC} {w W : World} {m m' : Nat} {L : List Mo} {G : Nat → Prop}
def CutR (C : WatC) (w : World) (m m' : Nat) (A B : List Mo) (G : Nat → Prop) (b : Bool) (W : World) (v : Value) (W' : World) : Prop := v = .bool b ∧ TwoS C.Own RefC w m m' A B G W' ∧ Stood G W W'
theorem plw_cut1 (h : PlW C w m m' G L W) (n : Int) : Calls Try.prog 10 #[.pointer (some ⟨m, 0, none⟩), .int .i64 n] W fun e W' => ∃ v, e = .returned v ∧ CutR C w m m' (cutM L n) L G (hasM L n).isSome W v W' :=
  (cut_two refC_owns h n).mono fun _ _ ⟨he, h1, h2⟩ => ⟨_, he, rfl, h1, h2⟩
theorem plw_cut2 {A : List Mo} (h : TwoS C.Own RefC w m m' A L G W) (n : Int) : Calls Try.prog 11 #[.pointer (some ⟨m', 0, none⟩), .int .i64 n] W fun e W' => ∃ v, e = .returned v ∧ CutR C w m m' A (cutM L n) G (hasM L n).isSome W v W' :=
  (rcut_two C.owns h.swap n).mono fun _ _ ⟨he, h1, h2⟩ => ⟨_, he, rfl, h1.swap, h2⟩
theorem plw_set1 (h : PlW C w m m' G L W) (n t : Int) : Calls Try.prog 15 #[.pointer (some ⟨m, 0, none⟩), .int .i64 n, .int .i64 t] W fun e W' => ∃ v, e = .returned v ∧ CutR C w m m' (afterSet L ⟨n, t⟩) L G (okM ⟨n, t⟩) W v W' :=
  (set_two refC_owns h n t).mono fun _ _ ⟨he, h1, h2⟩ => ⟨_, he, rfl, h1, h2⟩
theorem plw_set2 {A : List Mo} (h : TwoS C.Own RefC w m m' A L G W) (n t : Int) : Calls Try.prog 16 #[.pointer (some ⟨m', 0, none⟩), .int .i64 n, .int .i64 t] W fun e W' => ∃ v, e = .returned v ∧ CutR C w m m' A (afterSet L ⟨n, t⟩) G (okM ⟨n, t⟩) W v W' :=
  (rset_two C.owns h.swap n t).mono fun _ _ ⟨he, h1, h2⟩ => ⟨_, he, rfl, h1.swap, h2⟩
def DueR (C : WatC) (w : World) (m m' : Nat) (A B : List Mo) (G : Nat → Prop) (N : List Int) (W : World) (v : Value) (W' : World) : Prop := ∃ p c, v = .slice p N.length c ∧ W'.ownsRow W.heap.size 3 1 (.slice p N.length c) N.length (elemI.cells N) ∧ TwoS C.Own RefC w m m' A B (fun k => G k ∨ (Value.slice p N.length c).ownBlock = some k) W' ∧ Stood G W W'
theorem plw_due1 (h : PlW C w m m' G L W) (now : Int) : Calls Try.prog 13 #[.pointer (some ⟨m, 0, none⟩), .int .i64 now] W fun e W' => ∃ v, e = .returned v ∧ DueR C w m m' (restM L now) L G ((dueM L now).map Mo.n) W v W' :=
  (due_two refC_owns h now).mono fun _ _ ⟨p, c, he, h1, h2, h3⟩ => ⟨_, he, p, c, rfl, h1, h2, h3⟩
theorem plw_due2 {A : List Mo} (h : TwoS C.Own RefC w m m' A L G W) (now : Int) : Calls Try.prog 14 #[.pointer (some ⟨m', 0, none⟩), .int .i64 now] W fun e W' => ∃ v, e = .returned v ∧ DueR C w m m' A (restM L now) G ((dueM L now).map Mo.n) W v W' :=
  (rdue_two C.owns h.swap now).mono fun _ _ ⟨p, c, he, h1, h2, h3⟩ => ⟨_, he, p, c, rfl, h1, h2.swap, h3⟩
end

set_option maxHeartbeats 4000000 in
set_option maxRecDepth 100000 in
theorem playsLawW_any (C : WatC) (v : Value) (l : List MCall) (w : World) (hv : RowAt elemC w v l) (hl : l.length ≤ 140737488351232) : Gives Try.prog 3 #[v] w (.bool true) := by
  unfold Gives
  obtain ⟨p, cap, rfl, -⟩ := hv.form
  have HV := Lib.hid hv
  have HAw := Lib.hid (awakeW_any C)
  have HN := Lib.hid (newW_any (C := C) (ext_refl w))
  clear hv
  obtain ⟨n, hn⟩ : ∃ n, l.length = n := ⟨_, rfl⟩
  have HNL := Lib.hid hn
  rw [hn] at hl ⊢
  clear hn
  go_enter Try.func3, Try.ntmps3
  go_wp2_with fail
  refine HN.out.mono ?_
  rintro e w1 ⟨m, rfl, hs⟩
  have HS1 : Hid (PlW C w m w1.heap.size (fun _ => False) [] (w1.alloc (.cells #[.slice none 0 0] 28))) := Lib.hid (rnew_two hs).swap
  clear hs HN
  go_upto_region 2 with fail
  obtain ⟨m', hm'⟩ : ∃ b, w1.heap.size = b := ⟨_, rfl⟩
  obtain ⟨w2, hw2⟩ : ∃ W, w1.alloc (.cells #[.slice none 0 0] 28) = W := ⟨_, rfl⟩
  rw [hm', hw2] at HS1
  rw [hm', hw2]
  clear hm' hw2
  go_wp2_with fail
  go_loopw [19] (fun v19 wr => ∃ k : Nat, k ≤ n ∧ k ≤ 100 ∧ v19 = .int .i64 k ∧ ∃ L, Hid (PlW C w m m' (fun _ => False) L wr)) (fun v19 _ => n - (intOf v19).toNat)
  case atStart => exact ⟨0, by omega, by omega, rfl, [], HS1⟩
  case round =>
    clear HS1
    obtain ⟨k, hk, hk100, rfl, L, HP⟩ := hrel
    by_cases hkl : k < n
    · obtain ⟨c, hkc⟩ : ∃ c, l[k]? = some c := ⟨_, List.getElem?_eq_getElem (by have := HNL.out; omega)⟩
      obtain ⟨b, o, rfl, a0, a1, a2⟩ := cellC (HV.out.below HP.out.below) hkc
      obtain ⟨cd, cn, ct⟩ := c
      dsimp only at a0 a1 a2
      clear hkc
      go_upto_region 7 with fail
      have hTA := TwoS.box C.owns refC_owns HP.out (.cells #[.int .i64 cd, .int .i64 cn, .int .i64 ct] 30)
      have hbox : (wr.alloc (.cells #[.int .i64 cd, .int .i64 cn, .int .i64 ct] 30)).heap[wr.heap.size]? = some (.cells #[.int .i64 cd, .int .i64 cn, .int .i64 ct] 30) := heap_alloc_new wr _
      obtain ⟨W3, hW3⟩ : ∃ W, wr.alloc (.cells #[.int .i64 cd, .int .i64 cn, .int .i64 ct] 30) = W := ⟨_, rfl⟩
      obtain ⟨q, hq⟩ : ∃ q, wr.heap.size = q := ⟨_, rfl⟩
      rw [hW3] at hTA hbox ⊢
      rw [hq] at hTA hbox ⊢
      have HTA : Hid (PlW C w m m' (fun k => k = q) L W3) := Lib.hid (hTA.less fun k h => .inr h)
      clear hW3 hq a0 a1 a2 HP hTA
      obtain ⟨b0, b1, b2⟩ := boxC hbox
      have hql : q < W3.heap.size := (Array.getElem?_eq_some_iff.1 hbox).1
      have HB := Lib.hid hbox
      clear hbox
      by_cases hkh : k = 100
      · subst hkh
        have HBl := Lib.hid HTA.out.below
        go_wp2_with fail
        refine Gives.mono' (HAw.out _) ?_
        intro y
        go_wp2_with fail
        go_ret
        exact ⟨rfl, Later.ex (below_later HBl.out HBl.out.size y)⟩
      have g7 : decide ((100 : Int) ≤ (k : Int)) = false := by rw [decide_eq_false_iff_not]; omega
      have HT0 : Hid (PlW C w m m' (fun k => k = q) L W3.drew) := Lib.hid (TwoS.later C.owns refC_owns HTA.out ⟨W3.drew, ext_drew (ext_refl W3)⟩)
      by_cases h0 : cd = 0
      · subst h0
        go_upto_region 12 with fail
        have H1 := Lib.hid (plw_cut1 HT0.out cn)
        obtain ⟨B, hB⟩ : ∃ B, (hasM L cn).isSome = B := ⟨_, rfl⟩
        have HBB := Lib.hid hB
        rw [hB] at H1
        clear hB
        refine wp_region_greedy (n := 10) (fresh := Array.replicate 10 false) (GK fun k => k = q) (by kernel_rfl) rfl rfl ?_
        refine wpAnyK_batch [0, 1, 2, 4, 5, 6] 4 rfl (by kernel_rfl) (by kernel_rfl) rfl (by simp only [pickL, nthL, List.cons_append, List.nil_append]; rfl) ?_
        repeat (go_big_quiet_step (fail))
        refine wpQuiet_nil ?_
        refine wpAnyG_call2 (i := 3) (d := some 46) (v0 := .pointer (some ⟨m, 0, none⟩)) (v1 := .int .i64 cn) (R := CutR C w m m' (cutM L cn) L (fun k => k = q) B W3.drew) (by kernel_rfl) rfl (by rfl) rfl Try.call10 (by rfl) (by rfl) (H1.out) (fun _ _ h => h.2.2) rfl ?_
        rintro _ w4 ⟨rfl, hs4, hg4⟩
        have H2 := Lib.hid (plw_cut2 hs4 cn)
        rw [HBB.out] at H2
        have HG4 := Lib.hid hg4
        clear hs4 hg4 H1
        simp only [Act.put, List.setIfInBounds_toArray, List.set_cons_succ, List.set_cons_zero]
        refine wpAnyG_call2 (i := 7) (d := some 50) (v0 := .pointer (some ⟨m', 0, none⟩)) (v1 := .int .i64 cn) (R := CutR C w m m' (cutM L cn) (cutM L cn) (fun k => k = q) B w4) (by kernel_rfl) rfl (by rfl) rfl Try.call11 (by rfl) (by rfl) (H2.out) (fun _ _ h => h.2.2) rfl ?_
        rintro _ w5 ⟨rfl, hs5, hg5⟩
        have HS5 : Hid (PlW C w m m' (fun k => k = q) (cutM L cn) w5) := Lib.hid hs5
        have HB5 := Lib.hid ((hg5.block rfl).trans ((HG4.out.block rfl).trans HB.out))
        clear hs5 hg5 H2 HG4
        simp only [Act.put, List.setIfInBounds_toArray, List.set_cons_succ, List.set_cons_zero]
        refine wpAnyK_batch [8, 9] 0 rfl (by kernel_rfl) (by kernel_rfl) rfl (by simp only [pickL, nthL, List.cons_append, List.nil_append]; rfl) ?_
        repeat (go_big_quiet_step (fail))
        refine wpQuiet_nil ?_
        refine wpAnyG_end (by kernel_rfl) ?_
        clear HT0 HTA HB HBB b0 b1 b2 hql
        have H1 := Lib.hid (fun y : Later w5 => at_two (TwoS.later C.owns refC_owns HS5.out y) cn)
        have H2 := Lib.hid (fun y : Later w5 => rat_two (TwoS.later C.owns refC_owns HS5.out y).swap cn)
        have H3 := Lib.hid (fun y : Later w5 => len_two (TwoS.later C.owns refC_owns HS5.out y))
        obtain ⟨d0, d1, d2⟩ := boxC HB5.out
        obtain ⟨pr, cr, hr⟩ := rlen_two HS5.out.swap
        obtain ⟨M, hM⟩ : ∃ M, cutM L cn = M := ⟨_, rfl⟩
        rw [hM] at H1 H2 H3 hr HS5
        obtain ⟨N, hN⟩ : ∃ N, M.length = N := ⟨_, rfl⟩
        rw [hN] at H3 hr
        have hq5 : q < w5.heap.size := (Array.getElem?_eq_some_iff.1 HB5.out).1
        have hm5 : m' < w5.heap.size := block_lt_of_cell hr
        obtain ⟨h, hh⟩ : ∃ h, hasM M cn = h := ⟨_, rfl⟩
        rw [hh] at H1 H2
        clear hM hN hh HB5
        cases h with
        | none =>
          unfold atV at H1 H2
          go_wp2_with fail
          refine Gives.mono' (H1.out ⟨w5, ext_refl w5⟩) ?_
          intro x1
          go_wp2_with fail
          refine Gives.on (H2.out x1) ?_
          intro x2
          go_wp2_with fail
          refine wp_region_later_on (by kernel_rfl) (by kernel_rfl) ?_
          repeat (go_big_quiet_step (first | (go_at_call 19; with_reducible exact later_of (H3.out _))))
          refine wpQuiet_nil ?_
          rintro _ ⟨x9, rfl⟩
          go_wp2_with fail
          go_roundw
          case rel => exact ⟨k + 1, by omega, by omega, by go_num, M, Lib.hid ((TwoS.later C.owns refC_owns HS5.out x9).less fun _ h => h.elim)⟩
          case measure => simp [intOf]; omega
        | some u =>
          unfold atV at H1 H2
          go_wp2_with fail
          refine Gives.mono' (H1.out ⟨w5, ext_refl w5⟩) ?_
          intro x1
          go_wp2_with fail
          refine Gives.on (H2.out x1) ?_
          intro x2
          go_wp2_with fail
          refine wp_region_later_on (by kernel_rfl) (by kernel_rfl) ?_
          repeat (go_big_quiet_step (first | (go_at_call 19; with_reducible exact later_of (H3.out _))))
          refine wpQuiet_nil ?_
          rintro _ ⟨x9, rfl⟩
          go_wp2_with fail
          go_roundw
          case rel => exact ⟨k + 1, by omega, by omega, by go_num, M, Lib.hid ((TwoS.later C.owns refC_owns HS5.out x9).less fun _ h => h.elim)⟩
          case measure => simp [intOf]; omega
      by_cases h1 : cd = 1
      · subst h1
        go_upto_region 14 with fail
        have H1 := plw_due1 HT0.out ct
        have hlen : ((dueM L ct).map Mo.n).length ≤ 1000 := by rw [List.length_map]; exact (HT0.out.fine.due ct).len
        obtain ⟨N, hN⟩ : ∃ N, (dueM L ct).map Mo.n = N := ⟨_, rfl⟩
        have HN := Lib.hid hN
        rw [hN] at H1 hlen
        have HH1 := Lib.hid H1
        clear H1 hN
        refine wp_region_greedy (n := 10) (fresh := Array.replicate 10 false) (GK fun k => k = q) (by kernel_rfl) rfl rfl ?_
        refine wpAnyK_batch [0, 1, 2, 4, 5, 6] 4 rfl (by kernel_rfl) (by kernel_rfl) rfl (by simp only [pickL, nthL, List.cons_append, List.nil_append]; rfl) ?_
        repeat (go_big_quiet_step (fail))
        refine wpQuiet_nil ?_
        refine wpAnyG_call2 (i := 3) (d := some 57) (v0 := .pointer (some ⟨m, 0, none⟩)) (v1 := .int .i64 ct) (R := DueR C w m m' (restM L ct) L (fun k => k = q) N W3.drew) (by kernel_rfl) rfl (by rfl) rfl Try.call13 (by rfl) (by rfl) (HH1.out) (fun _ _ ⟨_, _, _, _, _, h⟩ => h) rfl ?_
        rintro _ w4 ⟨p4, c4, rfl, hr4, hs4, hg4⟩
        have HR4 := Lib.hid hr4
        have H2 := plw_due2 hs4 ct
        rw [HN.out] at H2
        have HH2 := Lib.hid H2
        have HG4 := Lib.hid hg4
        clear hr4 hs4 hg4 H2 HH1
        simp only [Act.put, List.setIfInBounds_toArray, List.set_cons_succ, List.set_cons_zero]
        refine wpAnyG_call2 (i := 7) (d := some 61) (v0 := .pointer (some ⟨m', 0, none⟩)) (v1 := .int .i64 ct) (R := DueR C w m m' (restM L ct) (restM L ct) (fun k => k = q ∨ (Value.slice p4 N.length c4).ownBlock = some k) N w4) (by kernel_rfl) rfl (by rfl) rfl Try.call14 (by rfl) (by rfl) (HH2.out) (fun _ _ ⟨_, _, _, _, _, h⟩ => GK.less (fun _ h => .inl h) _ _ h) rfl ?_
        rintro _ w5 ⟨p5, c5, rfl, hr5, hs5, hg5⟩
        have HS5 : Hid (PlW C w m m' (fun k => k = q) (restM L ct) w5) := Lib.hid (hs5.less fun _ h => .inl (.inl h))
        have HB5 := Lib.hid ((hg5.block (.inl rfl)).trans ((HG4.out.block rfl).trans HB.out))
        have HSame := Lib.hid (sameW_any (.slice p4 N.length c4) (.slice p5 N.length c5) N w5 (rowAt_own (E := elemI) (row_keepsE HR4.out fun g hg => hg5.block (.inr hg))) (rowAt_own (E := elemI) hr5) (by omega))
        clear hr5 hs5 hg5 HH2 HG4 HR4
        simp only [Act.put, List.setIfInBounds_toArray, List.set_cons_succ, List.set_cons_zero]
        refine wpAnyG_call2 (i := 8) (d := some 62) (v0 := .slice p4 N.length c4) (v1 := .slice p5 N.length c5) (R := fun v W' => v = .bool true ∧ Below w5.heap.size w5 W') (by kernel_rfl) rfl (by rfl) rfl Try.call12 (by rfl) (by rfl) (gives_of HSame.out) (fun _ _ h => GK.of_below h.2 fun k hk => by rw [hk]; exact (Array.getElem?_eq_some_iff.1 HB5.out).1) rfl ?_
        rintro _ w6 ⟨rfl, hb6⟩
        have HS6 : Hid (PlW C w m m' (fun k => k = q) (restM L ct) w6) := Lib.hid (TwoS.later C.owns refC_owns HS5.out ⟨w6, hb6⟩)
        have HB6 := Lib.hid ((hb6.block q (Array.getElem?_eq_some_iff.1 HB5.out).1).trans HB5.out)
        clear hb6 HS5 HB5 HSame
        simp only [Act.put, List.setIfInBounds_toArray, List.set_cons_succ, List.set_cons_zero]
        refine wpAnyK_batch [9] 0 rfl (by kernel_rfl) (by kernel_rfl) rfl (by simp only [pickL, nthL, List.cons_append, List.nil_append]; rfl) ?_
        repeat (go_big_quiet_step (fail))
        refine wpQuiet_nil ?_
        refine wpAnyG_end (by kernel_rfl) ?_
        clear HT0 HTA HB HN b0 b1 b2 hql hlen
        have H1 := Lib.hid (fun y : Later w6 => at_two (TwoS.later C.owns refC_owns HS6.out y) cn)
        have H2 := Lib.hid (fun y : Later w6 => rat_two (TwoS.later C.owns refC_owns HS6.out y).swap cn)
        have H3 := Lib.hid (fun y : Later w6 => len_two (TwoS.later C.owns refC_owns HS6.out y))
        obtain ⟨d0, d1, d2⟩ := boxC HB6.out
        obtain ⟨pr, cr, hr⟩ := rlen_two HS6.out.swap
        obtain ⟨M, hM⟩ : ∃ M, restM L ct = M := ⟨_, rfl⟩
        rw [hM] at H1 H2 H3 hr HS6
        obtain ⟨N, hN⟩ : ∃ N, M.length = N := ⟨_, rfl⟩
        rw [hN] at H3 hr
        have hq5 : q < w6.heap.size := (Array.getElem?_eq_some_iff.1 HB6.out).1
        have hm5 : m' < w6.heap.size := block_lt_of_cell hr
        obtain ⟨h, hh⟩ : ∃ h, hasM M cn = h := ⟨_, rfl⟩
        rw [hh] at H1 H2
        clear hM hN hh HB6
        cases h with
        | none =>
          unfold atV at H1 H2
          go_wp2_with fail
          refine Gives.mono' (H1.out ⟨w6, ext_refl w6⟩) ?_
          intro x1
          go_wp2_with fail
          refine Gives.on (H2.out x1) ?_
          intro x2
          go_wp2_with fail
          refine wp_region_later_on (by kernel_rfl) (by kernel_rfl) ?_
          repeat (go_big_quiet_step (first | (go_at_call 19; with_reducible exact later_of (H3.out _))))
          refine wpQuiet_nil ?_
          rintro _ ⟨x9, rfl⟩
          go_wp2_with fail
          go_roundw
          case rel => exact ⟨k + 1, by omega, by omega, by go_num, M, Lib.hid ((TwoS.later C.owns refC_owns HS6.out x9).less fun _ h => h.elim)⟩
          case measure => simp [intOf]; omega
        | some u =>
          unfold atV at H1 H2
          go_wp2_with fail
          refine Gives.mono' (H1.out ⟨w6, ext_refl w6⟩) ?_
          intro x1
          go_wp2_with fail
          refine Gives.on (H2.out x1) ?_
          intro x2
          go_wp2_with fail
          refine wp_region_later_on (by kernel_rfl) (by kernel_rfl) ?_
          repeat (go_big_quiet_step (first | (go_at_call 19; with_reducible exact later_of (H3.out _))))
          refine wpQuiet_nil ?_
          rintro _ ⟨x9, rfl⟩
          go_wp2_with fail
          go_roundw
          case rel => exact ⟨k + 1, by omega, by omega, by go_num, M, Lib.hid ((TwoS.later C.owns refC_owns HS6.out x9).less fun _ h => h.elim)⟩
          case measure => simp [intOf]; omega
      · have e0 : (cd == 0) = false := by rw [beq_eq_false_iff_ne]; exact h0
        have e1 : (cd == 1) = false := by rw [beq_eq_false_iff_ne]; exact h1
        go_upto_region 10 with fail
        have H1 := Lib.hid (plw_set1 HT0.out cn ct)
        obtain ⟨B, hB⟩ : ∃ B, okM ⟨cn, ct⟩ = B := ⟨_, rfl⟩
        have HBB := Lib.hid hB
        rw [hB] at H1
        clear hB
        refine wp_region_greedy (n := 14) (fresh := Array.replicate 14 false) (GK fun k => k = q) (by kernel_rfl) rfl rfl ?_
        refine wpAnyK_batch [0, 1, 2, 3, 4, 6, 7, 8, 9, 10] 4 rfl (by kernel_rfl) (by kernel_rfl) rfl (by simp only [pickL, nthL, List.cons_append, List.nil_append]; rfl) ?_
        repeat (go_big_quiet_step (fail))
        refine wpQuiet_nil ?_
        refine wpAnyG_call3 (i := 5) (d := some 33) (v0 := .pointer (some ⟨m, 0, none⟩)) (v1 := .int .i64 cn) (v2 := .int .i64 ct) (R := CutR C w m m' (afterSet L ⟨cn, ct⟩) L (fun k => k = q) B W3.drew) (by kernel_rfl) rfl (by rfl) rfl Try.call15 (by rfl) (by rfl) (by rfl) (H1.out) (fun _ _ h => h.2.2) rfl ?_
        rintro _ w4 ⟨rfl, hs4, hg4⟩
        have H2 := Lib.hid (plw_set2 hs4 cn ct)
        rw [HBB.out] at H2
        have HG4 := Lib.hid hg4
        clear hs4 hg4 H1
        simp only [Act.put, List.setIfInBounds_toArray, List.set_cons_succ, List.set_cons_zero]
        refine wpAnyG_call3 (i := 11) (d := some 39) (v0 := .pointer (some ⟨m', 0, none⟩)) (v1 := .int .i64 cn) (v2 := .int .i64 ct) (R := CutR C w m m' (afterSet L ⟨cn, ct⟩) (afterSet L ⟨cn, ct⟩) (fun k => k = q) B w4) (by kernel_rfl) rfl (by rfl) rfl Try.call16 (by rfl) (by rfl) (by rfl) (H2.out) (fun _ _ h => h.2.2) rfl ?_
        rintro _ w5 ⟨rfl, hs5, hg5⟩
        have HS5 : Hid (PlW C w m m' (fun k => k = q) (afterSet L ⟨cn, ct⟩) w5) := Lib.hid hs5
        have HB5 := Lib.hid ((hg5.block rfl).trans ((HG4.out.block rfl).trans HB.out))
        clear hs5 hg5 H2 HG4
        simp only [Act.put, List.setIfInBounds_toArray, List.set_cons_succ, List.set_cons_zero]
        refine wpAnyK_batch [12, 13] 0 rfl (by kernel_rfl) (by kernel_rfl) rfl (by simp only [pickL, nthL, List.cons_append, List.nil_append]; rfl) ?_
        repeat (go_big_quiet_step (fail))
        refine wpQuiet_nil ?_
        refine wpAnyG_end (by kernel_rfl) ?_
        clear HT0 HTA HB HBB b0 b1 b2 hql
        have H1 := Lib.hid (fun y : Later w5 => at_two (TwoS.later C.owns refC_owns HS5.out y) cn)
        have H2 := Lib.hid (fun y : Later w5 => rat_two (TwoS.later C.owns refC_owns HS5.out y).swap cn)
        have H3 := Lib.hid (fun y : Later w5 => len_two (TwoS.later C.owns refC_owns HS5.out y))
        obtain ⟨d0, d1, d2⟩ := boxC HB5.out
        obtain ⟨pr, cr, hr⟩ := rlen_two HS5.out.swap
        obtain ⟨M, hM⟩ : ∃ M, afterSet L ⟨cn, ct⟩ = M := ⟨_, rfl⟩
        rw [hM] at H1 H2 H3 hr HS5
        obtain ⟨N, hN⟩ : ∃ N, M.length = N := ⟨_, rfl⟩
        rw [hN] at H3 hr
        have hq5 : q < w5.heap.size := (Array.getElem?_eq_some_iff.1 HB5.out).1
        have hm5 : m' < w5.heap.size := block_lt_of_cell hr
        obtain ⟨h, hh⟩ : ∃ h, hasM M cn = h := ⟨_, rfl⟩
        rw [hh] at H1 H2
        clear hM hN hh HB5
        cases h with
        | none =>
          unfold atV at H1 H2
          go_wp2_with fail
          refine Gives.mono' (H1.out ⟨w5, ext_refl w5⟩) ?_
          intro x1
          go_wp2_with fail
          refine Gives.on (H2.out x1) ?_
          intro x2
          go_wp2_with fail
          refine wp_region_later_on (by kernel_rfl) (by kernel_rfl) ?_
          repeat (go_big_quiet_step (first | (go_at_call 19; with_reducible exact later_of (H3.out _))))
          refine wpQuiet_nil ?_
          rintro _ ⟨x9, rfl⟩
          go_wp2_with fail
          go_roundw
          case rel => exact ⟨k + 1, by omega, by omega, by go_num, M, Lib.hid ((TwoS.later C.owns refC_owns HS5.out x9).less fun _ h => h.elim)⟩
          case measure => simp [intOf]; omega
        | some u =>
          unfold atV at H1 H2
          go_wp2_with fail
          refine Gives.mono' (H1.out ⟨w5, ext_refl w5⟩) ?_
          intro x1
          go_wp2_with fail
          refine Gives.on (H2.out x1) ?_
          intro x2
          go_wp2_with fail
          refine wp_region_later_on (by kernel_rfl) (by kernel_rfl) ?_
          repeat (go_big_quiet_step (first | (go_at_call 19; with_reducible exact later_of (H3.out _))))
          refine wpQuiet_nil ?_
          rintro _ ⟨x9, rfl⟩
          go_wp2_with fail
          go_roundw
          case rel => exact ⟨k + 1, by omega, by omega, by go_num, M, Lib.hid ((TwoS.later C.owns refC_owns HS5.out x9).less fun _ h => h.elim)⟩
          case measure => simp [intOf]; omega
    · obtain rfl : k = n := by omega
      have HBl := Lib.hid HP.out.below
      go_wp2_with fail
      refine Gives.mono' (HAw.out _) ?_
      intro y
      go_wp2_with fail
      go_ret
      exact ⟨rfl, Later.ex (below_later HBl.out HBl.out.size y)⟩
end Go.Proofs.Ytcmidomgnbodiaa
