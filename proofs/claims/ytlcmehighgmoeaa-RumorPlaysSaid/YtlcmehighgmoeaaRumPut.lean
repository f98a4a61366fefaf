/- The landed queue: Put. -/
import Derived.Test.YtlcmehighgmoeaaRumEnds
import Derived.Test.YtlcmehighgmoeaaRumHas
import Derived.Test.YtlcmehighgmoeaaSteps
import Derived.BigQuiet
namespace Go.Proofs.Ytlcmehighgmoeaa
open Go Go.RowKit

def RPut (q often : Nat) (L : List Td) (F : Nat → Prop) (w w' : World) : Prop := ∃ L', L'.Perm L ∧ IsHeap lessT L'.length L' ∧ REnd q often L' F w w'
theorem rPut_later {q often : Nat} {L : List Td} {F : Nat → Prop} {w : World} (h : RumQ q often L w F) (hh : IsHeap lessT L.length L) (x : Later w) : RPut q often L F w x.w := ⟨L, List.Perm.refl _, hh, (rEnd_refl h).later x⟩

theorem mayB_cases {n i h : Int} (hm : mayB n i h = true) (hn : nothingB i h = false) : h ≠ 0 := by
  simp only [mayB, nothingB, decide_eq_true_eq, decide_eq_false_iff_not] at *
  omega

set_option maxHeartbeats 1000000 in
set_option maxRecDepth 100000 in
theorem putR_nil (c : Cl) (w : World) : Gives Try.prog 14 #[.pointer none, c.val] w (.bool false) := by
  unfold Gives Cl.val
  go_enter Try.func14, Try.ntmps14
  go_wp2_with fail
  go_ret
  exact ⟨rfl, Later.ex (by repeat (first | exact ext_refl _ | refine ext_later ?_ _ | refine ext_alloc ?_ _ | refine ext_drew ?_ | refine ext_drewN ?_ _))⟩

set_option maxHeartbeats 1000000 in
set_option maxRecDepth 100000 in
theorem putR_bad (q often : Nat) (L : List Td) (c : Cl) (w : World) (F : Nat → Prop) (_h : RumQ q often L w F) (hm : mayK c = false ∨ nothingK c = true) : Gives Try.prog 14 #[.pointer (some ⟨q, 0, none⟩), c.val] w (.bool false) := by
  obtain ⟨n, i, s⟩ := c
  unfold Gives Cl.val
  dsimp only
  obtain ⟨a, ha⟩ : ∃ a, mayB n i s = a := ⟨_, rfl⟩
  have HM := Lib.hid (fun W => may_any n i s W)
  have hm' : a = false ∨ nothingB i s = true := by rw [← ha]; exact hm
  rw [ha] at HM
  clear hm ha
  cases a with
  | false =>
    clear hm'
    go_enter Try.func14, Try.ntmps14
    go_wp2_with fail
    refine Gives.mono' (HM.out _) ?_
    intro x1
    go_wp2_with fail
    go_ret
    exact ⟨rfl, Later.ex (by repeat (first | exact ext_refl _ | refine ext_later ?_ _ | refine ext_alloc ?_ _ | refine ext_drew ?_ | refine ext_drewN ?_ _))⟩
  | true =>
    obtain rfl : s = 0 := by
      rcases hm' with h | h
      · simp at h
      · simp only [nothingB, decide_eq_true_eq] at h; omega
    clear hm'
    go_enter Try.func14, Try.ntmps14
    go_wp2_with fail
    refine Gives.mono' (HM.out _) ?_
    intro x1
    go_wp2_with fail
    go_ret
    exact ⟨rfl, Later.ex (by repeat (first | exact ext_refl _ | refine ext_later ?_ _ | refine ext_alloc ?_ _ | refine ext_drew ?_ | refine ext_drewN ?_ _))⟩

set_option maxHeartbeats 4000000 in
set_option maxRecDepth 100000 in
theorem putR_new (q often : Nat) (L : List Td) (c : Cl) (w : World) (F : Nat → Prop) (h : RumQ q often L w F) (hh : IsHeap lessT L.length L) (hL : L.length ≤ 100) (hm : mayK c = true) (hn : nothingK c = false) (ha : atIx L c.n = -1) :
    Calls Try.prog 14 #[.pointer (some ⟨q, 0, none⟩), c.val] w fun e w' => e = .returned (.bool true) ∧ RPut q often (L ++ [⟨c, 0⟩]) F w w' := by
  obtain ⟨n, i, s⟩ := c
  unfold Cl.val
  dsimp only at ha ⊢
  have hs0 : ((s : Int) == 0) = false := by simpa using mayB_cases hm hn
  have HM : Hid (∀ W, Gives Try.prog 21 #[.agg #[.int .i64 n, .int .i64 i, .int .i64 s]] W (.bool true)) := Lib.hid (fun W => (may_any n i s W).cast (by rw [show mayB n i s = true from hm]))
  obtain ⟨p, cap, hc⟩ := h.cells
  have HI : Hid (∀ x : Later (w.alloc (.cells #[.int .i64 n, .int .i64 i, .int .i64 s] 28)), Gives Try.prog 25 #[.slice p L.length cap, .int .i64 n] x.w (.int .i64 (-1))) := Lib.hid (fun x => (indexOf_any q often L n p cap x.w (hc.later (ext_later (ext_alloc (ext_refl w) _) x)) (by omega)).cast (by rw [ha]))
  have HP : Hid (∀ x : Later (w.alloc (.cells #[.int .i64 n, .int .i64 i, .int .i64 s] 28)), Calls Try.prog 24 #[.iface 62 (.pointer (some ⟨q, 1, none⟩)), .iface 60 (.agg #[.int .i64 n, .int .i64 i, .int .i64 s, .int .i64 0])] x.w fun e w' => ∃ v, e = .returned v ∧ RPut q often (L ++ [⟨⟨n, i, s⟩, 0⟩]) F w w') := Lib.hid fun x => by
    have hr : RAt q often F w L x.w := ⟨(rEnd_refl h).later ⟨x.w, ext_later (ext_alloc (ext_refl w) _) x⟩, by omega⟩
    exact (heapPush_any lessT_ordered (rheap q often F w) (rends q often F w) L ⟨⟨n, i, s⟩, 0⟩ x.w hr hh (by omega)).mono fun e w' ⟨⟨v, he⟩, xs', h1, h2, h3⟩ => ⟨v, he, xs', h2, h3, h1.1⟩
  have hlt := hc.lt
  have e1 := hc.h1
  clear hm hn ha h hh hc
  go_enter Try.func14, Try.ntmps14
  go_wp2_with fail
  refine Gives.mono' (HM.out _) ?_
  intro x1
  go_wp2_with fail
  refine wp_region_later_on (by kernel_rfl) (by kernel_rfl) ?_
  repeat (go_big_quiet_step (first | (go_at_call 25; with_reducible exact later_of (HI.out _))))
  refine wpQuiet_nil ?_
  rintro _ ⟨x9, rfl⟩
  go_wp2_with fail
  have hbox : x9.w.cell? ⟨w.heap.size, 0, none⟩ = some (.int .i64 n) ∧ x9.w.cell? ⟨w.heap.size, 1, none⟩ = some (.int .i64 i) ∧ x9.w.cell? ⟨w.heap.size, 2, none⟩ = some (.int .i64 s) := ⟨by simp [go_sem], by simp [go_sem], by simp [go_sem]⟩
  have HP9 := Lib.hid (HP.out ⟨x9.w.drew, x9.below.drew⟩)
  dsimp only at HP9
  obtain ⟨b0, b1, b2⟩ := hbox
  obtain ⟨w9, hw9⟩ : ∃ W, x9.w = W := ⟨_, rfl⟩
  rw [hw9] at b0 b1 b2 HP9 ⊢
  clear hw9 HP HI HM
  go_region_law (refine stp_call2 rfl 24 _ _ _ rfl Try.call24 rfl rfl HP9.out ?_; intro v w4 hend; have HE := Lib.hid hend; clear hend)
  all_goals go_wp2_with fail
  all_goals go_ret
  all_goals exact ⟨rfl, HE.out⟩

theorem rset_done (q often : Nat) (L : List Td) (t : Td) {w w9 : World} {F : Nat → Prop} {g cap k : Nat} (h : RumQ q often L w F) (he : w.cell? ⟨q, 1, none⟩ = some (.slice (some ⟨g, 0, none⟩) L.length cap)) (hk : k < L.length) (hb : Below w.heap.size w w9) :
    REnd q often (L.set k t) F w ((((w9.setCell ⟨g, k * 4, none⟩ (.int .i64 t.c.n)).setCell ⟨g, k * 4 + 1, none⟩ (.int .i64 t.c.i)).setCell ⟨g, k * 4 + 2, none⟩ (.int .i64 t.c.h)).setCell ⟨g, k * 4 + 3, none⟩ (.int .i64 t.n)).drew := by
  obtain ⟨v, hq, hr, hF⟩ := h
  obtain rfl : v = .slice (some ⟨g, 0, none⟩) L.length cap := by simpa [World.cell?, hq] using he
  have hlt := (Array.getElem?_eq_some_iff.1 hq).1
  have hFg : F g := (hF g).2 (.inr rfl)
  have hg := (hr.lt g rfl).2
  have hne : g ≠ q := by
    rintro rfl
    rcases hr.2 with ⟨h1, _⟩ | ⟨g', cap', cur, hv, _, h1, _⟩
    · simp at h1
    · obtain ⟨rfl, _⟩ : g = g' ∧ cap = cap' := by simpa using hv
      rw [hq] at h1
      simp at h1
  rcases hr.2 with ⟨h1, _⟩ | ⟨g', cap', cur, hv, _, h1, hnc, hcm, hcs, htk⟩
  · simp at h1
  obtain ⟨rfl, rfl⟩ : g = g' ∧ cap = cap' := by simpa using hv
  have h9 : w9.heap[g]? = _ := (hb.block g hg).trans h1
  obtain ⟨cur', hg9, hs9, ht9⟩ := row_set t h9 hcs hnc hk htk
  refine ⟨F, ⟨.slice (some ⟨g, 0, none⟩) L.length cap, ?_, ⟨?_, .inr ⟨g, cap, cur', ?_, Nat.zero_le _, hg9, ?_, hcm, hs9, ht9⟩⟩, hF⟩, ?_, fun k hk => .inl hk⟩
  · exact (Below.heap_setCell _ _ _ _ hne.symm).trans ((Below.heap_setCell _ _ _ _ hne.symm).trans ((Below.heap_setCell _ _ _ _ hne.symm).trans ((Below.heap_setCell _ _ _ _ hne.symm).trans ((hb.block q hlt).trans hq))))
  · rw [cellsT_len]
  · rw [List.length_set]
  · rw [List.length_set]; exact hnc
  · exact (((((Fr.of_below hb).set g _ _ (.inl hFg)).set g _ _ (.inl hFg)).set g _ _ (.inl hFg)).set g _ _ (.inl hFg)).drew


set_option maxHeartbeats 4000000 in
set_option maxRecDepth 100000 in
theorem putR_low (q often : Nat) (L : List Td) (c : Cl) (w : World) (F : Nat → Prop) (h : RumQ q often L w F) (hL : L.length ≤ 100) (hm : mayK c = true) (hn : nothingK c = false) (k : Nat) (t : Td) (hk : L[k]? = some t) (ha : atIx L c.n = k) (hc : 0 ≤ cmpK t.c c) :
    Gives Try.prog 14 #[.pointer (some ⟨q, 0, none⟩), c.val] w (.bool false) := by
  obtain ⟨n, i, s⟩ := c
  obtain ⟨⟨m, i', s'⟩, o⟩ := t
  unfold Gives Cl.val
  unfold cmpK at hc
  dsimp only at ha hc ⊢
  have hs0 : ((s : Int) == 0) = false := by simpa using mayB_cases hm hn
  have HM : Hid (∀ W, Gives Try.prog 21 #[.agg #[.int .i64 n, .int .i64 i, .int .i64 s]] W (.bool true)) := Lib.hid (fun W => (may_any n i s W).cast (by rw [show mayB n i s = true from hm]))
  obtain ⟨p, cap, hcells⟩ := h.cells
  have HI : Hid (∀ x : Later (w.alloc (.cells #[.int .i64 n, .int .i64 i, .int .i64 s] 28)), Gives Try.prog 25 #[.slice p L.length cap, .int .i64 n] x.w (.int .i64 k)) := Lib.hid (fun x => (indexOf_any q often L n p cap x.w (hcells.later (ext_later (ext_alloc (ext_refl w) _) x)) (by omega)).cast (by rw [ha]))
  have HC := Lib.hid (fun W => compare_any n i s m i' s' W)
  rw [cmpC_neg] at hc
  obtain ⟨C, hC⟩ : ∃ C, cmpC i s i' s' = C := ⟨_, rfl⟩
  rw [hC] at HC hc
  have hc0 : C ≤ 0 := by omega
  clear hC hc
  have hlt := hcells.lt
  have hkl : k < L.length := (List.getElem?_eq_some_iff.1 hk).1
  rcases hcells.row with h0 | ⟨g, rfl, hg, hgq, _, hcell⟩
  · rw [h0] at hkl; simp at hkl
  obtain ⟨a0, a1, a2, _⟩ := hcell k _ hk
  have e1 := hcells.h1
  clear hm hn ha hcell hk hcells h
  go_enter Try.func14, Try.ntmps14
  go_wp2_with fail
  refine Gives.mono' (HM.out _) ?_
  intro x1
  go_wp2_with fail
  refine wp_region_later_on (by kernel_rfl) (by kernel_rfl) ?_
  repeat (go_big_quiet_step (first | (go_at_call 25; with_reducible exact later_of (HI.out _))))
  refine wpQuiet_nil ?_
  rintro _ ⟨x8, rfl⟩
  go_wp2_with fail
  refine wp_region_later_on (by kernel_rfl) (by kernel_rfl) ?_
  repeat (go_big_quiet_step (first | (go_at_call 22; with_reducible exact later_of (HC.out _))))
  refine wpQuiet_nil ?_
  rintro _ ⟨x9, rfl⟩
  go_wp2_with fail
  go_ret
  exact ⟨rfl, Later.ex (by repeat (first | exact ext_refl _ | refine ext_later ?_ _ | refine ext_alloc ?_ _ | refine ext_drew ?_ | refine ext_drewN ?_ _))⟩

set_option maxHeartbeats 4000000 in
set_option maxRecDepth 100000 in
theorem putR_up (q often : Nat) (L : List Td) (c : Cl) (w : World) (F : Nat → Prop) (h : RumQ q often L w F) (hh : IsHeap lessT L.length L) (hL : L.length ≤ 100) (hm : mayK c = true) (hn : nothingK c = false) (k : Nat) (t : Td) (hk : L[k]? = some t) (ha : atIx L c.n = k) (hc : ¬ 0 ≤ cmpK t.c c) :
    Calls Try.prog 14 #[.pointer (some ⟨q, 0, none⟩), c.val] w fun e w' => e = .returned (.bool true) ∧ RPut q often (L.set k ⟨c, 0⟩) F w w' := by
  obtain ⟨n, i, s⟩ := c
  obtain ⟨⟨m, i', s'⟩, o⟩ := t
  unfold Cl.val
  unfold cmpK at hc
  dsimp only at ha hc ⊢
  have hs0 : ((s : Int) == 0) = false := by simpa using mayB_cases hm hn
  have HM : Hid (∀ W, Gives Try.prog 21 #[.agg #[.int .i64 n, .int .i64 i, .int .i64 s]] W (.bool true)) := Lib.hid (fun W => (may_any n i s W).cast (by rw [show mayB n i s = true from hm]))
  obtain ⟨p, cap, hcells⟩ := h.cells
  have HI : Hid (∀ x : Later (w.alloc (.cells #[.int .i64 n, .int .i64 i, .int .i64 s] 28)), Gives Try.prog 25 #[.slice p L.length cap, .int .i64 n] x.w (.int .i64 k)) := Lib.hid (fun x => (indexOf_any q often L n p cap x.w (hcells.later (ext_later (ext_alloc (ext_refl w) _) x)) (by omega)).cast (by rw [ha]))
  have HC := Lib.hid (fun W => compare_any n i s m i' s' W)
  rw [cmpC_neg] at hc
  obtain ⟨C, hC⟩ : ∃ C, cmpC i s i' s' = C := ⟨_, rfl⟩
  rw [hC] at HC hc
  have hc0 : 0 < C := by omega
  clear hC hc
  have hlt := hcells.lt
  have hkl : k < L.length := (List.getElem?_eq_some_iff.1 hk).1
  rcases hcells.row with h0 | ⟨g, rfl, hg, hgq, hfz, hcell⟩
  · rw [h0] at hkl; simp at hkl
  obtain ⟨a0, a1, a2, a3⟩ := hcell k _ hk
  have e1 := hcells.h1
  have f0 := hfz (k * 4)
  have f1 := hfz (k * 4 + 1)
  have f2 := hfz (k * 4 + 2)
  have f3 := hfz (k * 4 + 3)
  have HD : Hid (∀ w9, Below w.heap.size w w9 → REnd q often (L.set k ⟨⟨n, i, s⟩, 0⟩) F w ((((w9.setCell ⟨g, k * 4, none⟩ (.int .i64 n)).setCell ⟨g, k * 4 + 1, none⟩ (.int .i64 i)).setCell ⟨g, k * 4 + 2, none⟩ (.int .i64 s)).setCell ⟨g, k * 4 + 3, none⟩ (.int .i64 0)).drew) := Lib.hid fun w9 hb => rset_done q often L ⟨⟨n, i, s⟩, 0⟩ h e1 hkl hb
  have HX : Hid (∀ W, REnd q often (L.set k ⟨⟨n, i, s⟩, 0⟩) F w W → Calls Try.prog 26 #[.iface 62 (.pointer (some ⟨q, 1, none⟩)), .int .i64 k] W fun e w' => (∃ v, e = .returned v) ∧ RPut q often (L.set k ⟨⟨n, i, s⟩, 0⟩) F w w') := Lib.hid fun W hr => by
    have hl : (L.set k ⟨⟨n, i, s⟩, 0⟩).length = L.length := by simp
    exact (heapFix_any lessT_ordered (rheap q often F w) (L.set k ⟨⟨n, i, s⟩, 0⟩) k W ⟨hr, by omega⟩ (fixPre_set lessT_ordered _ (by rw [hl]; exact hh) (by omega) (by omega)) (by omega)).mono fun e w' ⟨hv, xs', h1, h2, h3⟩ => ⟨hv, xs', h2, h3, h1.1⟩
  clear hm hn ha hcell hk hcells h hh hfz
  go_enter Try.func14, Try.ntmps14
  go_wp2_with fail
  refine Gives.mono' (HM.out _) ?_
  intro x1
  go_wp2_with fail
  refine wp_region_later_on (by kernel_rfl) (by kernel_rfl) ?_
  repeat (go_big_quiet_step (first | (go_at_call 25; with_reducible exact later_of (HI.out _))))
  refine wpQuiet_nil ?_
  rintro _ ⟨x8, rfl⟩
  go_wp2_with fail
  refine wp_region_later_on (by kernel_rfl) (by kernel_rfl) ?_
  repeat (go_big_quiet_step (first | (go_at_call 22; with_reducible exact later_of (HC.out _))))
  refine wpQuiet_nil ?_
  rintro _ ⟨x9, rfl⟩
  go_wp2_with fail
  have hb9 : Below w.heap.size w x9.w := ext_later (ext_alloc (ext_refl w) _) x9
  have HB9 := Lib.hid hb9
  have hbox : x9.w.cell? ⟨w.heap.size, 0, none⟩ = some (.int .i64 n) ∧ x9.w.cell? ⟨w.heap.size, 1, none⟩ = some (.int .i64 i) ∧ x9.w.cell? ⟨w.heap.size, 2, none⟩ = some (.int .i64 s) := ⟨by simp [go_sem], by simp [go_sem], by simp [go_sem]⟩
  obtain ⟨b0, b1, b2⟩ := hbox
  have c1 : x9.w.cell? ⟨q, 1, none⟩ = _ := (hb9.cell (p := ⟨q, _, none⟩) hlt).trans e1
  have c2 : x9.w.cell? ⟨g, k * 4, none⟩ = _ := (hb9.cell (p := ⟨g, _, none⟩) hg).trans a0
  have c3 : x9.w.cell? ⟨g, k * 4 + 1, none⟩ = _ := (hb9.cell (p := ⟨g, _, none⟩) hg).trans a1
  have c4 : x9.w.cell? ⟨g, k * 4 + 2, none⟩ = _ := (hb9.cell (p := ⟨g, _, none⟩) hg).trans a2
  have c5 : x9.w.cell? ⟨g, k * 4 + 3, none⟩ = _ := (hb9.cell (p := ⟨g, _, none⟩) hg).trans a3
  have z0 : x9.w.frozen? ⟨g, k * 4, none⟩ = _ := (hb9.frozen (p := ⟨g, _, none⟩) hg).trans f0
  have z1 : x9.w.frozen? ⟨g, k * 4 + 1, none⟩ = _ := (hb9.frozen (p := ⟨g, _, none⟩) hg).trans f1
  have z2 : x9.w.frozen? ⟨g, k * 4 + 2, none⟩ = _ := (hb9.frozen (p := ⟨g, _, none⟩) hg).trans f2
  have z3 : x9.w.frozen? ⟨g, k * 4 + 3, none⟩ = _ := (hb9.frozen (p := ⟨g, _, none⟩) hg).trans f3
  have hg9 : g < x9.w.heap.size := Nat.lt_of_lt_of_le hg hb9.size
  have HD9 := Lib.hid (HX.out _ (HD.out _ hb9))
  obtain ⟨w9, hw9⟩ : ∃ W, x9.w = W := ⟨_, rfl⟩
  rw [hw9] at b0 b1 b2 c1 c2 c3 c4 c5 z0 z1 z2 z3 hg9 HD9 ⊢
  clear hb9 HB9 hw9 a0 a1 a2 a3 e1 f0 f1 f2 f3 HC HI HM HD HX
  go_region_law (fail)
  all_goals go_wp2_with fail
  all_goals (refine HD9.out.mono ?_; rintro e w5 ⟨⟨v, rfl⟩, hend⟩; have HE := Lib.hid hend; clear hend)
  all_goals go_wp2_with fail
  all_goals go_ret
  all_goals exact ⟨rfl, HE.out⟩

/-- **Put, whole.** -/
theorem putR_any (q often : Nat) (L : List Td) (c : Cl) (w : World) (F : Nat → Prop) (h : RumQ q often L w F) (hh : IsHeap lessT L.length L) (hL : L.length ≤ 100) :
    Calls Try.prog 14 #[.pointer (some ⟨q, 0, none⟩), c.val] w fun e w' => e = .returned (.bool (putOf L c).2) ∧ RPut q often (putOf L c).1 F w w' := by
  by_cases hbad : mayK c = false ∨ nothingK c = true
  · have e : putOf L c = (L, false) := by unfold putOf; rw [if_pos hbad]
    rw [e]
    exact (putR_bad q often L c w F h hbad).mono' fun x => ⟨rfl, rPut_later h hh x⟩
  · have hm : mayK c = true := by cases hm : mayK c <;> simp_all
    have hn : nothingK c = false := by cases hn : nothingK c <;> simp_all
    cases hf : L.findIdx? (fun t => t.c.n == c.n) with
    | none =>
      have e : putOf L c = (L ++ [⟨c, 0⟩], true) := by unfold putOf; rw [if_neg hbad, hf]
      rw [e]
      exact putR_new q often L c w F h hh hL hm hn (by simp [atIx, hf])
    | some k =>
      have hk : k < L.length := (List.findIdx?_eq_some_iff_getElem.1 hf).1
      have hg : L[k]? = some L[k] := List.getElem?_eq_getElem hk
      by_cases hc : 0 ≤ cmpK L[k].c c
      · have e : putOf L c = (L, false) := by unfold putOf; rw [if_neg hbad, hf]; simp only [hg, if_pos hc]
        rw [e]
        exact (putR_low q often L c w F h hL hm hn k _ hg (by simp [atIx, hf]) hc).mono' fun x => ⟨rfl, rPut_later h hh x⟩
      · have e : putOf L c = (L.set k ⟨c, 0⟩, true) := by unfold putOf; rw [if_neg hbad, hf]; simp only [hg, if_neg hc]
        rw [e]
        exact putR_up q often L c w F h hh hL hm hn k _ hg (by simp [atIx, hf]) hc
end Go.Proofs.Ytlcmehighgmoeaa
