/- The landed clock: Set, Cut. -/
import Derived.Test.YtcmidomgnbodiaaClkEnds
import Derived.Test.YtcmidomgnbodiaaRefSet
import Derived.Test.YtcmidomgnbodiaaSteps
namespace Go.Proofs.Ytcmidomgnbodiaa
open Go Go.RowKit

def KPut (q : Nat) (Y : List Mo) (F : Nat → Prop) (w w' : World) : Prop := ∃ K', K'.Perm Y ∧ IsHeap lessM K'.length K' ∧ KEnd q K' F w w'
theorem kPut_later {q : Nat} {L : List Mo} {F : Nat → Prop} {w : World} (h : ClkQ q L w F) (hh : IsHeap lessM L.length L) (x : Later w) : KPut q L F w x.w := ⟨L, List.Perm.refl _, hh, (kEnd_refl h).later x⟩

set_option maxHeartbeats 1000000 in
set_option maxRecDepth 100000 in
theorem setK_nil (n t : Int) (w : World) : Gives Try.prog 15 #[.pointer none, .int .i64 n, .int .i64 t] w (.bool false) := by
  unfold Gives
  go_enter Try.func15, Try.ntmps15
  go_wp2_with fail
  go_ret
  exact ⟨rfl, Later.ex (by repeat (first | exact ext_refl _ | refine ext_later ?_ _ | refine ext_alloc ?_ _ | refine ext_drew ?_ | refine ext_drewN ?_ _))⟩

set_option maxHeartbeats 1000000 in
set_option maxRecDepth 100000 in
theorem cutK_nil (n : Int) (w : World) : Gives Try.prog 10 #[.pointer none, .int .i64 n] w (.bool false) := by
  unfold Gives
  go_enter Try.func10, Try.ntmps10
  go_wp2_with fail
  go_ret
  exact ⟨rfl, Later.ex (by repeat (first | exact ext_refl _ | refine ext_later ?_ _ | refine ext_alloc ?_ _ | refine ext_drew ?_ | refine ext_drewN ?_ _))⟩

set_option maxHeartbeats 1000000 in
set_option maxRecDepth 100000 in
theorem dueK_nil (n : Int) (w : World) : Gives Try.prog 13 #[.pointer none, .int .i64 n] w (.slice none 0 0) := by
  unfold Gives
  go_enter Try.func13, Try.ntmps13
  go_wp2_with fail
  go_ret
  exact ⟨rfl, Later.ex (by repeat (first | exact ext_refl _ | refine ext_later ?_ _ | refine ext_alloc ?_ _ | refine ext_drew ?_ | refine ext_drewN ?_ _))⟩

set_option maxHeartbeats 1000000 in
set_option maxRecDepth 100000 in
theorem setK_bad (q : Nat) (n t : Int) (w : World) (hm : okM ⟨n, t⟩ = false) : Gives Try.prog 15 #[.pointer (some ⟨q, 0, none⟩), .int .i64 n, .int .i64 t] w (.bool false) := by
  unfold Gives
  simp only [okM, decide_eq_false_iff_not] at hm
  have HM := Lib.hid hm
  clear hm
  by_cases h1 : n < 0
  · have g1 : decide (n < 0) = true := decide_eq_true h1
    clear HM
    go_enter Try.func15, Try.ntmps15
    go_wp2_with fail
    go_ret
    exact ⟨rfl, Later.ex (by repeat (first | exact ext_refl _ | refine ext_later ?_ _ | refine ext_alloc ?_ _ | refine ext_drew ?_ | refine ext_drewN ?_ _))⟩
  by_cases h2 : 999 < n
  · have g1 : decide (n < 0) = false := decide_eq_false h1
    have g2 : decide (999 < n) = true := decide_eq_true h2
    clear HM
    go_enter Try.func15, Try.ntmps15
    go_wp2_with fail
    go_ret
    exact ⟨rfl, Later.ex (by repeat (first | exact ext_refl _ | refine ext_later ?_ _ | refine ext_alloc ?_ _ | refine ext_drew ?_ | refine ext_drewN ?_ _))⟩
  by_cases h3 : t < 0
  · have g1 : decide (n < 0) = false := decide_eq_false h1
    have g2 : decide (999 < n) = false := decide_eq_false h2
    have g3 : decide (t < 0) = true := decide_eq_true h3
    clear HM
    go_enter Try.func15, Try.ntmps15
    go_wp2_with fail
    go_ret
    exact ⟨rfl, Later.ex (by repeat (first | exact ext_refl _ | refine ext_later ?_ _ | refine ext_alloc ?_ _ | refine ext_drew ?_ | refine ext_drewN ?_ _))⟩
  · have h4 : 1099511627776 < t := by have := HM.out; omega
    have g1 : decide (n < 0) = false := decide_eq_false h1
    have g2 : decide (999 < n) = false := decide_eq_false h2
    have g3 : decide (t < 0) = false := decide_eq_false h3
    have g4 : decide (1099511627776 < t) = true := decide_eq_true h4
    clear HM
    go_enter Try.func15, Try.ntmps15
    go_wp2_with fail
    go_ret
    exact ⟨rfl, Later.ex (by repeat (first | exact ext_refl _ | refine ext_later ?_ _ | refine ext_alloc ?_ _ | refine ext_drew ?_ | refine ext_drewN ?_ _))⟩

theorem okM_parts {n t : Int} (h : okM ⟨n, t⟩ = true) : (decide (n < 0) = false ∧ decide (999 < n) = false) ∧ decide (t < 0) = false ∧ decide (1099511627776 < t) = false := by
  simp only [okM, decide_eq_true_eq] at h
  refine ⟨⟨decide_eq_false ?_, decide_eq_false ?_⟩, decide_eq_false ?_, decide_eq_false ?_⟩ <;> omega

def KSet (q : Nat) (Y : List Mo) (F : Nat → Prop) (w : World) (e : Ending) (w' : World) : Prop := e = .returned (.bool true) ∧ KPut q Y F w w'

set_option maxHeartbeats 4000000 in
set_option maxRecDepth 100000 in
theorem setK_new (q : Nat) (L : List Mo) (n t : Int) (w : World) (F : Nat → Prop) (h : ClkQ q L w F) (hh : IsHeap lessM L.length L) (hL : L.length ≤ 1000) (hm : okM ⟨n, t⟩ = true) (ha : ixM L n = -1) :
    Calls Try.prog 15 #[.pointer (some ⟨q, 0, none⟩), .int .i64 n, .int .i64 t] w (KSet q (L ++ [⟨n, t⟩]) F w) := by
  obtain ⟨⟨g1, g2⟩, g3, g4⟩ := okM_parts hm
  obtain ⟨p, cap, hc⟩ := h.cells
  have HI : Hid (∀ x : Later w, Gives Try.prog 21 #[.slice p L.length cap, .int .i64 n] x.w (.int .i64 (-1))) := Lib.hid (fun x => (indexOfK_any q L n p cap x.w (hc.later x.below) (by omega)).cast (by rw [ha]))
  have HP : Hid (∀ x : Later w, Calls Try.prog 25 #[.iface 53 (.pointer (some ⟨q, 0, none⟩)), .iface 55 (.agg #[.int .i64 n, .int .i64 t])] x.w fun e w' => (∃ v, e = .returned v) ∧ Hid (KPut q (L ++ [⟨n, t⟩]) F w w')) := Lib.hid fun x => by
    have hr : KAt q F w L x.w := ⟨(kEnd_refl h).later x, by omega⟩
    exact (heapPush_any lessM_ordered (kheap q F w) (kends q F w) L ⟨n, t⟩ x.w hr hh (by omega)).mono fun e w' ⟨hv, xs', h1, h2, h3⟩ => ⟨hv, Lib.hid ⟨xs', h2, h3, h1.1⟩⟩
  have hlt := hc.lt
  have e1 := hc.h1
  clear hm ha h hh hc
  go_enter Try.func15, Try.ntmps15
  go_wp2_with fail
  refine Gives.on (HI.out ⟨_, by repeat (first | exact ext_refl _ | refine ext_later ?_ _ | refine ext_alloc ?_ _ | refine ext_drew ?_ | refine ext_drewN ?_ _)⟩) ?_
  intro x
  go_wp2_with fail
  refine (HP.out ⟨_, by repeat (first | exact ext_refl _ | refine ext_later ?_ _ | refine ext_alloc ?_ _ | refine ext_drew ?_ | refine ext_drewN ?_ _)⟩).mono ?_
  rintro e w4 ⟨⟨v, rfl⟩, HE⟩
  go_wp2_with fail
  go_ret
  exact ⟨rfl, HE.out⟩

/-- The moment of element k alone, exchanged. -/
theorem row_timeW {W : World} {g cap : Nat} {cur : Array Value} {T : TypeId} {L : List Mo} {k : Nat} (m : Mo) (t : Int) (hg : W.heap[g]? = some (.cells cur T (0, 0))) (hs : cur.size = cap * 2) (hc : L.length ≤ cap) (hk : L[k]? = some m)
    (ht : cur.toList.take (L.length * 2) = cellsW L) :
    ∃ cur', (W.setCell ⟨g, k * 2 + 1, none⟩ (.int .i64 t)).heap[g]? = some (.cells cur' T (0, 0)) ∧
      cur'.size = cap * 2 ∧ cur'.toList.take ((L.set k ⟨m.n, t⟩).length * 2) = cellsW (L.set k ⟨m.n, t⟩) := by
  have h1 := heap_setCell_same W g (k * 2 + 1) _ _ (.int .i64 t) hg
  have hkl := (List.getElem?_eq_some_iff.1 hk).1
  refine ⟨_, h1, by simp [hs], ?_⟩
  apply List.ext_getElem?
  intro j
  rw [List.length_set]
  by_cases hj : j < L.length * 2
  · obtain ⟨q, r, hr, rfl⟩ : ∃ q r, r < 2 ∧ j = q * 2 + r := ⟨j / 2, j % 2, by omega, by omega⟩
    have hq : q < L.length := by omega
    rw [List.getElem?_take_of_lt hj]
    have hold : cur.toList[q * 2 + r]? = (cellsW L)[q * 2 + r]? := by rw [← ht, List.getElem?_take_of_lt hj]
    have hold' : cur[q * 2 + r]? = (cellsW L)[q * 2 + r]? := by simpa using hold
    by_cases e : q = k
    · subst e
      have hset : (L.set q ⟨m.n, t⟩)[q]? = some ⟨m.n, t⟩ := by simp [hq]
      obtain ⟨a0, a1⟩ := cellsW_at _ q _ hset
      obtain ⟨b0, _⟩ := cellsW_at L q _ hk
      rcases (by omega : r = 0 ∨ r = 1) with rfl | rfl
      · simp only [Nat.add_zero] at hold' ⊢
        rw [a0]
        rw [b0] at hold'
        have hne : q * 2 + 1 ≠ q * 2 := by omega
        simp [hold']
      · rw [a1]
        have hb : q * 2 + 1 < cur.size := by omega
        simp [hb]
    · have hset : (L.set k ⟨m.n, t⟩)[q]? = some L[q] := by rw [List.getElem?_set_ne (Ne.symm e)]; exact List.getElem?_eq_getElem hq
      obtain ⟨a0, a1⟩ := cellsW_at _ q _ hset
      obtain ⟨b0, b1⟩ := cellsW_at L q _ (List.getElem?_eq_getElem hq)
      have n1 : k * 2 + 1 ≠ q * 2 + r := by omega
      have hl : (cellsW (L.set k ⟨m.n, t⟩))[q * 2 + r]? = (cellsW L)[q * 2 + r]? := by
        rcases (by omega : r = 0 ∨ r = 1) with rfl | rfl
        · exact a0.trans b0.symm
        · exact a1.trans b1.symm
      rw [hl, ← hold']
      simp [n1]
  · rw [List.getElem?_eq_none (by simp; omega), List.getElem?_eq_none (by rw [cellsW_len, List.length_set]; omega)]

theorem setK_done (q : Nat) (L : List Mo) (m : Mo) (t : Int) {w w9 : World} {F : Nat → Prop} {g cap k : Nat} (h : ClkQ q L w F) (he : w.cell? ⟨q, 0, none⟩ = some (.slice (some ⟨g, 0, none⟩) L.length cap)) (hk : L[k]? = some m) (hb : Below w.heap.size w w9) :
    KEnd q (L.set k ⟨m.n, t⟩) F w (w9.setCell ⟨g, k * 2 + 1, none⟩ (.int .i64 t)) := by
  obtain ⟨v, hq, hr, hF⟩ := h
  obtain rfl : v = .slice (some ⟨g, 0, none⟩) L.length cap := by simpa [World.cell?, hq] using he
  have hlt := (Array.getElem?_eq_some_iff.1 hq).1
  have hFg : F g := (hF g).2 (.inr rfl)
  have hg := (hr.lt g rfl).2
  have hne : g ≠ q := fun e => clk_apart hq hr (by rw [e]; rfl)
  rcases hr.2 with ⟨h1, _⟩ | ⟨g', cap', cur, hv, _, h1, hnc, hcm, hcs, htk⟩
  · simp at h1
  obtain ⟨rfl, rfl⟩ : g = g' ∧ cap = cap' := by simpa using hv
  have h9 : w9.heap[g]? = _ := (hb.block g hg).trans h1
  obtain ⟨cur', hg9, hs9, ht9⟩ := row_timeW m t h9 hcs hnc hk htk
  refine ⟨F, ⟨.slice (some ⟨g, 0, none⟩) L.length cap, ?_, ⟨?_, .inr ⟨g, cap, cur', ?_, Nat.zero_le _, hg9, ?_, hcm, hs9, ht9⟩⟩, hF⟩, ?_, fun k hk => .inl hk⟩
  · exact (Below.heap_setCell _ _ _ _ hne.symm).trans ((hb.block q hlt).trans hq)
  · rw [cellsW_len]
  · rw [List.length_set]
  · rw [List.length_set]; exact hnc
  · exact (Fr.of_below hb).set g _ _ (.inl hFg)

set_option maxHeartbeats 4000000 in
set_option maxRecDepth 100000 in
theorem setK_again (q : Nat) (L : List Mo) (n t : Int) (w : World) (F : Nat → Prop) (h : ClkQ q L w F) (hh : IsHeap lessM L.length L) (hL : L.length ≤ 1000) (hm : okM ⟨n, t⟩ = true) (k : Nat) (m : Mo) (hk : L[k]? = some m) (hmn : m.n = n) (ha : ixM L n = k) :
    Calls Try.prog 15 #[.pointer (some ⟨q, 0, none⟩), .int .i64 n, .int .i64 t] w (KSet q (L.set k ⟨n, t⟩) F w) := by
  obtain ⟨⟨g1, g2⟩, g3, g4⟩ := okM_parts hm
  obtain ⟨p, cap, hc⟩ := h.cells
  have HI : Hid (∀ x : Later w, Gives Try.prog 21 #[.slice p L.length cap, .int .i64 n] x.w (.int .i64 k)) := Lib.hid (fun x => (indexOfK_any q L n p cap x.w (hc.later x.below) (by omega)).cast (by rw [ha]))
  have hlt := hc.lt
  have e1 := hc.h1
  have hkl : k < L.length := (List.getElem?_eq_some_iff.1 hk).1
  rcases hc.row with h0 | ⟨g, rfl, hg, hgq, hfz, hcell⟩
  · rw [h0] at hkl; simp at hkl
  obtain ⟨a0, a1⟩ := hcell k _ hk
  have f1 := hfz (k * 2 + 1)
  have HD : Hid (∀ w9, Below w.heap.size w w9 → KEnd q (L.set k ⟨n, t⟩) F w (w9.setCell ⟨g, k * 2 + 1, none⟩ (.int .i64 t))) := Lib.hid fun w9 hb => by
    have := setK_done q L m t h e1 hk hb
    rw [hmn] at this
    exact this
  have HX : Hid (∀ W, KEnd q (L.set k ⟨n, t⟩) F w W → Calls Try.prog 26 #[.iface 53 (.pointer (some ⟨q, 0, none⟩)), .int .i64 k] W fun e w' => (∃ v, e = .returned v) ∧ Hid (KPut q (L.set k ⟨n, t⟩) F w w')) := Lib.hid fun W hr => by
    have hl : (L.set k ⟨n, t⟩).length = L.length := by simp
    exact (heapFix_any lessM_ordered (kheap q F w) (L.set k ⟨n, t⟩) k W ⟨hr, by omega⟩ (fixPre_set lessM_ordered _ (by rw [hl]; exact hh) (by omega) (by omega)) (by omega)).mono fun e w' ⟨hv, xs', h1, h2, h3⟩ => ⟨hv, Lib.hid ⟨xs', h2, h3, h1.1⟩⟩
  obtain ⟨N, hN⟩ : ∃ N : Nat, L.length = N := ⟨_, rfl⟩
  rw [hN] at e1 hkl HI
  clear hm ha hcell hk hc h hh hfz hmn hN
  go_enter Try.func15, Try.ntmps15
  go_wp2_with fail
  refine Gives.on (HI.out ⟨_, by repeat (first | exact ext_refl _ | refine ext_later ?_ _ | refine ext_alloc ?_ _ | refine ext_drew ?_ | refine ext_drewN ?_ _)⟩) ?_
  intro x
  have c1 : x.w.cell? ⟨q, 0, none⟩ = _ := (x.below.cell (p := ⟨q, _, none⟩) hlt).trans e1
  have c2 : x.w.cell? ⟨g, k * 2 + 1, none⟩ = _ := (x.below.cell (p := ⟨g, _, none⟩) hg).trans a1
  have c3 : x.w.frozen? ⟨g, k * 2 + 1, none⟩ = _ := (x.below.frozen (p := ⟨g, _, none⟩) hg).trans f1
  have HK := Lib.hid (HD.out x.w x.below)
  clear HD
  go_wp2_with fail
  refine (HX.out _ HK.out).mono ?_
  rintro e w4 ⟨⟨v, rfl⟩, HE⟩
  go_wp2_with fail
  go_ret
  exact ⟨rfl, HE.out⟩

def KCut (q : Nat) (L : List Mo) (m : Mo) (F : Nat → Prop) (w : World) (e : Ending) (w' : World) : Prop := e = .returned (.bool true) ∧ ∃ K', (m :: K').Perm L ∧ IsHeap lessM K'.length K' ∧ KEnd q K' F w w'

set_option maxHeartbeats 4000000 in
set_option maxRecDepth 100000 in
theorem cutK_none (q : Nat) (L : List Mo) (n : Int) (w : World) (F : Nat → Prop) (h : ClkQ q L w F) (hL : L.length ≤ 1000) (ha : ixM L n = -1) :
    Gives Try.prog 10 #[.pointer (some ⟨q, 0, none⟩), .int .i64 n] w (.bool false) := by
  unfold Gives
  obtain ⟨p, cap, hc⟩ := h.cells
  have HI : Hid (∀ x : Later w, Gives Try.prog 21 #[.slice p L.length cap, .int .i64 n] x.w (.int .i64 (-1))) := Lib.hid (fun x => (indexOfK_any q L n p cap x.w (hc.later x.below) (by omega)).cast (by rw [ha]))
  have hlt := hc.lt
  have e1 := hc.h1
  clear ha h hc
  go_enter Try.func10, Try.ntmps10
  go_wp2_with fail
  refine Gives.on (HI.out ⟨_, by repeat (first | exact ext_refl _ | refine ext_later ?_ _ | refine ext_alloc ?_ _ | refine ext_drew ?_ | refine ext_drewN ?_ _)⟩) ?_
  intro x
  go_wp2_with fail
  go_ret
  exact ⟨rfl, Later.ex (by repeat (first | exact ext_refl _ | refine ext_later ?_ _ | refine ext_alloc ?_ _ | refine ext_drew ?_ | refine ext_drewN ?_ _))⟩

set_option maxHeartbeats 4000000 in
set_option maxRecDepth 100000 in
theorem cutK_one (q : Nat) (L : List Mo) (n : Int) (w : World) (F : Nat → Prop) (h : ClkQ q L w F) (hh : IsHeap lessM L.length L) (hL : L.length ≤ 1000) (k : Nat) (m : Mo) (hk : L[k]? = some m) (ha : ixM L n = k) :
    Calls Try.prog 10 #[.pointer (some ⟨q, 0, none⟩), .int .i64 n] w (KCut q L m F w) := by
  obtain ⟨p, cap, hc⟩ := h.cells
  have HI : Hid (∀ x : Later w, Gives Try.prog 21 #[.slice p L.length cap, .int .i64 n] x.w (.int .i64 k)) := Lib.hid (fun x => (indexOfK_any q L n p cap x.w (hc.later x.below) (by omega)).cast (by rw [ha]))
  have HX : Hid (∀ x : Later w, Calls Try.prog 22 #[.iface 53 (.pointer (some ⟨q, 0, none⟩)), .int .i64 k] x.w fun e w' => (∃ v, e = .returned v) ∧ Hid (∃ K', (m :: K').Perm L ∧ IsHeap lessM K'.length K' ∧ KEnd q K' F w w')) := Lib.hid fun x =>
    (heapRemove_any lessM_ordered (kheap q F w) (kends q F w) L k m x.w ⟨(kEnd_refl h).later x, by omega⟩ hh hk).mono fun e w' ⟨he, xs', h1, h2, h3⟩ => ⟨⟨_, he⟩, Lib.hid ⟨xs', h2, h3, h1.1⟩⟩
  have hlt := hc.lt
  have e1 := hc.h1
  clear hk ha hc h hh
  go_enter Try.func10, Try.ntmps10
  go_wp2_with fail
  refine Gives.on (HI.out ⟨_, by repeat (first | exact ext_refl _ | refine ext_later ?_ _ | refine ext_alloc ?_ _ | refine ext_drew ?_ | refine ext_drewN ?_ _)⟩) ?_
  intro x
  go_wp2_with fail
  refine (HX.out _).mono ?_
  rintro e w4 ⟨⟨v, rfl⟩, HE⟩
  go_wp2_with fail
  go_ret
  exact ⟨rfl, HE.out⟩
end Go.Proofs.Ytcmidomgnbodiaa
