/- The landed clock as a heap: Swap. -/
import Derived.Test.YtcmidomgnbodiaaClkHeap
namespace Go.Proofs.Ytcmidomgnbodiaa
open Go Go.RowKit

/-- Element k of a row, exchanged. -/
theorem row_setW {W : World} {g cap : Nat} {cur : Array Value} {T : TypeId} {L : List Mo} {k : Nat} (t : Mo) (hg : W.heap[g]? = some (.cells cur T (0, 0))) (hs : cur.size = cap * 2) (hc : L.length ≤ cap) (hk : k < L.length)
    (ht : cur.toList.take (L.length * 2) = cellsW L) :
    ∃ cur', ((W.setCell ⟨g, k * 2, none⟩ (.int .i64 t.n)).setCell ⟨g, k * 2 + 1, none⟩ (.int .i64 t.t)).heap[g]? = some (.cells cur' T (0, 0)) ∧
      cur'.size = cap * 2 ∧ cur'.toList.take ((L.set k t).length * 2) = cellsW (L.set k t) := by
  have h1 := heap_setCell_same W g (k * 2) _ _ (.int .i64 t.n) hg
  have h2 := heap_setCell_same _ g (k * 2 + 1) _ _ (.int .i64 t.t) h1
  refine ⟨_, h2, by simp [hs], ?_⟩
  apply List.ext_getElem?
  intro j
  rw [List.length_set]
  by_cases hj : j < L.length * 2
  · obtain ⟨q, r, hr, rfl⟩ : ∃ q r, r < 2 ∧ j = q * 2 + r := ⟨j / 2, j % 2, by omega, by omega⟩
    have hq : q < L.length := by omega
    rw [List.getElem?_take_of_lt hj]
    have hold : cur.toList[q * 2 + r]? = (cellsW L)[q * 2 + r]? := by rw [← ht, List.getElem?_take_of_lt hj]
    have hold' : cur[q * 2 + r]? = (cellsW L)[q * 2 + r]? := by simpa using hold
    by_cases e : q = k
    · subst e
      have hset : (L.set q t)[q]? = some t := by simp [hq]
      obtain ⟨a0, a1⟩ := cellsW_at _ q t hset
      rcases (by omega : r = 0 ∨ r = 1) with rfl | rfl
      · simp only [Nat.add_zero]
        rw [a0]
        have hb : q * 2 < cur.size := by omega
        simp [hb]
      · rw [a1]
        have hb : q * 2 + 1 < cur.size := by omega
        simp [hb]
    · have hset : (L.set k t)[q]? = some L[q] := by rw [List.getElem?_set_ne (Ne.symm e)]; exact List.getElem?_eq_getElem hq
      obtain ⟨a0, a1⟩ := cellsW_at _ q _ hset
      obtain ⟨b0, b1⟩ := cellsW_at L q _ (List.getElem?_eq_getElem hq)
      have hne : ∀ j, j < 2 → (k * 2 + j) ≠ q * 2 + r := fun j hj => by omega
      have n0 := hne 0 (by omega)
      have n1 := hne 1 (by omega)
      have hl : (cellsW (L.set k t))[q * 2 + r]? = (cellsW L)[q * 2 + r]? := by
        rcases (by omega : r = 0 ∨ r = 1) with rfl | rfl
        · exact a0.trans b0.symm
        · exact a1.trans b1.symm
      rw [hl, ← hold']
      simp only [Nat.add_zero] at n0
      simp [n0, n1]
  · rw [List.getElem?_eq_none (by simp; omega), List.getElem?_eq_none (by rw [cellsW_len, List.length_set]; omega)]

/-- Two elements of a row, exchanged for others. -/
theorem swapK_done {q : Nat} {L : List Mo} {W : World} {F : Nat → Prop} {g cap i j : Nat} {x y : Mo} (h : ClkQ q L W F) (he : W.cell? ⟨q, 0, none⟩ = some (.slice (some ⟨g, 0, none⟩) L.length cap)) (hi : L[i]? = some x) (hj : L[j]? = some y) :
    KEnd q (swapL L i j) F W ((((W.setCell ⟨g, i * 2, none⟩ (.int .i64 y.n)).setCell ⟨g, i * 2 + 1, none⟩ (.int .i64 y.t)).setCell ⟨g, j * 2, none⟩ (.int .i64 x.n)).setCell ⟨g, j * 2 + 1, none⟩ (.int .i64 x.t)) := by
  obtain ⟨v, hq, hr, hF⟩ := h
  obtain rfl : v = .slice (some ⟨g, 0, none⟩) L.length cap := by simpa [World.cell?, hq] using he
  have hil := (List.getElem?_eq_some_iff.1 hi).1
  have hjl := (List.getElem?_eq_some_iff.1 hj).1
  have hFg : F g := (hF g).2 (.inr rfl)
  have hne : g ≠ q := fun e => clk_apart hq hr (by rw [e]; rfl)
  rcases hr.2 with ⟨h1, _⟩ | ⟨g', cap', cur, hv, _, hgo, hnc, hcm, hcs, htk⟩
  · simp at h1
  obtain ⟨rfl, rfl⟩ : g = g' ∧ cap = cap' := by simpa using hv
  obtain ⟨cur1, hg1, hs1, ht1⟩ := row_setW y hgo hcs hnc hil htk
  have hjl' : j < (L.set i y).length := by simpa using hjl
  obtain ⟨cur2, hg2, hs2, ht2⟩ := row_setW x hg1 hs1 (by rw [List.length_set]; exact hnc) hjl' ht1
  rw [swapL_some hi hj]
  have hlen : ((L.set i y).set j x).length = L.length := by simp
  have hq2 := (Below.heap_setCell (((W.setCell ⟨g, i * 2, none⟩ (.int .i64 y.n)).setCell ⟨g, i * 2 + 1, none⟩ (.int .i64 y.t)).setCell ⟨g, j * 2, none⟩ (.int .i64 x.n)) ⟨g, j * 2 + 1, none⟩ (.int .i64 x.t) q hne.symm).trans ((Below.heap_setCell _ _ _ _ hne.symm).trans ((Below.heap_setCell _ _ _ _ hne.symm).trans ((Below.heap_setCell _ _ _ _ hne.symm).trans hq)))
  have f3 := ((((Fr.refl F W).set g (i * 2) (.int .i64 y.n) (.inl hFg)).set g (i * 2 + 1) (.int .i64 y.t) (.inl hFg)).set g (j * 2) (.int .i64 x.n) (.inl hFg)).set g (j * 2 + 1) (.int .i64 x.t) (.inl hFg)
  refine ⟨F, ⟨.slice (some ⟨g, 0, none⟩) L.length cap, hq2, ⟨?_, .inr ⟨g, cap, cur2, ?_, Nat.zero_le _, hg2, ?_, hcm, hs2, ht2⟩⟩, hF⟩, f3, fun k hk => .inl hk⟩
  · rw [cellsW_len]
  · rw [hlen]
  · rw [hlen]; exact hnc

set_option maxHeartbeats 4000000 in
set_option maxRecDepth 100000 in
theorem swapK_self (q : Nat) (L : List Mo) (p : Option Addr) (cap : Nat) (w : World) (F : Nat → Prop) (h : ClkQ q L w F) (hc : ClkCells w q L p cap) (i : Nat) (x : Mo) (hi : L[i]? = some x) :
    Calls Try.prog 49 #[.slice p L.length cap, .int .i64 i, .int .i64 i] w fun e w' => (∃ v, e = .returned v) ∧ KEnd q (swapL L i i) F w w' := by
  have hil := (List.getElem?_eq_some_iff.1 hi).1
  have he := hc.h1
  rcases hc.row with h0 | ⟨g, rfl, hg, hgq, hfz, hcell⟩
  · rw [h0] at hil; simp at hil
  obtain ⟨a0, a1⟩ := hcell i _ hi
  have f0 := hfz (i * 2)
  have f1 := hfz (i * 2 + 1)
  have HD := Lib.hid (KEnd.drew (@swapK_done q L w F g cap i i x x h he hi hi))
  obtain ⟨m, T⟩ := x
  dsimp only at a0 a1 HD
  obtain ⟨N, hN⟩ : ∃ N : Nat, L.length = N := ⟨_, rfl⟩
  rw [hN] at hil ⊢
  clear hfz hcell hi he hc h hN
  go_enter Try.func49, Try.ntmps49
  go_wp2_with fail
  go_region_law (fail)
  all_goals go_wp2_with fail
  all_goals go_end0
  all_goals exact ⟨⟨_, rfl⟩, HD.out⟩

set_option maxHeartbeats 4000000 in
set_option maxRecDepth 100000 in
theorem swapK_two (q : Nat) (L : List Mo) (p : Option Addr) (cap : Nat) (w : World) (F : Nat → Prop) (h : ClkQ q L w F) (hc : ClkCells w q L p cap) (i j : Nat) (x y : Mo) (hi : L[i]? = some x) (hj : L[j]? = some y) (hij : i ≠ j) :
    Calls Try.prog 49 #[.slice p L.length cap, .int .i64 i, .int .i64 j] w fun e w' => (∃ v, e = .returned v) ∧ KEnd q (swapL L i j) F w w' := by
  have hil := (List.getElem?_eq_some_iff.1 hi).1
  have hjl := (List.getElem?_eq_some_iff.1 hj).1
  have he := hc.h1
  rcases hc.row with h0 | ⟨g, rfl, hg, hgq, hfz, hcell⟩
  · rw [h0] at hil; simp at hil
  obtain ⟨a0, a1⟩ := hcell i _ hi
  obtain ⟨b0, b1⟩ := hcell j _ hj
  have f0 := hfz (i * 2)
  have f1 := hfz (i * 2 + 1)
  have g0 := hfz (j * 2)
  have g1 := hfz (j * 2 + 1)
  have HD := Lib.hid (KEnd.drew (@swapK_done q L w F g cap i j x y h he hi hj))
  obtain ⟨m, T⟩ := x
  obtain ⟨n, U⟩ := y
  dsimp only at a0 a1 b0 b1 HD
  obtain ⟨N, hN⟩ : ∃ N : Nat, L.length = N := ⟨_, rfl⟩
  rw [hN] at hil hjl ⊢
  clear hfz hcell hi hj he hc h hN
  have n0 : ¬ j = i := fun e => hij e.symm
  have n1 : ¬ j * 2 = i * 2 + 1 := by omega
  have m1 : ¬ i * 2 = j * 2 + 1 := by omega
  have k1 : ¬ j * 2 + 1 = i * 2 := by omega
  go_enter Try.func49, Try.ntmps49
  go_wp2_with fail
  go_region_law (fail)
  all_goals go_wp2_with fail
  all_goals go_end0
  all_goals exact ⟨⟨_, rfl⟩, HD.out⟩

theorem swapK_calls (q : Nat) (L : List Mo) (p : Option Addr) (cap : Nat) (w : World) (F : Nat → Prop) (h : ClkQ q L w F) (hc : ClkCells w q L p cap) (i j : Nat) (x y : Mo) (hi : L[i]? = some x) (hj : L[j]? = some y) :
    Calls Try.prog 49 #[.slice p L.length cap, .int .i64 i, .int .i64 j] w fun e w' => (∃ v, e = .returned v) ∧ KEnd q (swapL L i j) F w w' := by
  by_cases hij : i = j
  · subst hij
    exact swapK_self q L p cap w F h hc i x hi
  · exact swapK_two q L p cap w F h hc i j x y hi hj hij
end Go.Proofs.Ytcmidomgnbodiaa
