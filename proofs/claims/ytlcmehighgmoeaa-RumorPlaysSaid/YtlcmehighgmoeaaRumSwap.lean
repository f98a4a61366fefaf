/- The landed queue as a heap: Swap, Push, Pop. -/
import Derived.Test.YtlcmehighgmoeaaRumHeap
namespace Go.Proofs.Ytlcmehighgmoeaa
open Go Go.RowKit

/-- Two elements of a row, exchanged for others. -/
theorem swap_done {q often : Nat} {L : List Td} {W : World} {F : Nat → Prop} {g cap i j : Nat} {x y : Td} (h : RumQ q often L W F) (he : W.cell? ⟨q, 1, none⟩ = some (.slice (some ⟨g, 0, none⟩) L.length cap)) (hi : L[i]? = some x) (hj : L[j]? = some y) :
    REnd q often (swapL L i j) F W ((((((((W.setCell ⟨g, i * 4, none⟩ (.int .i64 y.c.n)).setCell ⟨g, i * 4 + 1, none⟩ (.int .i64 y.c.i)).setCell ⟨g, i * 4 + 2, none⟩ (.int .i64 y.c.h)).setCell ⟨g, i * 4 + 3, none⟩ (.int .i64 y.n)).setCell ⟨g, j * 4, none⟩ (.int .i64 x.c.n)).setCell ⟨g, j * 4 + 1, none⟩ (.int .i64 x.c.i)).setCell ⟨g, j * 4 + 2, none⟩ (.int .i64 x.c.h)).setCell ⟨g, j * 4 + 3, none⟩ (.int .i64 x.n)) := by
  obtain ⟨v, hq, hr, hF⟩ := h
  obtain rfl : v = .slice (some ⟨g, 0, none⟩) L.length cap := by simpa [World.cell?, hq] using he
  have hil := (List.getElem?_eq_some_iff.1 hi).1
  have hjl := (List.getElem?_eq_some_iff.1 hj).1
  have hlt := (Array.getElem?_eq_some_iff.1 hq).1
  have hFg : F g := (hF g).2 (.inr rfl)
  have hg := (hr.lt g rfl).2
  have hne : g ≠ q := by
    rintro rfl
    rcases hr.2 with ⟨h1, _⟩ | ⟨g', cap', cur, hv, _, h1, _⟩
    · simp at h1
    · obtain ⟨rfl, _⟩ : g = g' ∧ cap = cap' := by simpa using hv
      rw [hq] at h1
      simp at h1
  rcases hr.2 with ⟨h1, _⟩ | ⟨g', cap', cur, hv, _, hgo, hnc, hcm, hcs, htk⟩
  · simp at h1
  obtain ⟨rfl, rfl⟩ : g = g' ∧ cap = cap' := by simpa using hv
  obtain ⟨cur1, hg1, hs1, ht1⟩ := row_set y hgo hcs hnc hil htk
  have hjl' : j < (L.set i y).length := by simpa using hjl
  obtain ⟨cur2, hg2, hs2, ht2⟩ := row_set x hg1 hs1 (by rw [List.length_set]; exact hnc) hjl' ht1
  rw [swapL_some hi hj]
  have hlen : ((L.set i y).set j x).length = L.length := by simp
  have hq2 := (Below.heap_setCell ((((((((W.setCell ⟨g, i * 4, none⟩ (.int .i64 y.c.n)).setCell ⟨g, i * 4 + 1, none⟩ (.int .i64 y.c.i)).setCell ⟨g, i * 4 + 2, none⟩ (.int .i64 y.c.h)).setCell ⟨g, i * 4 + 3, none⟩ (.int .i64 y.n)).setCell ⟨g, j * 4, none⟩ (.int .i64 x.c.n)).setCell ⟨g, j * 4 + 1, none⟩ (.int .i64 x.c.i)).setCell ⟨g, j * 4 + 2, none⟩ (.int .i64 x.c.h))) ⟨g, j * 4 + 3, none⟩ (.int .i64 x.n) q hne.symm).trans ((Below.heap_setCell _ _ _ _ hne.symm).trans ((Below.heap_setCell _ _ _ _ hne.symm).trans ((Below.heap_setCell _ _ _ _ hne.symm).trans ((Below.heap_setCell _ _ _ _ hne.symm).trans ((Below.heap_setCell _ _ _ _ hne.symm).trans ((Below.heap_setCell _ _ _ _ hne.symm).trans ((Below.heap_setCell _ _ _ _ hne.symm).trans hq)))))))
  have f3 := ((((((((Fr.refl F W).set g (i * 4) (.int .i64 y.c.n) (.inl hFg)).set g (i * 4 + 1) (.int .i64 y.c.i) (.inl hFg)).set g (i * 4 + 2) (.int .i64 y.c.h) (.inl hFg)).set g (i * 4 + 3) (.int .i64 y.n) (.inl hFg)).set g (j * 4) (.int .i64 x.c.n) (.inl hFg)).set g (j * 4 + 1) (.int .i64 x.c.i) (.inl hFg)).set g (j * 4 + 2) (.int .i64 x.c.h) (.inl hFg)).set g (j * 4 + 3) (.int .i64 x.n) (.inl hFg)
  refine ⟨F, ⟨.slice (some ⟨g, 0, none⟩) L.length cap, hq2, ⟨?_, .inr ⟨g, cap, cur2, ?_, Nat.zero_le _, hg2, ?_, hcm, hs2, ht2⟩⟩, hF⟩, f3, fun k hk => .inl hk⟩
  · rw [cellsT_len]
  · rw [hlen]
  · rw [hlen]; exact hnc

theorem REnd.drew {q often : Nat} {L : List Td} {F : Nat → Prop} {W W1 : World} (h : REnd q often L F W W1) : REnd q often L F W W1.drew := h.later ⟨W1.drew, ext_drew (ext_refl W1)⟩

set_option maxHeartbeats 4000000 in
set_option maxRecDepth 100000 in
theorem swap_self (q often : Nat) (L : List Td) (p : Option Addr) (cap : Nat) (w : World) (F : Nat → Prop) (h : RumQ q often L w F) (hc : RumCells w q often L p cap) (i : Nat) (x : Td) (hi : L[i]? = some x) :
    Calls Try.prog 60 #[.slice p L.length cap, .int .i64 i, .int .i64 i] w fun e w' => (∃ v, e = .returned v) ∧ REnd q often (swapL L i i) F w w' := by
  have hil := (List.getElem?_eq_some_iff.1 hi).1
  have he := hc.h1
  rcases hc.row with h0 | ⟨g, rfl, hg, hgq, hfz, hcell⟩
  · rw [h0] at hil; simp at hil
  obtain ⟨a0, a1, a2, a3⟩ := hcell i _ hi
  have f0 := hfz (i * 4)
  have f1 := hfz (i * 4 + 1)
  have f2 := hfz (i * 4 + 2)
  have f3 := hfz (i * 4 + 3)
  have HD := Lib.hid (REnd.drew (@swap_done q often L w F g cap i i x x h he hi hi))
  obtain ⟨⟨m, xi, xs⟩, t⟩ := x
  dsimp only at a0 a1 a2 a3 HD
  obtain ⟨T, hT⟩ : ∃ T : Int, (t : Int) = T := ⟨_, rfl⟩
  rw [hT] at a3 HD
  obtain ⟨N, hN⟩ : ∃ N : Nat, L.length = N := ⟨_, rfl⟩
  rw [hN] at hil ⊢
  clear hfz hcell hi he hc h hT hN
  go_enter Try.func60, Try.ntmps60
  go_wp2_with fail
  go_region_law (fail)
  all_goals go_wp2_with fail
  all_goals go_end0
  all_goals exact ⟨⟨_, rfl⟩, HD.out⟩

set_option maxHeartbeats 4000000 in
set_option maxRecDepth 100000 in
theorem swap_two (q often : Nat) (L : List Td) (p : Option Addr) (cap : Nat) (w : World) (F : Nat → Prop) (h : RumQ q often L w F) (hc : RumCells w q often L p cap) (i j : Nat) (x y : Td) (hi : L[i]? = some x) (hj : L[j]? = some y) (hij : i ≠ j) :
    Calls Try.prog 60 #[.slice p L.length cap, .int .i64 i, .int .i64 j] w fun e w' => (∃ v, e = .returned v) ∧ REnd q often (swapL L i j) F w w' := by
  have hil := (List.getElem?_eq_some_iff.1 hi).1
  have hjl := (List.getElem?_eq_some_iff.1 hj).1
  have he := hc.h1
  rcases hc.row with h0 | ⟨g, rfl, hg, hgq, hfz, hcell⟩
  · rw [h0] at hil; simp at hil
  obtain ⟨a0, a1, a2, a3⟩ := hcell i _ hi
  obtain ⟨b0, b1, b2, b3⟩ := hcell j _ hj
  have f0 := hfz (i * 4)
  have f1 := hfz (i * 4 + 1)
  have f2 := hfz (i * 4 + 2)
  have f3 := hfz (i * 4 + 3)
  have g0 := hfz (j * 4)
  have g1 := hfz (j * 4 + 1)
  have g2 := hfz (j * 4 + 2)
  have g3 := hfz (j * 4 + 3)
  have HD := Lib.hid (REnd.drew (@swap_done q often L w F g cap i j x y h he hi hj))
  obtain ⟨⟨m, xi, xs⟩, t⟩ := x
  obtain ⟨⟨n, yi, ys⟩, u⟩ := y
  dsimp only at a0 a1 a2 a3 b0 b1 b2 b3 HD
  obtain ⟨T, hT⟩ : ∃ T : Int, (t : Int) = T := ⟨_, rfl⟩
  obtain ⟨U, hU⟩ : ∃ T : Int, (u : Int) = T := ⟨_, rfl⟩
  rw [hT] at a3 HD
  rw [hU] at b3 HD
  obtain ⟨N, hN⟩ : ∃ N : Nat, L.length = N := ⟨_, rfl⟩
  rw [hN] at hil hjl ⊢
  clear hfz hcell hi hj he hc h hT hU hN
  have n0 : ¬ j = i := fun e => hij e.symm
  have n1 : ¬ j * 4 = i * 4 + 1 := by omega
  have n2 : ¬ j * 4 = i * 4 + 2 := by omega
  have n3 : ¬ j * 4 = i * 4 + 3 := by omega
  have m1 : ¬ i * 4 = j * 4 + 1 := by omega
  have m2 : ¬ i * 4 = j * 4 + 2 := by omega
  have m3 : ¬ i * 4 = j * 4 + 3 := by omega
  have k1 : ¬ j * 4 + 1 = i * 4 := by omega
  have k2 : ¬ j * 4 + 2 = i * 4 := by omega
  have k3 : ¬ j * 4 + 3 = i * 4 := by omega
  go_enter Try.func60, Try.ntmps60
  go_wp2_with fail
  go_region_law (fail)
  all_goals go_wp2_with fail
  all_goals go_end0
  all_goals exact ⟨⟨_, rfl⟩, HD.out⟩

theorem swap_calls (q often : Nat) (L : List Td) (p : Option Addr) (cap : Nat) (w : World) (F : Nat → Prop) (h : RumQ q often L w F) (hc : RumCells w q often L p cap) (i j : Nat) (x y : Td) (hi : L[i]? = some x) (hj : L[j]? = some y) :
    Calls Try.prog 60 #[.slice p L.length cap, .int .i64 i, .int .i64 j] w fun e w' => (∃ v, e = .returned v) ∧ REnd q often (swapL L i j) F w w' := by
  by_cases hij : i = j
  · subst hij
    exact swap_self q often L p cap w F h hc i x hi
  · exact swap_two q often L p cap w F h hc i j x y hi hj hij
end Go.Proofs.Ytlcmehighgmoeaa
