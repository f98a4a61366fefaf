/- The landed clock as a heap: Push, Pop; all that container/heap asks. -/
import Derived.Test.YtcmidomgnbodiaaClkSwap
import Derived.Deep.Cut
import Derived.Laws.OwnMore
namespace Go.Proofs.Ytcmidomgnbodiaa
open Go Go.RowKit

@[simp, go_sem] theorem run_assert_moment (v : Value) (w : World) : (Instr.typeAssert (.iface 55 v) 20 55 false).run Try.prog w = .ok v w := by
  simp [Instr.typeAssert, go_sem]

/-- A row of another block stays when a cell is set. -/
theorem ownsRow_setW {W : World} {T : TypeId} {g cap m q o : Nat} {xs : List Value} (h : W.ownsRow 0 T 2 (.slice (some ⟨g, 0, none⟩) m cap) m xs) (hne : g ≠ q) (u : Value) : (W.setCell ⟨q, o, none⟩ u).ownsRow 0 T 2 (.slice (some ⟨g, 0, none⟩) m cap) m xs :=
  row_keepsE h fun g' hg' => Below.heap_setCell _ _ _ _ (by simp [Value.ownBlock] at hg'; subst hg'; exact hne)
theorem cell_two_new (W : World) (x y : Value) (t : TypeId) (j : Nat) (v : Value) (h : [x, y][j]? = some v) : (W.alloc (.cells #[x, y] t)).cell? ((⟨W.heap.size, 0, none⟩ : Addr).add j) = some v := by
  have hb := heap_alloc_new W (.cells #[x, y] t)
  rw [addr_off, Nat.zero_add]
  simp only [World.cell?, hb]
  simpa using h

theorem pushK_done (q : Nat) (L : List Mo) (t : Mo) {w w3 w4 : World} {F : Nat → Prop} {v : Value} {g cap : Nat} {ob : Obj} (hlt : q < w.heap.size) (hF : ∀ k, F k ↔ k = q ∨ v.ownBlock = some k) (hvq : some q ≠ v.ownBlock) (hb : Below w.heap.size w w3)
    (ho : w4.ownsRow 0 55 2 (.slice (some ⟨g, 0, none⟩) (L.length + 1) cap) (L.length + 1) (cellsW L ++ [.int .i64 t.n, .int .i64 t.t])) (hg : (w3.alloc ob).drew.grownBy w4 v.ownBlock)
    (hw : ∀ j, (Value.slice (some ⟨g, 0, none⟩) (L.length + 1) cap).ownBlock = some j → v.ownBlock = some j ∨ (w3.alloc ob).drew.heap.size ≤ j) (hd : w4.heap[q]? = some (.cells #[v] 50 (0, 0))) :
    KEnd q (L ++ [t]) F w (w4.setCell ⟨q, 0, none⟩ (.slice (some ⟨g, 0, none⟩) (L.length + 1) cap)) := by
  have hs := hb.size
  have hgw : v.ownBlock = some g ∨ w.heap.size ≤ g := by
    rcases hw g rfl with h | h
    · exact .inl h
    · have : w3.heap.size ≤ (w3.alloc ob).drew.heap.size := by simp
      exact .inr (by omega)
  have hne : g ≠ q := by
    rintro rfl
    rcases hgw with h | h
    · exact hvq h.symm
    · omega
  have f0 : Fr F w (w3.alloc ob).drew := ((Fr.of_below hb).alloc ob).drew
  have f1 : Fr F w w4 := f0.trans (G := F) (Fr.of_grownBy hg fun j hj => .inl ((hF j).2 (.inr hj))) fun _ h => .inl h
  refine ⟨fun j => j = q ∨ j = g, ⟨.slice (some ⟨g, 0, none⟩) (L.length + 1) cap, ?_, ?_, ?_⟩, f1.set q 0 _ (.inl ((hF q).2 (.inl rfl))), ?_⟩
  · rw [heap_setCell_same _ _ _ _ _ _ hd]; rfl
  · rw [List.length_append, cellsW_snoc]
    exact ownsRow_setW ho hne _
  · intro k
    simp [Value.ownBlock, eq_comm]
  · rintro k (rfl | rfl)
    · exact .inl ((hF k).2 (.inl rfl))
    · rcases hgw with h | h
      · exact .inl ((hF k).2 (.inr h))
      · exact .inr h

theorem ownsRow_succW {W : World} {T : TypeId} {v : Value} {m : Nat} {xs : List Value} (h : W.ownsRow 0 T 2 v (m + 1) xs) : ∃ g cap, v = .slice (some ⟨g, 0, none⟩) (m + 1) cap := by
  rcases h.2 with ⟨_, h1⟩ | ⟨g, cap, cur, rfl, _⟩
  · simp at h1
  · exact ⟨g, cap, rfl⟩

set_option maxHeartbeats 4000000 in
set_option maxRecDepth 100000 in
theorem pushK_calls (q : Nat) (L : List Mo) (w : World) (F : Nat → Prop) (h : ClkQ q L w F) (t : Mo) (hL : L.length ≤ 2000) :
    Calls Try.prog 51 #[.pointer (some ⟨q, 0, none⟩), encW t] w fun e w' => (∃ v, e = .returned v) ∧ KEnd q (L ++ [t]) F w w' := by
  obtain ⟨n, T⟩ := t
  unfold encW
  dsimp only
  obtain ⟨i0, hi, hz0, hz1, hz2⟩ := info_parts infoMoment
  obtain ⟨v, hq, hr, hF⟩ := h
  have hlt := (Array.getElem?_eq_some_iff.1 hq).1
  have e1 : w.cell? ⟨q, 0, none⟩ = some v := by simp [World.cell?, hq]
  have hvq := clk_apart hq hr
  have HQ := Lib.hid hq
  have HR := Lib.hid hr
  have HF := Lib.hid hF
  have hcn := cell_two_new w.drew (.int .i64 n) (.int .i64 T) 55
  have HCN := Lib.hid hcn
  clear hq hr hF hcn
  go_enter Try.func51, Try.ntmps51
  go_wp2_with fail
  go_region_law (refine step_append_where rfl _ _ 48 rfl 55 i0 (.agg #[.int .i64 0, .int .i64 0]) 2 16 Try.underlying48 hi hz0 hz1 hz2 rfl (by decide) v L.length (cellsW L) rfl (HR.out.alloc _) ⟨w.heap.size, 0, none⟩ 1 1 [.int .i64 n, .int .i64 T] rfl rfl HCN.out (by simp [Value.oneCell']) (by unfold maxLen; omega) (by omega) ?_; intro v' w4 hown hgrow hwh; obtain ⟨g', cap', rfl⟩ := ownsRow_succW hown; have hd1 : w4.heap[q]? = some (.cells #[v] 50 (0, 0)) := (hgrow.block q (by first | (simp; done) | (simp; omega)) hvq).trans ((Below.heap_alloc _ _ _ hlt).trans HQ.out); have hd2 : w4.cell? ⟨q, 0, none⟩ = some v := (by simp [World.cell?, hd1]); have hd3 : w4.frozen? ⟨q, 0, none⟩ = false := (by simp [World.frozen?, hd1]); have HD := Lib.hid hd1; have HO := Lib.hid hown; have HG := Lib.hid hgrow; have HW := Lib.hid hwh; clear hd1 hown hgrow hwh)
  all_goals go_wp2_with fail
  all_goals go_end0
  all_goals exact ⟨⟨_, rfl⟩, pushK_done q L ⟨n, T⟩ hlt HF.out hvq (ext_refl w) HO.out HG.out HW.out HD.out⟩

theorem cellsW_take (L : List Mo) (t : Mo) (cs : List Value) (h : cs.take ((L ++ [t]).length * 2) = cellsW (L ++ [t])) : cs.take (L.length * 2) = cellsW L := by
  have e : cs.take (L.length * 2) = (cs.take ((L ++ [t]).length * 2)).take (L.length * 2) := by rw [List.take_take]; congr 1; simp
  rw [e, h, cellsW_snoc, ← cellsW_len, List.take_left]
theorem popK_done {q : Nat} {L : List Mo} {t : Mo} {w w1 : World} {F : Nat → Prop} {p : Option Addr} {cap : Nat} (h : ClkQ q (L ++ [t]) w F) (he : w.cell? ⟨q, 0, none⟩ = some (.slice p (L.length + 1) cap)) (hb : Below w.heap.size w w1) :
    KEnd q L F w (w1.setCell ⟨q, 0, none⟩ (.slice p L.length cap)) := by
  obtain ⟨v, hq, hr, hF⟩ := h
  have hvq := clk_apart hq hr
  obtain rfl : v = .slice p (L.length + 1) cap := by simpa [World.cell?, hq] using he
  have hlt := (Array.getElem?_eq_some_iff.1 hq).1
  rcases hr.2 with ⟨h1, h2⟩ | ⟨g, cap', cur, hv, _, hgo, hnc, hcm, hcs, htk⟩
  · simp at h2
  simp only [List.length_append, List.length_cons, List.length_nil, Value.slice.injEq] at hv
  obtain ⟨rfl, _, rfl⟩ := hv
  have hgq : g ≠ q := fun e => hvq (by rw [e]; rfl)
  have hg := (Array.getElem?_eq_some_iff.1 hgo).1
  have h1q := (hb.block q hlt).trans hq
  refine ⟨F, ⟨.slice (some ⟨g, 0, none⟩) L.length cap, ?_, ⟨?_, .inr ⟨g, cap, cur, rfl, Nat.zero_le _, ?_, ?_, hcm, hcs, ?_⟩⟩, ?_⟩, (Fr.of_below hb).set q 0 _ (.inl ((hF q).2 (.inl rfl))), fun k hk => .inl hk⟩
  · rw [heap_setCell_same _ _ _ _ _ _ h1q]; rfl
  · rw [cellsW_len]
  · exact (Below.heap_setCell _ _ _ _ hgq).trans ((hb.block g hg).trans hgo)
  · simp only [List.length_append, List.length_cons, List.length_nil] at hnc; omega
  · exact cellsW_take L t _ htk
  · intro k
    rw [hF k]
    simp [Value.ownBlock]

set_option maxHeartbeats 4000000 in
set_option maxRecDepth 100000 in
theorem popK_calls (q : Nat) (L : List Mo) (t : Mo) (w : World) (F : Nat → Prop) (h : ClkQ q (L ++ [t]) w F) (hL : L.length ≤ 2000) :
    Calls Try.prog 50 #[.pointer (some ⟨q, 0, none⟩)] w fun e w' => e = .returned (encW t) ∧ KEnd q L F w w' := by
  obtain ⟨p, cap, hc⟩ := h.cells
  have hlt := hc.lt
  have he : w.cell? ⟨q, 0, none⟩ = some (.slice p (L.length + 1) cap) := by have := hc.h1; rw [List.length_append] at this; exact this
  have hf1 := hc.f1
  rcases hc.row with h0 | ⟨g, rfl, hg, hgq, _, hcell⟩
  · simp at h0
  obtain ⟨a0, a1⟩ := hcell L.length t (by simp)
  have HD : Hid (∀ ob, KEnd q L F w ((w.setCell ⟨q, 0, none⟩ (.slice (some ⟨g, 0, none⟩) L.length cap)).alloc ob)) := Lib.hid fun ob => (popK_done h he (ext_refl w)).later ⟨_, ext_alloc (ext_refl _) ob⟩
  have hcap : L.length + 1 ≤ cap := by
    obtain ⟨v, hq, hr, _⟩ := h
    obtain rfl : v = .slice (some ⟨g, 0, none⟩) (L.length + 1) cap := by simpa [World.cell?, hq] using he
    rcases hr.2 with ⟨_, h2⟩ | ⟨g', cap', cur, hv, _, _, hnc, _⟩
    · simp at h2
    · simp only [List.length_append, List.length_cons, List.length_nil, Value.slice.injEq] at hv hnc
      omega
  obtain ⟨n, T⟩ := t
  unfold encW
  dsimp only at a0 a1 ⊢
  obtain ⟨N, hN⟩ : ∃ N : Nat, L.length = N := ⟨_, rfl⟩
  rw [hN] at he a0 a1 hL hcap HD
  have hne : q ≠ w.heap.size := by omega
  clear hcell hc h hN
  go_enter Try.func50, Try.ntmps50
  go_wp2_with fail
  go_ret
  exact ⟨rfl, HD.out _⟩

/-- What container/heap keeps of it. -/
def KAt (q : Nat) (F : Nat → Prop) (w : World) (xs : List Mo) (W : World) : Prop := KEnd q xs F w W ∧ xs.length ≤ 2000

theorem kheap (q : Nat) (F : Nat → Prop) (w : World) : HeapIf Try.prog (hpW q) lessM (KAt q F w) where
  size xs W h := by have := h.2; omega
  len xs W h := by
    obtain ⟨⟨F1, h1, h2, h3⟩, hl⟩ := h
    obtain ⟨p, cap, hc⟩ := h1.cells
    refine via_value (elem := 48) (f := 47) Try.underlying53 (by kernel_rfl) (load_moments hc) Try.call47 ?_
    exact (lenM_calls p xs.length cap W).mono fun e w' ⟨he, x, hx⟩ => ⟨he, by subst hx; exact ⟨(KEnd.step h2 h3 (kEnd_refl h1)).later x, hl⟩⟩
  less xs W i j x y h hi hj := by
    obtain ⟨⟨F1, h1, h2, h3⟩, hl⟩ := h
    obtain ⟨p, cap, hc⟩ := h1.cells
    refine via_value (elem := 48) (f := 48) Try.underlying53 (by kernel_rfl) (load_moments hc) Try.call48 ?_
    exact (lessK_calls q xs p cap W hc i j x y hi hj).mono fun e w' ⟨he, x, hx⟩ => ⟨he, by subst hx; exact ⟨(KEnd.step h2 h3 (kEnd_refl h1)).later x, hl⟩⟩
  swap xs W i j x y h hi hj := by
    obtain ⟨⟨F1, h1, h2, h3⟩, hl⟩ := h
    obtain ⟨p, cap, hc⟩ := h1.cells
    refine via_value (elem := 48) (f := 49) Try.underlying53 (by kernel_rfl) (load_moments hc) Try.call49 ?_
    exact (swapK_calls q xs p cap W F1 h1 hc i j x y hi hj).mono fun e w' ⟨he, hx⟩ => ⟨he, KEnd.step h2 h3 hx, by rw [swapL_len]; exact hl⟩

theorem kends (q : Nat) (F : Nat → Prop) (w : World) : HeapEnds Try.prog (hpW q) encW 2000 (KAt q F w) where
  push xs x W h hlt := by
    obtain ⟨⟨F1, h1, h2, h3⟩, hl⟩ := h
    refine via_pointer (n := Try.prog.types.size + Made.depth - 1 + 1) (by have : 0 < Made.depth := by decide
                                                                           omega) (method_pointer (f := 51) (elem := 48) Try.underlying53 (by kernel_rfl)) Try.call51 ?_
    exact (pushK_calls q xs W F1 h1 x hl).mono fun e w' ⟨he, hx⟩ => ⟨he, KEnd.step h2 h3 hx, by simp; omega⟩
  pop xs x W h := by
    obtain ⟨⟨F1, h1, h2, h3⟩, hl⟩ := h
    have hl' : xs.length ≤ 2000 := by simp at hl; omega
    refine via_pointer (n := Try.prog.types.size + Made.depth - 1 + 1) (by have : 0 < Made.depth := by decide
                                                                           omega) (method_pointer (f := 50) (elem := 48) Try.underlying53 (by kernel_rfl)) Try.call50 ?_
    exact (popK_calls q xs x W F1 h1 hl').mono fun e w' ⟨he, hx⟩ => ⟨he, KEnd.step h2 h3 hx, hl'⟩
end Go.Proofs.Ytcmidomgnbodiaa
