/- The landed queue as a heap: Push, Pop; all that container/heap asks. -/
import Derived.Test.YtlcmehighgmoeaaRumSwap
import Derived.Deep.Cut
import Derived.Laws.OwnMore
namespace Go.Proofs.Ytlcmehighgmoeaa
open Go Go.RowKit

@[simp, go_sem] theorem run_assert_telling (v : Value) (w : World) : (Instr.typeAssert (.iface 60 v) 20 60 false).run Try.prog w = .ok v w := by
  simp [Instr.typeAssert, go_sem]

theorem rput_done (q often : Nat) (L : List Td) (t : Td) {w w3 w4 : World} {F : Nat → Prop} {v : Value} {g cap : Nat} {ob : Obj} (hlt : q < w.heap.size) (hF : ∀ k, F k ↔ k = q ∨ v.ownBlock = some k) (hvq : some q ≠ v.ownBlock) (hb : Below w.heap.size w w3)
    (ho : w4.ownsRow 0 60 4 (.slice (some ⟨g, 0, none⟩) (L.length + 1) cap) (L.length + 1) (cellsT L ++ cells4 t)) (hg : (w3.alloc ob).drew.grownBy w4 v.ownBlock)
    (hw : ∀ j, (Value.slice (some ⟨g, 0, none⟩) (L.length + 1) cap).ownBlock = some j → v.ownBlock = some j ∨ (w3.alloc ob).drew.heap.size ≤ j) (hd : w4.heap[q]? = some (.cells #[.int .i64 often, v] 57 (0, 0))) :
    REnd q often (L ++ [t]) F w (w4.setCell ⟨q, 1, none⟩ (.slice (some ⟨g, 0, none⟩) (L.length + 1) cap)) := by
  have hs := hb.size
  have hgw : v.ownBlock = some g ∨ w.heap.size ≤ g := by
    rcases hw g rfl with h | h
    · exact .inl h
    · have : w3.heap.size ≤ (w3.alloc ob).drew.heap.size := by simp
      exact .inr (by omega)
  have hne : g ≠ q := by
    rintro rfl
    rcases hgw with h | h
    · exact hvq h.symm
    · omega
  have f0 : Fr F w (w3.alloc ob).drew := ((Fr.of_below hb).alloc ob).drew
  have f1 : Fr F w w4 := f0.trans (G := F) (Fr.of_grownBy hg fun j hj => .inl ((hF j).2 (.inr hj))) fun _ h => .inl h
  refine ⟨fun j => j = q ∨ j = g, ⟨.slice (some ⟨g, 0, none⟩) (L.length + 1) cap, ?_, ?_, ?_⟩, f1.set q 1 _ (.inl ((hF q).2 (.inl rfl))), ?_⟩
  · rw [heap_setCell_same _ _ _ _ _ _ hd]; rfl
  · rw [List.length_append, cellsT_snoc]
    exact ownsRow_set ho hne _
  · intro k
    simp [Value.ownBlock, eq_comm]
  · rintro k (rfl | rfl)
    · exact .inl ((hF k).2 (.inl rfl))
    · rcases hgw with h | h
      · exact .inl ((hF k).2 (.inr h))
      · exact .inr h

theorem RumQ.apart {q often : Nat} {L : List Td} {W : World} {v : Value} (hq : W.heap[q]? = some (.cells #[.int .i64 often, v] 57 (0, 0))) (hr : W.ownsRow 0 60 4 v L.length (cellsT L)) : some q ≠ v.ownBlock := by
  intro e
  rcases hr.2 with ⟨rfl, _⟩ | ⟨g, cap, cur, rfl, _, hg, _⟩
  · simp [Value.ownBlock] at e
  · simp [Value.ownBlock] at e
    subst e
    rw [hq] at hg
    simp at hg

set_option maxHeartbeats 4000000 in
set_option maxRecDepth 100000 in
theorem push_calls (q often : Nat) (L : List Td) (w : World) (F : Nat → Prop) (h : RumQ q often L w F) (t : Td) (hL : L.length ≤ 1000) :
    Calls Try.prog 62 #[.pointer (some ⟨q, 1, none⟩), encT t] w fun e w' => (∃ v, e = .returned v) ∧ REnd q often (L ++ [t]) F w w' := by
  obtain ⟨⟨n, i, s⟩, k⟩ := t
  unfold encT
  dsimp only
  obtain ⟨i0, hi, hz0, hz1, hz2⟩ := info_parts infoTelling
  obtain ⟨v, hq, hr, hF⟩ := h
  have hlt := (Array.getElem?_eq_some_iff.1 hq).1
  have e1 : w.cell? ⟨q, 1, none⟩ = some v := by simp [World.cell?, hq]
  have hvq := RumQ.apart hq hr
  have HQ := Lib.hid hq
  have HR := Lib.hid hr
  have HF := Lib.hid hF
  obtain ⟨T, hT⟩ : ∃ T : Int, (k : Int) = T := ⟨_, rfl⟩
  have HT := Lib.hid hT
  rw [hT]
  have hcn := cell_four_new w.drew (.int .i64 n) (.int .i64 i) (.int .i64 s) (.int .i64 T) 60
  have HCN := Lib.hid hcn
  clear hq hr hF hcn hT
  go_enter Try.func62, Try.ntmps62
  go_wp2_with fail
  go_region_law (refine step_append_where rfl _ _ 55 rfl 60 i0 (.agg #[.int .i64 0, .int .i64 0, .int .i64 0, .int .i64 0]) 4 32 Try.underlying55 hi hz0 hz1 hz2 rfl (by decide) v L.length (cellsT L) rfl (HR.out.alloc _) ⟨w.heap.size, 0, none⟩ 1 1 [.int .i64 n, .int .i64 i, .int .i64 s, .int .i64 T] rfl rfl HCN.out (by simp [Value.oneCell']) (by unfold maxLen; omega) (by omega) ?_; intro v' w4 hown hgrow hwh; obtain ⟨g', cap', rfl⟩ := ownsRow_succ hown; have hd1 : w4.heap[q]? = some (.cells #[.int .i64 often, v] 57 (0, 0)) := (hgrow.block q (by first | (simp; done) | (simp; omega)) hvq).trans ((Below.heap_alloc _ _ _ hlt).trans HQ.out); have hd2 : w4.cell? ⟨q, 1, none⟩ = some v := (by simp [World.cell?, hd1]); have hd3 : w4.frozen? ⟨q, 1, none⟩ = false := (by simp [World.frozen?, hd1]); have HD := Lib.hid hd1; have HO := Lib.hid hown; have HG := Lib.hid hgrow; have HW := Lib.hid hwh; clear hd1 hown hgrow hwh)
  all_goals go_wp2_with fail
  all_goals go_end0
  all_goals exact ⟨⟨_, rfl⟩, rput_done q often L ⟨⟨n, i, s⟩, k⟩ hlt HF.out hvq (ext_refl w) (by have := HO.out; rw [← HT.out] at this; exact this) HG.out HW.out HD.out⟩

theorem cellsT_take (L : List Td) (t : Td) (cs : List Value) (h : cs.take ((L ++ [t]).length * 4) = cellsT (L ++ [t])) : cs.take (L.length * 4) = cellsT L := by
  have e : cs.take (L.length * 4) = (cs.take ((L ++ [t]).length * 4)).take (L.length * 4) := by rw [List.take_take]; congr 1; simp
  rw [e, h]
  rw [show cellsT (L ++ [t]) = cellsT L ++ cellsT [t] from by simp [cellsT], ← cellsT_len, List.take_left]
theorem pop_done {q often : Nat} {L : List Td} {t : Td} {w w1 : World} {F : Nat → Prop} {p : Option Addr} {cap : Nat} (h : RumQ q often (L ++ [t]) w F) (he : w.cell? ⟨q, 1, none⟩ = some (.slice p (L.length + 1) cap)) (hb : Below w.heap.size w w1) :
    REnd q often L F w (w1.setCell ⟨q, 1, none⟩ (.slice p L.length cap)) := by
  obtain ⟨v, hq, hr, hF⟩ := h
  have hvq := RumQ.apart hq hr
  obtain rfl : v = .slice p (L.length + 1) cap := by simpa [World.cell?, hq] using he
  have hlt := (Array.getElem?_eq_some_iff.1 hq).1
  rcases hr.2 with ⟨h1, h2⟩ | ⟨g, cap', cur, hv, _, hgo, hnc, hcm, hcs, htk⟩
  · simp at h2
  simp only [List.length_append, List.length_cons, List.length_nil, Value.slice.injEq] at hv
  obtain ⟨rfl, _, rfl⟩ := hv
  have hgq : g ≠ q := fun e => hvq (by rw [e]; rfl)
  have hg := (Array.getElem?_eq_some_iff.1 hgo).1
  have h1q := (hb.block q hlt).trans hq
  refine ⟨F, ⟨.slice (some ⟨g, 0, none⟩) L.length cap, ?_, ⟨?_, .inr ⟨g, cap, cur, rfl, Nat.zero_le _, ?_, ?_, hcm, hcs, ?_⟩⟩, ?_⟩, (Fr.of_below hb).set q 1 _ (.inl ((hF q).2 (.inl rfl))), fun k hk => .inl hk⟩
  · rw [heap_setCell_same _ _ _ _ _ _ h1q]; rfl
  · rw [cellsT_len]
  · exact (Below.heap_setCell _ _ _ _ hgq).trans ((hb.block g hg).trans hgo)
  · simp only [List.length_append, List.length_cons, List.length_nil] at hnc; omega
  · exact cellsT_take L t _ htk
  · intro k
    rw [hF k]
    simp [Value.ownBlock]

set_option maxHeartbeats 4000000 in
set_option maxRecDepth 100000 in
theorem pop_calls (q often : Nat) (L : List Td) (t : Td) (w : World) (F : Nat → Prop) (h : RumQ q often (L ++ [t]) w F) (hL : L.length ≤ 1000) :
    Calls Try.prog 61 #[.pointer (some ⟨q, 1, none⟩)] w fun e w' => e = .returned (encT t) ∧ REnd q often L F w w' := by
  obtain ⟨p, cap, hc⟩ := h.cells
  have hlt := hc.lt
  have he : w.cell? ⟨q, 1, none⟩ = some (.slice p (L.length + 1) cap) := by have := hc.h1; rw [List.length_append] at this; exact this
  have hf1 := hc.f1
  rcases hc.row with h0 | ⟨g, rfl, hg, hgq, _, hcell⟩
  · simp at h0
  obtain ⟨a0, a1, a2, a3⟩ := hcell L.length t (by simp)
  have HD : Hid (∀ ob, REnd q often L F w ((w.setCell ⟨q, 1, none⟩ (.slice (some ⟨g, 0, none⟩) L.length cap)).alloc ob)) := Lib.hid fun ob => (pop_done h he (ext_refl w)).later ⟨_, ext_alloc (ext_refl _) ob⟩
  have hcap : L.length + 1 ≤ cap := by
    obtain ⟨v, hq, hr, _⟩ := h
    obtain rfl : v = .slice (some ⟨g, 0, none⟩) (L.length + 1) cap := by simpa [World.cell?, hq] using he
    rcases hr.2 with ⟨_, h2⟩ | ⟨g', cap', cur, hv, _, _, hnc, _⟩
    · simp at h2
    · simp only [List.length_append, List.length_cons, List.length_nil, Value.slice.injEq] at hv hnc
      omega
  obtain ⟨⟨n, i, s⟩, k⟩ := t
  unfold encT
  dsimp only at a0 a1 a2 a3 ⊢
  obtain ⟨T, hT⟩ : ∃ T : Int, (k : Int) = T := ⟨_, rfl⟩
  rw [hT] at a3 ⊢
  obtain ⟨N, hN⟩ : ∃ N : Nat, L.length = N := ⟨_, rfl⟩
  rw [hN] at he a0 a1 a2 a3 hL hcap HD
  have hne : q ≠ w.heap.size := by omega
  clear hcell hc h hN hT
  go_enter Try.func61, Try.ntmps61
  go_wp2_with fail
  go_ret
  exact ⟨rfl, HD.out _⟩

/-- What container/heap keeps of it. -/
def RAt (q often : Nat) (F : Nat → Prop) (w : World) (xs : List Td) (W : World) : Prop := REnd q often xs F w W ∧ xs.length ≤ 1000

theorem rheap (q often : Nat) (F : Nat → Prop) (w : World) : HeapIf Try.prog (hpV q) lessT (RAt q often F w) where
  size xs W h := by have := h.2; omega
  len xs W h := by
    obtain ⟨⟨F1, h1, h2, h3⟩, hl⟩ := h
    obtain ⟨p, cap, hc⟩ := h1.cells
    refine via_value (elem := 55) (f := 58) Try.underlying62 (by kernel_rfl) (load_waiting hc) Try.call58 ?_
    exact (len_calls p xs.length cap W).mono fun e w' ⟨he, x, hx⟩ => ⟨he, by subst hx; exact ⟨(REnd.step h2 h3 (rEnd_refl h1)).later x, hl⟩⟩
  less xs W i j x y h hi hj := by
    obtain ⟨⟨F1, h1, h2, h3⟩, hl⟩ := h
    obtain ⟨p, cap, hc⟩ := h1.cells
    refine via_value (elem := 55) (f := 59) Try.underlying62 (by kernel_rfl) (load_waiting hc) Try.call59 ?_
    exact (less_calls q often xs p cap W hc i j x y hi hj).mono fun e w' ⟨he, x, hx⟩ => ⟨he, by subst hx; exact ⟨(REnd.step h2 h3 (rEnd_refl h1)).later x, hl⟩⟩
  swap xs W i j x y h hi hj := by
    obtain ⟨⟨F1, h1, h2, h3⟩, hl⟩ := h
    obtain ⟨p, cap, hc⟩ := h1.cells
    refine via_value (elem := 55) (f := 60) Try.underlying62 (by kernel_rfl) (load_waiting hc) Try.call60 ?_
    exact (swap_calls q often xs p cap W F1 h1 hc i j x y hi hj).mono fun e w' ⟨he, hx⟩ => ⟨he, REnd.step h2 h3 hx, by rw [swapL_len]; exact hl⟩

theorem rends (q often : Nat) (F : Nat → Prop) (w : World) : HeapEnds Try.prog (hpV q) encT 1000 (RAt q often F w) where
  push xs x W h hlt := by
    obtain ⟨⟨F1, h1, h2, h3⟩, hl⟩ := h
    refine via_pointer (n := Try.prog.types.size + Made.depth - 1 + 1) (by have : 0 < Made.depth := by decide
                                                                           omega) (method_pointer (f := 62) (elem := 55) Try.underlying62 (by kernel_rfl)) Try.call62 ?_
    exact (push_calls q often xs W F1 h1 x hl).mono fun e w' ⟨he, hx⟩ => ⟨he, REnd.step h2 h3 hx, by simp; omega⟩
  pop xs x W h := by
    obtain ⟨⟨F1, h1, h2, h3⟩, hl⟩ := h
    have hl' : xs.length ≤ 1000 := by simp at hl; omega
    refine via_pointer (n := Try.prog.types.size + Made.depth - 1 + 1) (by have : 0 < Made.depth := by decide
                                                                           omega) (method_pointer (f := 61) (elem := 55) Try.underlying62 (by kernel_rfl)) Try.call61 ?_
    exact (pop_calls q often xs x W F1 h1 hl').mono fun e w' ⟨he, hx⟩ => ⟨he, REnd.step h2 h3 hx, hl'⟩
end Go.Proofs.Ytlcmehighgmoeaa
