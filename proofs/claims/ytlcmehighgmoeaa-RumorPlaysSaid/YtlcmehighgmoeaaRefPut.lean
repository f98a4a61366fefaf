/- The reference's queue: Put. -/
import Derived.Test.YtlcmehighgmoeaaRefQueue
import Derived.Test.YtlcmehighgmoeaaAppendAt
import Derived.RegionTactic
import Derived.BigRegion
import Derived.Deep.RegionLaw
namespace Go.Proofs.Ytlcmehighgmoeaa
open Go Go.RowKit

theorem infoTold : (Try.prog.info? 43).map (fun i => (i.zero, i.size, i.bytes)) = some (some (.agg #[.int .i64 0, .int .i64 0, .int .i64 0, .int .i64 0]), 4, 32) := by kernel_rfl

/-- What the reference puts. -/
def putOf (L : List Td) (c : Cl) : List Td × Bool :=
  if mayK c = false ∨ nothingK c = true then (L, false)
  else match L.findIdx? (fun t => t.c.n == c.n) with
    | none => (L ++ [⟨c, 0⟩], true)
    | some k => match L[k]? with
      | some t => if 0 ≤ cmpK t.c c then (L, false) else (L.set k ⟨c, 0⟩, true)
      | none => (L, false)

/-- A step on a queue: what it holds behind, what it may have turned. -/
def QEnd (q often : Nat) (L : List Td) (F : Nat → Prop) (W W' : World) : Prop := ∃ F', RefQ q often L W' F' ∧ Fr F W W' ∧ ∀ k, F' k → F k ∨ W.heap.size ≤ k
theorem qEnd_later {q often : Nat} {L : List Td} {F : Nat → Prop} {W : World} (h : RefQ q often L W F) (x : Later W) : QEnd q often L F W x.w :=
  ⟨F, (refQ_owns q often L).kept W x.w F h x.below.size (fun k hk => x.below.block k ((refQ_owns q often L).lt W F h k hk)), Fr.of_below x.below, fun _k hk => .inl hk⟩

set_option maxHeartbeats 1000000 in
set_option maxRecDepth 100000 in
theorem put_bad (q _often : Nat) (_L : List Td) (c : Cl) (w : World) (hm : mayK c = false ∨ nothingK c = true) : Gives Try.prog 15 #[.pointer (some ⟨q, 0, none⟩), c.val] w (.bool false) := by
  obtain ⟨n, i, s⟩ := c
  unfold Gives Cl.val
  dsimp only
  obtain ⟨a, ha⟩ : ∃ a, mayB n i s = a := ⟨_, rfl⟩
  obtain ⟨b, hb⟩ : ∃ b, nothingB i s = b := ⟨_, rfl⟩
  have HM := Lib.hid (fun W => refMay_any n i s W)
  have HN := Lib.hid (fun W => refNothing_any n i s W)
  have hm' : a = false ∨ b = true := by rw [← ha, ← hb]; exact hm
  rw [ha] at HM
  rw [hb] at HN
  clear hm ha hb
  cases a with
  | false =>
    go_enter Try.func15, Try.ntmps15
    go_wp2_with fail
    refine Gives.mono' (HM.out _) ?_
    intro x1
    go_wp2_with fail
    go_ret
    exact ⟨rfl, Later.ex (by repeat (first | exact ext_refl _ | refine ext_later ?_ _ | refine ext_alloc ?_ _ | refine ext_drew ?_ | refine ext_drewN ?_ _))⟩
  | true =>
    obtain rfl : b = true := by rcases hm' with h | h <;> simp_all
    clear hm'
    go_enter Try.func15, Try.ntmps15
    go_wp2_with fail
    refine Gives.mono' (HM.out _) ?_
    intro x1
    go_wp2_with fail
    refine Gives.on (HN.out _) ?_
    intro x2
    go_wp2_with fail
    go_ret
    exact ⟨rfl, Later.ex (by repeat (first | exact ext_refl _ | refine ext_later ?_ _ | refine ext_alloc ?_ _ | refine ext_drew ?_ | refine ext_drewN ?_ _))⟩

/-- A row of another block stays when a cell is set. -/
theorem ownsRow_set {W : World} {T : TypeId} {g cap m q o : Nat} {xs : List Value} (h : W.ownsRow 0 T 4 (.slice (some ⟨g, 0, none⟩) m cap) m xs) (hne : g ≠ q) (u : Value) : (W.setCell ⟨q, o, none⟩ u).ownsRow 0 T 4 (.slice (some ⟨g, 0, none⟩) m cap) m xs := by
  refine ⟨h.1, ?_⟩
  rcases h.2 with ⟨h1, _⟩ | ⟨g', cap', cur, hv, hb, hg, rest⟩
  · simp at h1
  · obtain ⟨rfl, _⟩ : g = g' ∧ cap = cap' := by simpa using hv
    exact .inr ⟨g, cap', cur, hv, Nat.zero_le _, (Below.heap_setCell _ _ _ _ hne).trans hg, rest⟩

theorem put_done (q often : Nat) (L : List Td) (t : Td) {w w3 w4 : World} {F : Nat → Prop} {v : Value} {g cap : Nat} {ob : Obj} (hlt : q < w.heap.size) (hF : ∀ k, F k ↔ k = q ∨ v.ownBlock = some k) (hvq : some q ≠ v.ownBlock) (hb : Below w.heap.size w w3)
    (ho : w4.ownsRow 0 43 4 (.slice (some ⟨g, 0, none⟩) (L.length + 1) cap) (L.length + 1) (cellsT L ++ cells4 t)) (hg : (w3.alloc ob).drew.grownBy w4 v.ownBlock)
    (hw : ∀ j, (Value.slice (some ⟨g, 0, none⟩) (L.length + 1) cap).ownBlock = some j → v.ownBlock = some j ∨ (w3.alloc ob).drew.heap.size ≤ j) (hd : w4.heap[q]? = some (.cells #[.int .i64 often, v] 38 (0, 0))) :
    QEnd q often (L ++ [t]) F w (w4.setCell ⟨q, 1, none⟩ (.slice (some ⟨g, 0, none⟩) (L.length + 1) cap)) := by
  have hs := hb.size
  have hgw : v.ownBlock = some g ∨ w.heap.size ≤ g := by
    rcases hw g rfl with h | h
    · exact .inl h
    · have : w3.heap.size ≤ (w3.alloc ob).drew.heap.size := by simp
      exact .inr (by omega)
  have hne : g ≠ q := by
    rintro rfl
    rcases hgw with h | h
    · exact hvq h.symm
    · omega
  have f0 : Fr F w (w3.alloc ob).drew := ((Fr.of_below hb).alloc ob).drew
  have f1 : Fr F w w4 := f0.trans (G := F) (Fr.of_grownBy hg fun j hj => .inl ((hF j).2 (.inr hj))) fun _ h => .inl h
  refine ⟨fun j => j = q ∨ j = g, ⟨.slice (some ⟨g, 0, none⟩) (L.length + 1) cap, ?_, ?_, ?_⟩, f1.set q 1 _ (.inl ((hF q).2 (.inl rfl))), ?_⟩
  · rw [heap_setCell_same _ _ _ _ _ _ hd]; rfl
  · rw [List.length_append, cellsT_snoc]
    exact ownsRow_set ho hne _
  · intro k
    simp [Value.ownBlock, eq_comm]
  · rintro k (rfl | rfl)
    · exact .inl ((hF k).2 (.inl rfl))
    · rcases hgw with h | h
      · exact .inl ((hF k).2 (.inr h))
      · exact .inr h

set_option maxHeartbeats 2000000 in
set_option maxRecDepth 100000 in
theorem put_new (q often : Nat) (L : List Td) (c : Cl) (w : World) (F : Nat → Prop) (h : RefQ q often L w F) (hL : L.length ≤ 1000) (hm : mayK c = true) (hn : nothingK c = false) (ha : atIx L c.n = -1) :
    Calls Try.prog 15 #[.pointer (some ⟨q, 0, none⟩), c.val] w fun e w' => e = .returned (.bool true) ∧ QEnd q often (L ++ [⟨c, 0⟩]) F w w' := by
  obtain ⟨n, i, s⟩ := c
  unfold Cl.val
  dsimp only at ha ⊢
  obtain ⟨i0, hi, hz0, hz1, hz2⟩ := info_parts infoTold
  have HM : Hid (∀ W, Gives Try.prog 27 #[.agg #[.int .i64 n, .int .i64 i, .int .i64 s]] W (.bool true)) := Lib.hid (fun W => (refMay_any n i s W).cast (by rw [show mayB n i s = true from hm]))
  have HN : Hid (∀ W, Gives Try.prog 28 #[.agg #[.int .i64 n, .int .i64 i, .int .i64 s]] W (.bool false)) := Lib.hid (fun W => (refNothing_any n i s W).cast (by rw [show nothingB i s = false from hn]))
  have HA : Hid (∀ x : Later (w.alloc (.cells #[.int .i64 n, .int .i64 i, .int .i64 s] 28)), Gives Try.prog 18 #[.pointer (some ⟨q, 0, none⟩), .int .i64 n] x.w (.int .i64 (-1))) := Lib.hid (fun x => (at_any q often L n x.w F (by
    have hb : Below w.heap.size w x.w := ext_later (ext_alloc (ext_refl w) _) x
    exact (refQ_owns q often L).kept w x.w F h hb.size (fun k hk => hb.block k ((refQ_owns q often L).lt w F h k hk))) hL).cast (by rw [ha]))
  obtain ⟨v, hq, hr, hF⟩ := h
  have hlt := (Array.getElem?_eq_some_iff.1 hq).1
  have e1 : w.cell? ⟨q, 1, none⟩ = some v := by simp [World.cell?, hq]
  have HQ := Lib.hid hq
  have HR := Lib.hid hr
  have HF := Lib.hid hF
  have hvq : some q ≠ v.ownBlock := by
    intro e
    rcases hr.2 with ⟨rfl, _⟩ | ⟨g, cap, cur, rfl, _, hg, _⟩
    · simp [Value.ownBlock] at e
    · simp [Value.ownBlock] at e
      subst e
      rw [hq] at hg
      simp at hg
  clear hm hn ha hq hr hF
  go_enter Try.func15, Try.ntmps15
  go_wp2_with fail
  refine Gives.mono' (HM.out _) ?_
  intro x1
  go_wp2_with fail
  refine Gives.on (HN.out _) ?_
  intro x2
  go_wp2_with fail
  refine Gives.on (HA.out _) ?_
  intro x3
  go_wp2_with fail
  have hb3 : Below w.heap.size w x3.w := ext_later (ext_alloc (ext_refl w) _) x3
  have HB3 := Lib.hid hb3
  have hbox : x3.w.cell? ⟨w.heap.size, 0, none⟩ = some (.int .i64 n) ∧ x3.w.cell? ⟨w.heap.size, 1, none⟩ = some (.int .i64 i) ∧ x3.w.cell? ⟨w.heap.size, 2, none⟩ = some (.int .i64 s) := ⟨by simp [go_sem], by simp [go_sem], by simp [go_sem]⟩
  obtain ⟨b0, b1, b2⟩ := hbox
  have hr3 : x3.w.ownsRow 0 43 4 v L.length (cellsT L) := HR.out.kept (grownBy_of_below' hb3 none) (by cases hv : v.ownBlock <;> simp)
  have hq3 : x3.w.heap[q]? = some (.cells #[.int .i64 often, v] 38 (0, 0)) := (hb3.block q hlt).trans HQ.out
  have e13 : x3.w.cell? ⟨q, 1, none⟩ = some v := by simp [World.cell?, hq3]
  have hlt3 : q < x3.w.heap.size := Nat.lt_of_lt_of_le hlt hb3.size
  obtain ⟨w3, hw3⟩ : ∃ W, x3.w = W := ⟨_, rfl⟩
  rw [hw3] at HB3 b0 b1 b2 hr3 hq3 e13 hlt3 ⊢
  have HR3 := Lib.hid hr3
  have HQ3 := Lib.hid hq3
  have hcn := cell_four_new w3.drew (.int .i64 n) (.int .i64 i) (.int .i64 s) (.int .i64 0) 43
  have HCN := Lib.hid hcn
  clear hb3 hr3 hq3 hw3 hcn e1
  go_region_law (refine step_append_where rfl _ _ 36 rfl 43 i0 (.agg #[.int .i64 0, .int .i64 0, .int .i64 0, .int .i64 0]) 4 32 Try.underlying36 hi hz0 hz1 hz2 rfl (by decide) v L.length (cellsT L) rfl (HR3.out.alloc _) ⟨w3.heap.size, 0, none⟩ 1 1 [.int .i64 n, .int .i64 i, .int .i64 s, .int .i64 0] rfl rfl HCN.out (by simp [Value.oneCell']) (by unfold maxLen; omega) (by omega) ?_; intro v' w4 hown hgrow hwh; obtain ⟨g', cap', rfl⟩ := ownsRow_succ hown; have hd1 : w4.heap[q]? = some (.cells #[.int .i64 often, v] 38 (0, 0)) := (hgrow.block q (by first | (simp; done) | (simp; omega)) hvq).trans ((Below.heap_alloc _ _ _ hlt3).trans HQ3.out); have hd2 : w4.cell? ⟨q, 1, none⟩ = some v := (by simp [World.cell?, hd1]); have hd3 : w4.frozen? ⟨q, 1, none⟩ = false := (by simp [World.frozen?, hd1]); have HD := Lib.hid hd1; have HO := Lib.hid hown; have HG := Lib.hid hgrow; have HW := Lib.hid hwh; clear hd1 hown hgrow hwh)
  go_wp2_with fail
  all_goals go_ret
  all_goals exact ⟨rfl, put_done q often L ⟨⟨n, i, s⟩, 0⟩ hlt HF.out hvq HB3.out HO.out HG.out HW.out HD.out⟩
set_option maxHeartbeats 2000000 in
set_option maxRecDepth 100000 in
theorem put_low (q often : Nat) (L : List Td) (c : Cl) (w : World) (F : Nat → Prop) (h : RefQ q often L w F) (hL : L.length ≤ 1000) (hm : mayK c = true) (hn : nothingK c = false) (k : Nat) (t : Td) (hk : L[k]? = some t) (ha : atIx L c.n = k) (hc : 0 ≤ cmpK t.c c) :
    Gives Try.prog 15 #[.pointer (some ⟨q, 0, none⟩), c.val] w (.bool false) := by
  obtain ⟨n, i, s⟩ := c
  obtain ⟨⟨m, i', s'⟩, o⟩ := t
  unfold Gives Cl.val
  unfold cmpK at hc
  dsimp only at ha hc ⊢
  have HM : Hid (∀ W, Gives Try.prog 27 #[.agg #[.int .i64 n, .int .i64 i, .int .i64 s]] W (.bool true)) := Lib.hid (fun W => (refMay_any n i s W).cast (by rw [show mayB n i s = true from hm]))
  have HN : Hid (∀ W, Gives Try.prog 28 #[.agg #[.int .i64 n, .int .i64 i, .int .i64 s]] W (.bool false)) := Lib.hid (fun W => (refNothing_any n i s W).cast (by rw [show nothingB i s = false from hn]))
  have HA : Hid (∀ x : Later (w.alloc (.cells #[.int .i64 n, .int .i64 i, .int .i64 s] 28)), Gives Try.prog 18 #[.pointer (some ⟨q, 0, none⟩), .int .i64 n] x.w (.int .i64 k)) := Lib.hid (fun x => (at_any q often L n x.w F (by
    have hb : Below w.heap.size w x.w := ext_later (ext_alloc (ext_refl w) _) x
    exact (refQ_owns q often L).kept w x.w F h hb.size (fun k hk => hb.block k ((refQ_owns q often L).lt w F h k hk))) hL).cast (by rw [ha]))
  have HC := Lib.hid (fun W => refCompare_any m i' s' n i s W)
  obtain ⟨C, hC⟩ : ∃ C, cmpC i' s' i s = C := ⟨_, rfl⟩
  rw [hC] at HC hc
  clear hC
  obtain ⟨p, cap, hcells⟩ := h.cells
  have hlt := hcells.lt
  have hkl : k < L.length := by
    have := List.getElem?_eq_some_iff.1 hk
    exact this.1
  rcases hcells.row with h0 | ⟨g, rfl, hg, hgq, _, hcell⟩
  · rw [h0] at hkl; simp at hkl
  obtain ⟨a0, a1, a2, a3⟩ := hcell k _ hk
  have e1 := hcells.h1
  clear hm hn ha hcell hk hcells
  go_enter Try.func15, Try.ntmps15
  go_wp2_with fail
  refine Gives.mono' (HM.out _) ?_
  intro x1
  go_wp2_with fail
  refine Gives.on (HN.out _) ?_
  intro x2
  go_wp2_with fail
  refine Gives.on (HA.out _) ?_
  intro x3
  go_wp2_with fail
  refine wp_region_later_on (by kernel_rfl) (by kernel_rfl) ?_
  repeat (go_big_quiet_step (first | (go_at_call 29; with_reducible exact later_of (HC.out _))))
  refine wpQuiet_nil ?_
  rintro _ ⟨x9, rfl⟩
  go_wp2_with fail
  go_ret
  exact ⟨rfl, Later.ex (by repeat (first | exact ext_refl _ | refine ext_later ?_ _ | refine ext_alloc ?_ _ | refine ext_drew ?_ | refine ext_drewN ?_ _))⟩

theorem set_done (q often : Nat) (L : List Td) (t : Td) {w w9 : World} {F : Nat → Prop} {g cap k : Nat} (h : RefQ q often L w F) (he : w.cell? ⟨q, 1, none⟩ = some (.slice (some ⟨g, 0, none⟩) L.length cap)) (hk : k < L.length) (hb : Below w.heap.size w w9) :
    QEnd q often (L.set k t) F w ((((w9.setCell ⟨g, k * 4, none⟩ (.int .i64 t.c.n)).setCell ⟨g, k * 4 + 1, none⟩ (.int .i64 t.c.i)).setCell ⟨g, k * 4 + 2, none⟩ (.int .i64 t.c.h)).setCell ⟨g, k * 4 + 3, none⟩ (.int .i64 t.n)).drew := by
  obtain ⟨v, hq, hr, hF⟩ := h
  obtain rfl : v = .slice (some ⟨g, 0, none⟩) L.length cap := by simpa [World.cell?, hq] using he
  have hlt := (Array.getElem?_eq_some_iff.1 hq).1
  have hFg : F g := (hF g).2 (.inr rfl)
  have hg := (hr.lt g rfl).2
  have hne : g ≠ q := by
    rintro rfl
    rcases hr.2 with ⟨h1, _⟩ | ⟨g', cap', cur, hv, _, h1, _⟩
    · simp at h1
    · obtain ⟨rfl, _⟩ : g = g' ∧ cap = cap' := by simpa using hv
      rw [hq] at h1
      simp at h1
  rcases hr.2 with ⟨h1, _⟩ | ⟨g', cap', cur, hv, _, h1, hnc, hcm, hcs, htk⟩
  · simp at h1
  obtain ⟨rfl, rfl⟩ : g = g' ∧ cap = cap' := by simpa using hv
  have h9 : w9.heap[g]? = _ := (hb.block g hg).trans h1
  obtain ⟨cur', hg9, hs9, ht9⟩ := row_set t h9 hcs hnc hk htk
  refine ⟨F, ⟨.slice (some ⟨g, 0, none⟩) L.length cap, ?_, ⟨?_, .inr ⟨g, cap, cur', ?_, Nat.zero_le _, hg9, ?_, hcm, hs9, ht9⟩⟩, hF⟩, ?_, fun k hk => .inl hk⟩
  · exact (Below.heap_setCell _ _ _ _ hne.symm).trans ((Below.heap_setCell _ _ _ _ hne.symm).trans ((Below.heap_setCell _ _ _ _ hne.symm).trans ((Below.heap_setCell _ _ _ _ hne.symm).trans ((hb.block q hlt).trans hq))))
  · rw [cellsT_len]
  · rw [List.length_set]
  · rw [List.length_set]; exact hnc
  · exact (((((Fr.of_below hb).set g _ _ (.inl hFg)).set g _ _ (.inl hFg)).set g _ _ (.inl hFg)).set g _ _ (.inl hFg)).drew

set_option maxHeartbeats 2000000 in
set_option maxRecDepth 100000 in
theorem put_up (q often : Nat) (L : List Td) (c : Cl) (w : World) (F : Nat → Prop) (h : RefQ q often L w F) (hL : L.length ≤ 1000) (hm : mayK c = true) (hn : nothingK c = false) (k : Nat) (t : Td) (hk : L[k]? = some t) (ha : atIx L c.n = k) (hc : ¬ 0 ≤ cmpK t.c c) :
    Calls Try.prog 15 #[.pointer (some ⟨q, 0, none⟩), c.val] w fun e w' => e = .returned (.bool true) ∧ QEnd q often (L.set k ⟨c, 0⟩) F w w' := by
  obtain ⟨n, i, s⟩ := c
  obtain ⟨⟨m, i', s'⟩, o⟩ := t
  unfold Cl.val
  unfold cmpK at hc
  dsimp only at ha hc ⊢
  have HH := Lib.hid h
  have HM : Hid (∀ W, Gives Try.prog 27 #[.agg #[.int .i64 n, .int .i64 i, .int .i64 s]] W (.bool true)) := Lib.hid (fun W => (refMay_any n i s W).cast (by rw [show mayB n i s = true from hm]))
  have HN : Hid (∀ W, Gives Try.prog 28 #[.agg #[.int .i64 n, .int .i64 i, .int .i64 s]] W (.bool false)) := Lib.hid (fun W => (refNothing_any n i s W).cast (by rw [show nothingB i s = false from hn]))
  have HA : Hid (∀ x : Later (w.alloc (.cells #[.int .i64 n, .int .i64 i, .int .i64 s] 28)), Gives Try.prog 18 #[.pointer (some ⟨q, 0, none⟩), .int .i64 n] x.w (.int .i64 k)) := Lib.hid (fun x => (at_any q often L n x.w F (by
    have hb : Below w.heap.size w x.w := ext_later (ext_alloc (ext_refl w) _) x
    exact (refQ_owns q often L).kept w x.w F h hb.size (fun k hk => hb.block k ((refQ_owns q often L).lt w F h k hk))) hL).cast (by rw [ha]))
  have HC := Lib.hid (fun W => refCompare_any m i' s' n i s W)
  obtain ⟨C, hC⟩ : ∃ C, cmpC i' s' i s = C := ⟨_, rfl⟩
  rw [hC] at HC hc
  clear hC
  obtain ⟨p, cap, hcells⟩ := h.cells
  have hlt := hcells.lt
  have hkl : k < L.length := by
    have := List.getElem?_eq_some_iff.1 hk
    exact this.1
  rcases hcells.row with h0 | ⟨g, rfl, hg, hgq, hfz, hcell⟩
  · rw [h0] at hkl; simp at hkl
  obtain ⟨a0, a1, a2, a3⟩ := hcell k _ hk
  have e1 := hcells.h1
  have he := Lib.hid e1
  have f0 := hfz (k * 4)
  have f1 := hfz (k * 4 + 1)
  have f2 := hfz (k * 4 + 2)
  have f3 := hfz (k * 4 + 3)
  clear hm hn ha hcell hk hcells hfz h
  go_enter Try.func15, Try.ntmps15
  go_wp2_with fail
  refine Gives.mono' (HM.out _) ?_
  intro x1
  go_wp2_with fail
  refine Gives.on (HN.out _) ?_
  intro x2
  go_wp2_with fail
  refine Gives.on (HA.out _) ?_
  intro x3
  go_wp2_with fail
  refine wp_region_later_on (by kernel_rfl) (by kernel_rfl) ?_
  repeat (go_big_quiet_step (first | (go_at_call 29; with_reducible exact later_of (HC.out _))))
  refine wpQuiet_nil ?_
  rintro _ ⟨x9, rfl⟩
  go_wp2_with fail
  have hb9 : Below w.heap.size w x9.w := ext_later (ext_alloc (ext_refl w) _) x9
  have HB9 := Lib.hid hb9
  have hbox : x9.w.cell? ⟨w.heap.size, 0, none⟩ = some (.int .i64 n) ∧ x9.w.cell? ⟨w.heap.size, 1, none⟩ = some (.int .i64 i) ∧ x9.w.cell? ⟨w.heap.size, 2, none⟩ = some (.int .i64 s) := ⟨by simp [go_sem], by simp [go_sem], by simp [go_sem]⟩
  obtain ⟨b0, b1, b2⟩ := hbox
  have c1 : x9.w.cell? ⟨q, 1, none⟩ = _ := (hb9.cell (p := ⟨q, _, none⟩) hlt).trans e1
  have c2 : x9.w.cell? ⟨g, k * 4, none⟩ = _ := (hb9.cell (p := ⟨g, _, none⟩) hg).trans a0
  have c3 : x9.w.cell? ⟨g, k * 4 + 1, none⟩ = _ := (hb9.cell (p := ⟨g, _, none⟩) hg).trans a1
  have c4 : x9.w.cell? ⟨g, k * 4 + 2, none⟩ = _ := (hb9.cell (p := ⟨g, _, none⟩) hg).trans a2
  have c5 : x9.w.cell? ⟨g, k * 4 + 3, none⟩ = _ := (hb9.cell (p := ⟨g, _, none⟩) hg).trans a3
  have z0 : x9.w.frozen? ⟨g, k * 4, none⟩ = _ := (hb9.frozen (p := ⟨g, _, none⟩) hg).trans f0
  have z1 : x9.w.frozen? ⟨g, k * 4 + 1, none⟩ = _ := (hb9.frozen (p := ⟨g, _, none⟩) hg).trans f1
  have z2 : x9.w.frozen? ⟨g, k * 4 + 2, none⟩ = _ := (hb9.frozen (p := ⟨g, _, none⟩) hg).trans f2
  have z3 : x9.w.frozen? ⟨g, k * 4 + 3, none⟩ = _ := (hb9.frozen (p := ⟨g, _, none⟩) hg).trans f3
  have hg9 : g < x9.w.heap.size := Nat.lt_of_lt_of_le hg hb9.size
  obtain ⟨w9, hw9⟩ : ∃ W, x9.w = W := ⟨_, rfl⟩
  rw [hw9] at HB9 b0 b1 b2 c1 c2 c3 c4 c5 z0 z1 z2 z3 hg9 ⊢
  have hcf : decide (0 ≤ C) = false := by simpa using hc
  rw [hcf]
  clear hb9 hw9 a0 a1 a2 a3 e1 f0 f1 f2 f3 hc hcf HC
  go_region_law (fail)
  all_goals go_wp2_with fail
  all_goals go_ret
  all_goals exact ⟨rfl, set_done q often L ⟨⟨n, i, s⟩, 0⟩ HH.out he.out hkl HB9.out⟩

/-- Put, whole. -/
theorem put_any (q often : Nat) (L : List Td) (c : Cl) (w : World) (F : Nat → Prop) (h : RefQ q often L w F) (hL : L.length ≤ 1000) :
    Calls Try.prog 15 #[.pointer (some ⟨q, 0, none⟩), c.val] w fun e w' => e = .returned (.bool (putOf L c).2) ∧ QEnd q often (putOf L c).1 F w w' := by
  by_cases hbad : mayK c = false ∨ nothingK c = true
  · have e : putOf L c = (L, false) := by unfold putOf; rw [if_pos hbad]
    rw [e]
    exact (put_bad q often L c w hbad).mono' fun x => ⟨rfl, qEnd_later h x⟩
  · have hm : mayK c = true := by cases hm : mayK c <;> simp_all
    have hn : nothingK c = false := by cases hn : nothingK c <;> simp_all
    cases hf : L.findIdx? (fun t => t.c.n == c.n) with
    | none =>
      have e : putOf L c = (L ++ [⟨c, 0⟩], true) := by unfold putOf; rw [if_neg hbad, hf]
      rw [e]
      exact put_new q often L c w F h hL hm hn (by simp [atIx, hf])
    | some k =>
      have hk : k < L.length := (List.findIdx?_eq_some_iff_getElem.1 hf).1
      have hg : L[k]? = some L[k] := List.getElem?_eq_getElem hk
      by_cases hc : 0 ≤ cmpK L[k].c c
      · have e : putOf L c = (L, false) := by unfold putOf; rw [if_neg hbad, hf]; simp only [hg, if_pos hc]
        rw [e]
        exact (put_low q often L c w F h hL hm hn k _ hg (by simp [atIx, hf]) hc).mono' fun x => ⟨rfl, qEnd_later h x⟩
      · have e : putOf L c = (L.set k ⟨c, 0⟩, true) := by unfold putOf; rw [if_neg hbad, hf]; simp only [hg, if_neg hc]
        rw [e]
        exact put_up q often L c w F h hL hm hn k _ hg (by simp [atIx, hf]) hc
end Go.Proofs.Ytlcmehighgmoeaa
