/- The reference's queue: New, At. -/
import Derived.Test.YtlcmehighgmoeaaCl
import Derived.LoopTactic
import Derived.OwnWalk
namespace Go.Proofs.Ytlcmehighgmoeaa
open Go Go.RowKit

/-- The reference's queue at block q: its list, and the blocks that it owns. -/
def RefQ (q : Nat) (often : Nat) (L : List Td) (W : World) (F : Nat → Prop) : Prop :=
  ∃ v, W.heap[q]? = some (.cells #[.int .i64 often, v] 38 (0, 0)) ∧ W.ownsRow 0 43 4 v L.length (cellsT L) ∧ ∀ k, F k ↔ (k = q ∨ v.ownBlock = some k)
theorem refQ_owns (q often : Nat) (L : List Td) : Owns (RefQ q often L) where
  lt W F h k hk := by
    obtain ⟨v, hq, hr, hF⟩ := h
    rcases (hF k).1 hk with rfl | h1
    · exact (Array.getElem?_eq_some_iff.1 hq).1
    · exact (hr.lt k h1).2
  kept W W' F h hs hk := by
    obtain ⟨v, hq, hr, hF⟩ := h
    refine ⟨v, (hk q ((hF q).2 (.inl rfl))).trans hq, ⟨hr.1, ?_⟩, hF⟩
    rcases hr.2 with h1 | ⟨g, cap, cur, rfl, hb, hg, rest⟩
    · exact .inl h1
    · exact .inr ⟨g, cap, cur, rfl, hb, (hk g ((hF g).2 (.inr rfl))).trans hg, rest⟩

/-- What a walk wants of it. -/
structure RefCells (W : World) (q often : Nat) (L : List Td) (p : Option Addr) (cap : Nat) : Prop where
  lt : q < W.heap.size
  h0 : W.cell? ⟨q, 0, none⟩ = some (.int .i64 often)
  h1 : W.cell? ⟨q, 1, none⟩ = some (.slice p L.length cap)
  f1 : W.frozen? ⟨q, 1, none⟩ = false
  row : L = [] ∨ ∃ g, p = some ⟨g, 0, none⟩ ∧ g < W.heap.size ∧ g ≠ q ∧ (∀ j, W.frozen? ⟨g, j, none⟩ = false) ∧ ∀ k t, L[k]? = some t → W.cell? ⟨g, k * 4, none⟩ = some (.int .i64 t.c.n) ∧ W.cell? ⟨g, k * 4 + 1, none⟩ = some (.int .i64 t.c.i) ∧ W.cell? ⟨g, k * 4 + 2, none⟩ = some (.int .i64 t.c.h) ∧ W.cell? ⟨g, k * 4 + 3, none⟩ = some (.int .i64 t.n)
theorem RefQ.cells {q often : Nat} {L : List Td} {W : World} {F : Nat → Prop} (h : RefQ q often L W F) : ∃ p cap, RefCells W q often L p cap := by
  obtain ⟨v, hq, hr, hF⟩ := h
  have hlt := (Array.getElem?_eq_some_iff.1 hq).1
  have e0 : W.cell? ⟨q, 0, none⟩ = some (.int .i64 often) := by simp [World.cell?, hq]
  have e1 : W.cell? ⟨q, 1, none⟩ = some v := by simp [World.cell?, hq]
  have e2 : W.frozen? ⟨q, 1, none⟩ = false := by simp [World.frozen?, hq]
  have hc := fun g (hg : v.ownBlock = some g) => hr.cells hg
  have hl := hr.lt
  rcases hr.2 with ⟨rfl, hn⟩ | ⟨g, cap, cur, rfl, hb, hg, _⟩
  · exact ⟨none, 0, hlt, e0, by rw [e1, hn], e2, .inl (List.eq_nil_of_length_eq_zero hn)⟩
  · refine ⟨_, cap, hlt, e0, e1, e2, .inr ⟨g, rfl, (hl g rfl).2, ?_, fun j => by simp [World.frozen?, hg], fun k t hk => ?_⟩⟩
    · rintro rfl
      rw [hq] at hg
      simp at hg
    · obtain ⟨a0, a1, a2, a3⟩ := cellsT_at L k t hk
      have := hc g rfl
      simp only [addr_at] at this
      exact ⟨this _ _ a0, this _ _ a1, this _ _ a2, this _ _ a3⟩
theorem RefCells.later {W : World} {q often : Nat} {L : List Td} {p : Option Addr} {cap : Nat} (h : RefCells W q often L p cap) {W' : World} (hb : Below W.heap.size W W') : RefCells W' q often L p cap := by
  refine ⟨Nat.lt_of_lt_of_le h.lt hb.size, (hb.cell (p := ⟨q, _, none⟩) h.lt).trans h.h0, (hb.cell (p := ⟨q, _, none⟩) h.lt).trans h.h1, (hb.frozen (p := ⟨q, _, none⟩) h.lt).trans h.f1, ?_⟩
  rcases h.row with h1 | ⟨g, hp, hlt, hne, hf, hc⟩
  · exact .inl h1
  · exact .inr ⟨g, hp, Nat.lt_of_lt_of_le hlt hb.size, hne, fun j => (hb.frozen (p := ⟨g, _, none⟩) hlt).trans (hf j), fun k t hk => by
      obtain ⟨a0, a1, a2, a3⟩ := hc k t hk
      exact ⟨(hb.cell (p := ⟨g, _, none⟩) hlt).trans a0, (hb.cell (p := ⟨g, _, none⟩) hlt).trans a1, (hb.cell (p := ⟨g, _, none⟩) hlt).trans a2, (hb.cell (p := ⟨g, _, none⟩) hlt).trans a3⟩⟩

theorem newRefQ (w : World) (x : Int) (k : Nat) (hx : x = k) : RefQ w.heap.size k [] (w.alloc (.cells #[.int .i64 x, .slice none 0 0] 38)) (fun j => j = w.heap.size) := by
  subst hx
  exact ⟨.slice none 0 0, heap_alloc_new _ _, World.ownsRow_nil _ _ _ _, fun j => by simp [Value.ownBlock]⟩

set_option maxHeartbeats 1000000 in
set_option maxRecDepth 100000 in
theorem newQ_any (often : Int) (w : World) (k : Nat) (hk : max 1 (min often 20) = (k : Int)) : Calls Try.prog 10 #[.int .i64 often] w fun e w' => e = .returned (.pointer (some ⟨w.heap.size, 0, none⟩)) ∧ RefQ w.heap.size k [] w' (fun j => j = w.heap.size) ∧ Below w.heap.size w w' := by
  have HK := Lib.hid hk
  clear hk
  go_enter Try.func10, Try.ntmps10
  go_wp2
  all_goals go_ret
  all_goals exact ⟨rfl, newRefQ _ _ k (by have := HK.out; omega), (Below.refl _ _).alloc (Nat.le_refl _) _⟩

/-- Where a node's claim stands. -/
def atIx (L : List Td) (n : Int) : Int := match L.findIdx? (fun t => t.c.n == n) with | some k => k | none => -1
theorem atIx_hit {L : List Td} {n : Int} {k : Nat} {t : Td} (hk : L[k]? = some t) (ht : t.c.n = n) (hb : ∀ j, j < k → ∀ u, L[j]? = some u → u.c.n ≠ n) : atIx L n = k := by
  obtain ⟨hlt, rfl⟩ := List.getElem?_eq_some_iff.1 hk
  have : L.findIdx? (fun t => t.c.n == n) = some k := by
    rw [List.findIdx?_eq_some_iff_getElem]
    exact ⟨hlt, by simp [ht], fun j hj => by simpa using hb j hj _ (List.getElem?_eq_getElem (by omega))⟩
  simp [atIx, this]
theorem atIx_none {L : List Td} {n : Int} (hb : ∀ j, j < L.length → ∀ u, L[j]? = some u → u.c.n ≠ n) : atIx L n = -1 := by
  have : L.findIdx? (fun t => t.c.n == n) = none := by
    rw [List.findIdx?_eq_none_iff]
    intro x hx
    obtain ⟨j, hj, rfl⟩ := List.getElem_of_mem hx
    simpa using hb j hj _ (List.getElem?_eq_getElem hj)
  simp [atIx, this]

set_option maxHeartbeats 1000000 in
set_option maxRecDepth 100000 in
theorem at_any (q often : Nat) (L : List Td) (n : Int) (w : World) (F : Nat → Prop) (h : RefQ q often L w F) (hL : L.length ≤ 1000) : Gives Try.prog 18 #[.pointer (some ⟨q, 0, none⟩), .int .i64 n] w (.int .i64 (atIx L n)) := by
  unfold Gives
  obtain ⟨p, cap, hc⟩ := h.cells
  have hlt := hc.lt
  have hh1 := hc.h1
  have HC := Lib.hid hc
  clear h hc
  go_enter Try.func18, Try.ntmps18
  go_wp2_with fail
  clear hh1
  go_loopw [12] (fun i wr => ∃ k : Nat, k ≤ L.length ∧ i = .int .i64 k ∧ (∀ j, j < k → ∀ u, L[j]? = some u → u.c.n ≠ n) ∧ ∃ x : Later w, wr = x.w) (fun i _ => L.length - (intOf i).toNat)
  case atStart => exact ⟨0, by omega, rfl, fun j hj => by omega, ⟨w, Below.refl _ _⟩, rfl⟩
  case round =>
    obtain ⟨k, hk, rfl, hno, x, rfl⟩ := hrel
    have HN := Lib.hid hno
    clear hno
    by_cases hkl : k < L.length
    · obtain ⟨⟨⟨m, i, s⟩, t⟩, hkc⟩ : ∃ t, L[k]? = some t := ⟨_, List.getElem?_eq_getElem hkl⟩
      rcases HC.out.row with h0 | ⟨g, rfl, hg, hgq, _, hcell⟩
      · rw [h0] at hkl; simp at hkl
      obtain ⟨a0, a1, a2, a3⟩ := hcell k _ hkc
      have hc0 : x.w.cell? ⟨g, k * 4, none⟩ = some (.int .i64 m) := (x.below.cell (p := ⟨g, _, none⟩) hg).trans a0
      have hc1 : x.w.cell? ⟨g, k * 4 + 1, none⟩ = some (.int .i64 i) := (x.below.cell (p := ⟨g, _, none⟩) hg).trans a1
      have hc2 : x.w.cell? ⟨g, k * 4 + 2, none⟩ = some (.int .i64 s) := (x.below.cell (p := ⟨g, _, none⟩) hg).trans a2
      have hc3 : x.w.cell? ⟨g, k * 4 + 3, none⟩ = some (.int .i64 t) := (x.below.cell (p := ⟨g, _, none⟩) hg).trans a3
      clear a0 a1 a2 a3 hcell
      have HK := Lib.hid hkc
      clear hkc
      by_cases hn : ((m : Int) == n) = true
      · have HA : Hid (atIx L n = k) := Lib.hid (atIx_hit HK.out (by simpa using hn) HN.out)
        go_wp2_with fail
        go_ret
        exact ⟨by rw [HA.out]; rfl, Later.ex (by repeat (first | exact ext_refl _ | refine ext_later ?_ _ | refine ext_alloc ?_ _ | refine ext_drew ?_ | refine ext_drewN ?_ _))⟩
      · have hn' : ((m : Int) == n) = false := by simpa using hn
        have HM : Hid (m ≠ n) := Lib.hid (by simpa using hn)
        clear hn
        go_wp2_with fail
        go_roundw
        case rel =>
          refine ⟨k + 1, by omega, by go_num, fun j hj u hu => ?_, ⟨x.w.alloc (.cells #[.int .i64 m, .int .i64 i, .int .i64 s, .int .i64 t] 43), ext_alloc x.below _⟩, rfl⟩
          by_cases e : j = k
          · subst e
            rw [HK.out] at hu
            obtain rfl := Option.some.inj hu
            exact HM.out
          · exact HN.out j (by omega) u hu
        case measure => simp [intOf]; omega
    · obtain rfl : k = L.length := by omega
      have HA : Hid (atIx L n = -1) := Lib.hid (atIx_none HN.out)
      go_wp2_with fail
      go_ret
      exact ⟨by rw [HA.out]; rfl, Later.ex (by repeat (first | exact ext_refl _ | refine ext_later ?_ _ | refine ext_alloc ?_ _ | refine ext_drew ?_ | refine ext_drewN ?_ _))⟩
end Go.Proofs.Ytlcmehighgmoeaa
