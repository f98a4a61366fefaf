/- MQue: Rum, RumHas, RumHeap, RumSwap, RumEnds, RumPut, RumOut, RumTake, RumSt, RumAwake, RumBack, RumCnt, RumOftenMath, RumPlaysMath. -/
import Derived.Test.YtjbihgfdgaiecaaGreatPB
import Derived.Deep.WholeRow
import Derived.RegionTactic
import Derived.BigRegion
import Derived.Deep.RegionLaw
import Derived.Deep.Cut
import Derived.Laws.OwnMore
import Derived.BigQuiet
import Derived.Deep.DeepCutAuto
namespace Go.Proofs.YtjbihgfdgaiecaaGreat
section
open Go Go.RowKit
def RumQ (q : Nat) (often : Nat) (L : List Td) (W : World) (F : Nat → Prop) : Prop :=
 ∃ v, W.heap[q]? = some (.cells #[.int .i64 often, v] 107 (0, 0)) ∧ W.ownsRow 0 142 4 v L.length (cellsT L) ∧ ∀ k, F k ↔ (k = q ∨ v.ownBlock = some k)
theorem rumQ_owns (q often : Nat) (L : List Td) : Owns (RumQ q often L) where
 lt W F h k hk := by
  obtain ⟨v, hq, hr, hF⟩ := h
  rcases (hF k).1 hk with rfl | h1
  ·exact (Array.getElem?_eq_some_iff.1 hq).1
  ·exact (hr.lt k h1).2
 kept W W' F h hs hk := by
  obtain ⟨v, hq, hr, hF⟩ := h
  refine ⟨v, (hk q ((hF q).2 (.inl rfl))).trans hq, ⟨hr.1, ?_⟩, hF⟩
  rcases hr.2 with h1 | ⟨g, cap, cur, rfl, hb, hg, rest⟩
  ·exact .inl h1
  ·exact .inr ⟨g, cap, cur, rfl, hb, (hk g ((hF g).2 (.inr rfl))).trans hg, rest⟩
structure RumCells (W : World) (q often : Nat) (L : List Td) (p : Option Addr) (cap : Nat) : Prop where
 lt : q < W.heap.size
 h0 : W.cell? ⟨q, 0, none⟩ = some (.int .i64 often)
 h1 : W.cell? ⟨q, 1, none⟩ = some (.slice p L.length cap)
 f1 : W.frozen? ⟨q, 1, none⟩ = false
 row : L = [] ∨ ∃ g, p = some ⟨g, 0, none⟩ ∧ g < W.heap.size ∧ g ≠ q ∧ (∀ j, W.frozen? ⟨g, j, none⟩ = false) ∧ ∀ k t, L[k]? = some t → W.cell? ⟨g, k * 4, none⟩ = some (.int .i64 t.c.n) ∧ W.cell? ⟨g, k * 4 + 1, none⟩ = some (.int .i64 t.c.i) ∧ W.cell? ⟨g, k * 4 + 2, none⟩ = some (.int .i64 t.c.h) ∧ W.cell? ⟨g, k * 4 + 3, none⟩ = some (.int .i64 t.n)
theorem RumQ.cells {q often : Nat} {L : List Td} {W : World} {F : Nat → Prop} (h : RumQ q often L W F) : ∃ p cap, RumCells W q often L p cap := by
 obtain ⟨v, hq, hr, hF⟩ := h
 have hlt := (Array.getElem?_eq_some_iff.1 hq).1
 have e0 : W.cell? ⟨q, 0, none⟩ = some (.int .i64 often) := by simp [World.cell?, hq]
 have e1 : W.cell? ⟨q, 1, none⟩ = some v := by simp [World.cell?, hq]
 have e2 : W.frozen? ⟨q, 1, none⟩ = false := by simp [World.frozen?, hq]
 have hc := fun g (hg : v.ownBlock = some g) => hr.cells hg
 have hl := hr.lt
 rcases hr.2 with ⟨rfl, hn⟩ | ⟨g, cap, cur, rfl, hb, hg, _⟩
 ·exact ⟨none, 0, hlt, e0, by rw [e1, hn], e2, .inl (List.eq_nil_of_length_eq_zero hn)⟩
 ·refine ⟨_, cap, hlt, e0, e1, e2, .inr ⟨g, rfl, (hl g rfl).2, ?_, fun j => by simp [World.frozen?, hg], fun k t hk => ?_⟩⟩
  ·rintro rfl
   rw [hq] at hg
   simp at hg
  ·obtain ⟨a0, a1, a2, a3⟩ := cellsT_at L k t hk
   have := hc g rfl
   simp only [addr_at] at this
   exact ⟨this _ _ a0, this _ _ a1, this _ _ a2, this _ _ a3⟩
theorem RumCells.later {W : World} {q often : Nat} {L : List Td} {p : Option Addr} {cap : Nat} (h : RumCells W q often L p cap) {W' : World} (hb : Below W.heap.size W W') : RumCells W' q often L p cap := by
 refine ⟨Nat.lt_of_lt_of_le h.lt hb.size, (hb.cell (p := ⟨q, _, none⟩) h.lt).trans h.h0, (hb.cell (p := ⟨q, _, none⟩) h.lt).trans h.h1, (hb.frozen (p := ⟨q, _, none⟩) h.lt).trans h.f1, ?_⟩
 rcases h.row with h1 | ⟨g, hp, hlt, hne, hf, hc⟩
 ·exact .inl h1
 ·exact .inr ⟨g, hp, Nat.lt_of_lt_of_le hlt hb.size, hne, fun j => (hb.frozen (p := ⟨g, _, none⟩) hlt).trans (hf j), fun k t hk => by
   obtain ⟨a0, a1, a2, a3⟩ := hc k t hk
   exact ⟨(hb.cell (p := ⟨g, _, none⟩) hlt).trans a0, (hb.cell (p := ⟨g, _, none⟩) hlt).trans a1, (hb.cell (p := ⟨g, _, none⟩) hlt).trans a2, (hb.cell (p := ⟨g, _, none⟩) hlt).trans a3⟩⟩
theorem newRumQ (w : World) (x : Int) (k : Nat) (hx : x = k) : RumQ w.heap.size k [] (w.alloc (.cells #[.int .i64 x, .slice none 0 0] 107)) (fun j => j = w.heap.size) := by
 subst hx
 exact ⟨.slice none 0 0, heap_alloc_new _ _, World.ownsRow_nil _ _ _ _, fun j => by simp [Value.ownBlock]⟩
set_option maxHeartbeats 1000000 in
set_option maxRecDepth 100000 in
theorem newR_any (often : Int) (w : World) (k : Nat) (hk : min (max often 1) 20 = (k : Int)) : Calls Tryz.prog 27 #[.int .i64 often] w fun e w' => e = .returned (.pointer (some ⟨w.heap.size, 0, none⟩)) ∧ RumQ w.heap.size k [] w' (fun j => j = w.heap.size) ∧ Below w.heap.size w w' := by
 have HK := Lib.hid hk
 clear hk
 go_enter Tryz.func27, Tryz.ntmps27
 go_wp2
 all_goals go_ret
 all_goals exact ⟨rfl, newRumQ _ _ k (by have := HK.out; omega), (Below.refl _ _).alloc (Nat.le_refl _) _⟩
set_option maxHeartbeats 1000000 in
set_option maxRecDepth 100000 in
theorem isOf_any (t : Td) (b : Nat) (m : Int) (w : World) (hb : b < w.heap.size) (hc : w.cell? ⟨b, 0, none⟩ = some (.int .i64 m)) : Gives Tryz.prog 108 #[.agg #[.int .i64 t.c.n, .int .i64 t.c.i, .int .i64 t.c.h, .int .i64 t.n], .pointer (some ⟨b, 0, none⟩)] w (.bool (t.c.n == m)) := by
 unfold Gives
 have hne : b ≠ w.heap.size := by omega
 obtain ⟨⟨n, i, s⟩, k⟩ := t
 dsimp only
 obtain ⟨K, hK⟩ : ∃ K : Int, (k : Int) = K := ⟨_, rfl⟩
 rw [hK]
 clear hK
 go_enter Tryz.func108, Tryz.ntmps108
 go_wp2_with fail
 go_ret
 exact ⟨rfl, Later.ex (by repeat (first | exact ext_refl _ | refine ext_later ?_ _ | refine ext_alloc ?_ _ | refine ext_drew ?_ | refine ext_drewN ?_ _))⟩
set_option maxHeartbeats 1000000 in
set_option maxRecDepth 100000 in
theorem indexFunc_any (q often : Nat) (L : List Td) (b : Nat) (n : Int) (p : Option Addr) (cap : Nat) (w : World) (hc : RumCells w q often L p cap) (hb : b < w.heap.size) (hn : w.cell? ⟨b, 0, none⟩ = some (.int .i64 n)) (hL : L.length ≤ 1000) : Gives Tryz.prog 107 #[.slice p L.length cap, .func (.func 108) #[] #[.pointer (some ⟨b, 0, none⟩)]] w (.int .i64 (atIx L n)) := by
 unfold Gives
 have HC := Lib.hid hc
 clear hc
 go_enter Tryz.func107, Tryz.ntmps107
 go_wp2_with fail
 go_loopw [5, 8] (fun _ i wr => ∃ k : Nat, k ≤ L.length ∧ i = .int .i64 k ∧ (∀ j, j < k → ∀ u, L[j]? = some u → u.c.n ≠ n) ∧ ∃ x : Later w, wr = x.w) (fun _ i _ => L.length - (intOf i).toNat)
 case atStart => exact ⟨0, by omega, rfl, fun j hj => by omega, ⟨w, Below.refl _ _⟩, rfl⟩
 case round =>
  obtain ⟨k, hk, rfl, hno, x, rfl⟩ := hrel
  have HN := Lib.hid hno
  clear hno
  by_cases hkl : k < L.length
  ·obtain ⟨t, hkc⟩ : ∃ t, L[k]? = some t := ⟨_, List.getElem?_eq_getElem hkl⟩
   rcases HC.out.row with h0 | ⟨g, rfl, hg, hgq, _, hcell⟩
   ·rw [h0] at hkl; simp at hkl
   have HI := Lib.hid (isOf_any t b n x.w (Nat.lt_of_lt_of_le hb x.below.size) ((x.below.cell (p := ⟨b, _, none⟩) hb).trans hn))
   obtain ⟨⟨m, i, s⟩, t⟩ := t
   obtain ⟨a0, a1, a2, a3⟩ := hcell k _ hkc
   have hc0 : x.w.cell? ⟨g, k * 4, none⟩ = some (.int .i64 m) := (x.below.cell (p := ⟨g, _, none⟩) hg).trans a0
   have hc1 : x.w.cell? ⟨g, k * 4 + 1, none⟩ = some (.int .i64 i) := (x.below.cell (p := ⟨g, _, none⟩) hg).trans a1
   have hc2 : x.w.cell? ⟨g, k * 4 + 2, none⟩ = some (.int .i64 s) := (x.below.cell (p := ⟨g, _, none⟩) hg).trans a2
   have hc3 : x.w.cell? ⟨g, k * 4 + 3, none⟩ = some (.int .i64 t) := (x.below.cell (p := ⟨g, _, none⟩) hg).trans a3
   clear a0 a1 a2 a3 hcell
   have HK := Lib.hid hkc
   clear hkc
   dsimp only at HI
   cases hm : ((m : Int) == n) with
   | true =>
    rw [hm] at HI
    have HA : Hid (atIx L n = k) := Lib.hid (atIx_hit HK.out (by simpa using hm) HN.out)
    go_wp2_with fail
    refine Gives.on HI.out ?_
    intro x2
    go_wp2_with fail
    go_ret
    exact ⟨by rw [HA.out]; rfl, Later.ex (by repeat (first | exact ext_refl _ | refine ext_later ?_ _ | refine ext_alloc ?_ _ | refine ext_drew ?_ | refine ext_drewN ?_ _))⟩
   | false =>
    rw [hm] at HI
    have HM : Hid (m ≠ n) := Lib.hid (by simpa using hm)
    go_wp2_with fail
    refine Gives.on HI.out ?_
    intro x2
    go_wp2_with fail
    go_roundw
    case rel =>
     refine ⟨k + 1, by omega, by go_num, fun j hj u hu => ?_, x2, rfl⟩
     by_cases e : j = k
     ·subst e
      rw [HK.out] at hu
      obtain rfl := Option.some.inj hu
      exact HM.out
     ·exact HN.out j (by omega) u hu
    case measure => simp [intOf]; omega
  ·obtain rfl : k = L.length := by omega
   have HA : Hid (atIx L n = -1) := Lib.hid (atIx_none HN.out)
   go_wp2_with fail
   go_ret
   exact ⟨by rw [HA.out]; rfl, Later.ex (by repeat (first | exact ext_refl _ | refine ext_later ?_ _ | refine ext_alloc ?_ _ | refine ext_drew ?_ | refine ext_drewN ?_ _))⟩
set_option maxHeartbeats 1000000 in
set_option maxRecDepth 100000 in
theorem indexOf_any (q often : Nat) (L : List Td) (n : Int) (p : Option Addr) (cap : Nat) (w : World) (hc : RumCells w q often L p cap) (hL : L.length ≤ 1000) : Gives Tryz.prog 89 #[.slice p L.length cap, .int .i64 n] w (.int .i64 (atIx L n)) := by
 unfold Gives
 have HI := Lib.hid (indexFunc_any q often L w.heap.size n p cap (w.alloc (.cells #[.int .i64 n] 3)) (hc.later (ext_alloc (ext_refl w) _)) (by simp) (by simp) hL)
 clear hc
 go_enter Tryz.func89, Tryz.ntmps89
 go_wp2_with fail
 refine Gives.mono' HI.out ?_
 intro x
 go_wp2_with fail
 go_ret
 exact ⟨rfl, Later.ex (by repeat (first | exact ext_refl _ | refine ext_later ?_ _ | refine ext_alloc ?_ _ | refine ext_drew ?_ | refine ext_drewN ?_ _))⟩
end
section
open Go Go.RowKit
def hasOf (L : List Td) (n : Int) : Option Td := L.find? (fun t => t.c.n == n)
theorem find_ix (L : List Td) (n : Int) : (hasOf L n = none ∧ atIx L n = -1) ∨ ∃ (k : Nat) (t : Td), hasOf L n = some t ∧ L[k]? = some t ∧ atIx L n = k ∧ t.c.n = n := by
 cases hf : L.findIdx? (fun t => t.c.n == n) with
 | none =>
  refine .inl ⟨?_, by simp [atIx, hf]⟩
  rw [List.findIdx?_eq_none_iff] at hf
  unfold hasOf
  rw [List.find?_eq_none]
  intro x hx
  simpa using hf x hx
 | some k =>
  rw [List.findIdx?_eq_some_iff_getElem] at hf
  obtain ⟨hlt, h1, h2⟩ := hf
  refine .inr ⟨k, L[k], ?_, List.getElem?_eq_getElem hlt, ?_, by simpa using h1⟩
  ·unfold hasOf
   rw [List.find?_eq_some_iff_getElem]
   exact ⟨h1, k, hlt, rfl, fun j hj => by simpa using h2 j hj⟩
  ·exact atIx_hit (List.getElem?_eq_getElem hlt) (by simpa using h1) fun j hj u hu => by
    obtain ⟨hjl, rfl⟩ := List.getElem?_eq_some_iff.1 hu
    simpa using h2 j hj
end
section
open Go Go.RowKit
theorem infoTelling : (Tryz.prog.info? 142).map (fun i => (i.zero, i.size, i.bytes)) = some (some (.agg #[.int .i64 0, .int .i64 0, .int .i64 0, .int .i64 0]), 4, 32) := by kernel_rfl
instance (t u : Td) : Decidable (t.lt u) := inferInstanceAs (Decidable (t.n < u.n ∨ (t.n = u.n ∧ t.c.n < u.c.n)))
def lessT (t u : Td) : Bool := decide (t.lt u)
theorem lessT_ordered : Ordered lessT := ⟨fun x y h => by unfold lessT at *; simp only [decide_eq_true_eq, decide_eq_false_iff_not] at *; exact Td.lt_asymm h, fun x y z h1 h2 => by unfold lessT at *; simp only [decide_eq_false_iff_not] at *; unfold Td.lt at *; omega⟩
def REnd (q often : Nat) (L : List Td) (F : Nat → Prop) (W W' : World) : Prop := ∃ F', RumQ q often L W' F' ∧ Fr F W W' ∧ ∀ k, F' k → F k ∨ W.heap.size ≤ k
theorem rEnd_refl {q often : Nat} {L : List Td} {F : Nat → Prop} {W : World} (h : RumQ q often L W F) : REnd q often L F W W := ⟨F, h, Fr.refl _ _, fun _ hk => .inl hk⟩
theorem REnd.step {q often : Nat} {L' : List Td} {F F1 : Nat → Prop} {W W1 W2 : World} (hf : Fr F W W1) (hs : ∀ k, F1 k → F k ∨ W.heap.size ≤ k) (h : REnd q often L' F1 W1 W2) : REnd q often L' F W W2 := by
 obtain ⟨F2, h1, h2, h3⟩ := h
 refine ⟨F2, h1, hf.trans h2 hs, fun k hk => ?_⟩
 rcases h3 k hk with h | h
 ·exact hs k h
 ·exact .inr (Nat.le_trans hf.size h)
theorem REnd.later {q often : Nat} {L : List Td} {F : Nat → Prop} {W W1 : World} (h : REnd q often L F W W1) (x : Later W1) : REnd q often L F W x.w := by
 obtain ⟨F1, h1, h2, h3⟩ := h
 exact ⟨F1, (rumQ_owns q often L).kept W1 x.w F1 h1 x.below.size (fun k hk => x.below.block k ((rumQ_owns q often L).lt W1 F1 h1 k hk)), h2.later x, h3⟩
abbrev hpV (q : Nat) : Value := .iface 140 (.pointer (some ⟨q, 1, none⟩))
def encT (t : Td) : Value := .iface 142 (.agg #[.int .i64 t.c.n, .int .i64 t.c.i, .int .i64 t.c.h, .int .i64 t.n])
theorem load_waiting {q often : Nat} {L : List Td} {W : World} {p : Option Addr} {cap : Nat} (hc : RumCells W q often L p cap) : (loadVar 105 ⟨q, 1, none⟩).run Tryz.prog W = .ok (.slice p L.length cap) W := by
 have h1 := hc.h1
 simp [loadVar, isAgg, go_sem, h1]
set_option maxHeartbeats 1000000 in
set_option maxRecDepth 100000 in
theorem len_calls (p : Option Addr) (n cap : Nat) (w : World) : Gives Tryz.prog 136 #[.slice p n cap] w (.int .i64 n) := by
 unfold Gives
 go_enter Tryz.func136, Tryz.ntmps136
 go_wp2_with fail
 go_ret
 exact ⟨rfl, Later.ex (by repeat (first | exact ext_refl _ | refine ext_later ?_ _ | refine ext_alloc ?_ _ | refine ext_drew ?_ | refine ext_drewN ?_ _))⟩
theorem lessT_told {t u : Td} (h : t.n ≠ u.n) : lessT t u = decide ((t.n : Int) < u.n) := by
 unfold lessT
 rw [decide_eq_decide]
 unfold Td.lt
 omega
theorem lessT_node {t u : Td} (h : t.n = u.n) : lessT t u = decide (t.c.n < u.c.n) := by
 unfold lessT
 rw [decide_eq_decide]
 unfold Td.lt
 omega
set_option maxHeartbeats 1000000 in
set_option maxRecDepth 100000 in
theorem less_calls (q often : Nat) (L : List Td) (p : Option Addr) (cap : Nat) (w : World) (hc : RumCells w q often L p cap) (i j : Nat) (x y : Td) (hi : L[i]? = some x) (hj : L[j]? = some y) :
  Gives Tryz.prog 137 #[.slice p L.length cap, .int .i64 i, .int .i64 j] w (.bool (lessT x y)) := by
 unfold Gives
 have hil := (List.getElem?_eq_some_iff.1 hi).1
 have hjl := (List.getElem?_eq_some_iff.1 hj).1
 rcases hc.row with h0 | ⟨g, rfl, hg, hgq, _, hcell⟩
 ·rw [h0] at hil; simp at hil
 obtain ⟨a0, _, _, a3⟩ := hcell i _ hi
 obtain ⟨b0, _, _, b3⟩ := hcell j _ hj
 have HT := Lib.hid (@lessT_told x y)
 have HN := Lib.hid (@lessT_node x y)
 obtain ⟨⟨m, xi, xs⟩, t⟩ := x
 obtain ⟨⟨n, yi, ys⟩, u⟩ := y
 dsimp only at a0 a3 b0 b3 HT HN
 have hTU : Hid (t = u ↔ (t : Int) = u) := Lib.hid (by omega)
 obtain ⟨T, hT⟩ : ∃ T : Int, (t : Int) = T := ⟨_, rfl⟩
 obtain ⟨U, hU⟩ : ∃ T : Int, (u : Int) = T := ⟨_, rfl⟩
 rw [hT] at a3 HT hTU
 rw [hU] at b3 HT hTU
 obtain ⟨N, hN⟩ : ∃ N : Nat, L.length = N := ⟨_, rfl⟩
 rw [hN] at hil hjl ⊢
 clear hcell hi hj hT hU hN hc
 by_cases e : T = U
 ·have e1 : (T != U) = false := by simpa using e
  have HV := Lib.hid (HN.out (hTU.out.2 e))
  clear HT HN e hTU
  go_enter Tryz.func137, Tryz.ntmps137
  go_wp2_with fail
  go_quiet (fail)
  go_wp2_with fail
  go_quiet (fail)
  go_wp2_with fail
  go_ret
  exact ⟨by rw [HV.out]; rfl, Later.ex (by repeat (first | exact ext_refl _ | refine ext_later ?_ _ | refine ext_alloc ?_ _ | refine ext_drew ?_ | refine ext_drewN ?_ _))⟩
 ·have e1 : (T != U) = true := by simpa using e
  have HV := Lib.hid (HT.out (fun h => e (hTU.out.1 h)))
  clear HT HN e hTU
  go_enter Tryz.func137, Tryz.ntmps137
  go_wp2_with fail
  go_quiet (fail)
  go_wp2_with fail
  go_quiet (fail)
  go_wp2_with fail
  go_ret
  exact ⟨by rw [HV.out]; rfl, Later.ex (by repeat (first | exact ext_refl _ | refine ext_later ?_ _ | refine ext_alloc ?_ _ | refine ext_drew ?_ | refine ext_drewN ?_ _))⟩
end
section
open Go Go.RowKit
theorem swap_done {q often : Nat} {L : List Td} {W : World} {F : Nat → Prop} {g cap i j : Nat} {x y : Td} (h : RumQ q often L W F) (he : W.cell? ⟨q, 1, none⟩ = some (.slice (some ⟨g, 0, none⟩) L.length cap)) (hi : L[i]? = some x) (hj : L[j]? = some y) :
  REnd q often (swapL L i j) F W ((((((((W.setCell ⟨g, i * 4, none⟩ (.int .i64 y.c.n)).setCell ⟨g, i * 4 + 1, none⟩ (.int .i64 y.c.i)).setCell ⟨g, i * 4 + 2, none⟩ (.int .i64 y.c.h)).setCell ⟨g, i * 4 + 3, none⟩ (.int .i64 y.n)).setCell ⟨g, j * 4, none⟩ (.int .i64 x.c.n)).setCell ⟨g, j * 4 + 1, none⟩ (.int .i64 x.c.i)).setCell ⟨g, j * 4 + 2, none⟩ (.int .i64 x.c.h)).setCell ⟨g, j * 4 + 3, none⟩ (.int .i64 x.n)) := by
 obtain ⟨v, hq, hr, hF⟩ := h
 obtain rfl : v = .slice (some ⟨g, 0, none⟩) L.length cap := by simpa [World.cell?, hq] using he
 have hil := (List.getElem?_eq_some_iff.1 hi).1
 have hjl := (List.getElem?_eq_some_iff.1 hj).1
 have hlt := (Array.getElem?_eq_some_iff.1 hq).1
 have hFg : F g := (hF g).2 (.inr rfl)
 have hg := (hr.lt g rfl).2
 have hne : g ≠ q := by
  rintro rfl
  rcases hr.2 with ⟨h1, _⟩ | ⟨g', cap', cur, hv, _, h1, _⟩
  ·simp at h1
  ·obtain ⟨rfl, _⟩ : g = g' ∧ cap = cap' := by simpa using hv
   rw [hq] at h1
   simp at h1
 rcases hr.2 with ⟨h1, _⟩ | ⟨g', cap', cur, hv, _, hgo, hnc, hcm, hcs, htk⟩
 ·simp at h1
 obtain ⟨rfl, rfl⟩ : g = g' ∧ cap = cap' := by simpa using hv
 obtain ⟨cur1, hg1, hs1, ht1⟩ := row_set y hgo hcs hnc hil htk
 have hjl' : j < (L.set i y).length := by simpa using hjl
 obtain ⟨cur2, hg2, hs2, ht2⟩ := row_set x hg1 hs1 (by rw [List.length_set]; exact hnc) hjl' ht1
 rw [swapL_some hi hj]
 have hlen : ((L.set i y).set j x).length = L.length := by simp
 have hq2 := (Below.heap_setCell ((((((((W.setCell ⟨g, i * 4, none⟩ (.int .i64 y.c.n)).setCell ⟨g, i * 4 + 1, none⟩ (.int .i64 y.c.i)).setCell ⟨g, i * 4 + 2, none⟩ (.int .i64 y.c.h)).setCell ⟨g, i * 4 + 3, none⟩ (.int .i64 y.n)).setCell ⟨g, j * 4, none⟩ (.int .i64 x.c.n)).setCell ⟨g, j * 4 + 1, none⟩ (.int .i64 x.c.i)).setCell ⟨g, j * 4 + 2, none⟩ (.int .i64 x.c.h))) ⟨g, j * 4 + 3, none⟩ (.int .i64 x.n) q hne.symm).trans ((Below.heap_setCell _ _ _ _ hne.symm).trans ((Below.heap_setCell _ _ _ _ hne.symm).trans ((Below.heap_setCell _ _ _ _ hne.symm).trans ((Below.heap_setCell _ _ _ _ hne.symm).trans ((Below.heap_setCell _ _ _ _ hne.symm).trans ((Below.heap_setCell _ _ _ _ hne.symm).trans ((Below.heap_setCell _ _ _ _ hne.symm).trans hq)))))))
 have f3 := ((((((((Fr.refl F W).set g (i * 4) (.int .i64 y.c.n) (.inl hFg)).set g (i * 4 + 1) (.int .i64 y.c.i) (.inl hFg)).set g (i * 4 + 2) (.int .i64 y.c.h) (.inl hFg)).set g (i * 4 + 3) (.int .i64 y.n) (.inl hFg)).set g (j * 4) (.int .i64 x.c.n) (.inl hFg)).set g (j * 4 + 1) (.int .i64 x.c.i) (.inl hFg)).set g (j * 4 + 2) (.int .i64 x.c.h) (.inl hFg)).set g (j * 4 + 3) (.int .i64 x.n) (.inl hFg)
 refine ⟨F, ⟨.slice (some ⟨g, 0, none⟩) L.length cap, hq2, ⟨?_, .inr ⟨g, cap, cur2, ?_, Nat.zero_le _, hg2, ?_, hcm, hs2, ht2⟩⟩, hF⟩, f3, fun k hk => .inl hk⟩
 ·rw [cellsT_len]
 ·rw [hlen]
 ·rw [hlen]; exact hnc
theorem REnd.drew {q often : Nat} {L : List Td} {F : Nat → Prop} {W W1 : World} (h : REnd q often L F W W1) : REnd q often L F W W1.drew := h.later ⟨W1.drew, ext_drew (ext_refl W1)⟩
set_option maxHeartbeats 4000000 in
set_option maxRecDepth 100000 in
theorem swap_self (q often : Nat) (L : List Td) (p : Option Addr) (cap : Nat) (w : World) (F : Nat → Prop) (h : RumQ q often L w F) (hc : RumCells w q often L p cap) (i : Nat) (x : Td) (hi : L[i]? = some x) :
  Calls Tryz.prog 138 #[.slice p L.length cap, .int .i64 i, .int .i64 i] w fun e w' => (∃ v, e = .returned v) ∧ REnd q often (swapL L i i) F w w' := by
 have hil := (List.getElem?_eq_some_iff.1 hi).1
 have he := hc.h1
 rcases hc.row with h0 | ⟨g, rfl, hg, hgq, hfz, hcell⟩
 ·rw [h0] at hil; simp at hil
 obtain ⟨a0, a1, a2, a3⟩ := hcell i _ hi
 have f0 := hfz (i * 4)
 have f1 := hfz (i * 4 + 1)
 have f2 := hfz (i * 4 + 2)
 have f3 := hfz (i * 4 + 3)
 have HD := Lib.hid (REnd.drew (@swap_done q often L w F g cap i i x x h he hi hi))
 obtain ⟨⟨m, xi, xs⟩, t⟩ := x
 dsimp only at a0 a1 a2 a3 HD
 obtain ⟨T, hT⟩ : ∃ T : Int, (t : Int) = T := ⟨_, rfl⟩
 rw [hT] at a3 HD
 obtain ⟨N, hN⟩ : ∃ N : Nat, L.length = N := ⟨_, rfl⟩
 rw [hN] at hil ⊢
 clear hfz hcell hi he hc h hT hN
 go_enter Tryz.func138, Tryz.ntmps138
 go_wp2_with fail
 go_region_law (fail)
 all_goals go_wp2_with fail
 all_goals go_end0
 all_goals exact ⟨⟨_, rfl⟩, HD.out⟩
set_option maxHeartbeats 4000000 in
set_option maxRecDepth 100000 in
theorem swap_two (q often : Nat) (L : List Td) (p : Option Addr) (cap : Nat) (w : World) (F : Nat → Prop) (h : RumQ q often L w F) (hc : RumCells w q often L p cap) (i j : Nat) (x y : Td) (hi : L[i]? = some x) (hj : L[j]? = some y) (hij : i ≠ j) :
  Calls Tryz.prog 138 #[.slice p L.length cap, .int .i64 i, .int .i64 j] w fun e w' => (∃ v, e = .returned v) ∧ REnd q often (swapL L i j) F w w' := by
 have hil := (List.getElem?_eq_some_iff.1 hi).1
 have hjl := (List.getElem?_eq_some_iff.1 hj).1
 have he := hc.h1
 rcases hc.row with h0 | ⟨g, rfl, hg, hgq, hfz, hcell⟩
 ·rw [h0] at hil; simp at hil
 obtain ⟨a0, a1, a2, a3⟩ := hcell i _ hi
 obtain ⟨b0, b1, b2, b3⟩ := hcell j _ hj
 have f0 := hfz (i * 4)
 have f1 := hfz (i * 4 + 1)
 have f2 := hfz (i * 4 + 2)
 have f3 := hfz (i * 4 + 3)
 have g0 := hfz (j * 4)
 have g1 := hfz (j * 4 + 1)
 have g2 := hfz (j * 4 + 2)
 have g3 := hfz (j * 4 + 3)
 have HD := Lib.hid (REnd.drew (@swap_done q often L w F g cap i j x y h he hi hj))
 obtain ⟨⟨m, xi, xs⟩, t⟩ := x
 obtain ⟨⟨n, yi, ys⟩, u⟩ := y
 dsimp only at a0 a1 a2 a3 b0 b1 b2 b3 HD
 obtain ⟨T, hT⟩ : ∃ T : Int, (t : Int) = T := ⟨_, rfl⟩
 obtain ⟨U, hU⟩ : ∃ T : Int, (u : Int) = T := ⟨_, rfl⟩
 rw [hT] at a3 HD
 rw [hU] at b3 HD
 obtain ⟨N, hN⟩ : ∃ N : Nat, L.length = N := ⟨_, rfl⟩
 rw [hN] at hil hjl ⊢
 clear hfz hcell hi hj he hc h hT hU hN
 have n0 : ¬ j = i := fun e => hij e.symm
 have n1 : ¬ j * 4 = i * 4 + 1 := by omega
 have n2 : ¬ j * 4 = i * 4 + 2 := by omega
 have n3 : ¬ j * 4 = i * 4 + 3 := by omega
 have m1 : ¬ i * 4 = j * 4 + 1 := by omega
 have m2 : ¬ i * 4 = j * 4 + 2 := by omega
 have m3 : ¬ i * 4 = j * 4 + 3 := by omega
 have k1 : ¬ j * 4 + 1 = i * 4 := by omega
 have k2 : ¬ j * 4 + 2 = i * 4 := by omega
 have k3 : ¬ j * 4 + 3 = i * 4 := by omega
 go_enter Tryz.func138, Tryz.ntmps138
 go_wp2_with fail
 go_region_law (fail)
 all_goals go_wp2_with fail
 all_goals go_end0
 all_goals exact ⟨⟨_, rfl⟩, HD.out⟩
theorem swap_calls (q often : Nat) (L : List Td) (p : Option Addr) (cap : Nat) (w : World) (F : Nat → Prop) (h : RumQ q often L w F) (hc : RumCells w q often L p cap) (i j : Nat) (x y : Td) (hi : L[i]? = some x) (hj : L[j]? = some y) :
  Calls Tryz.prog 138 #[.slice p L.length cap, .int .i64 i, .int .i64 j] w fun e w' => (∃ v, e = .returned v) ∧ REnd q often (swapL L i j) F w w' := by
 by_cases hij : i = j
 ·subst hij
  exact swap_self q often L p cap w F h hc i x hi
 ·exact swap_two q often L p cap w F h hc i j x y hi hj hij
end
section
open Go Go.RowKit
@[simp, go_sem] theorem run_assert_telling (v : Value) (w : World) : (Instr.typeAssert (.iface 142 v) 20 142 false).run Tryz.prog w = .ok v w := by
 simp [Instr.typeAssert, go_sem]
theorem rput_done (q often : Nat) (L : List Td) (t : Td) {w w3 w4 : World} {F : Nat → Prop} {v : Value} {g cap : Nat} {ob : Obj} (hlt : q < w.heap.size) (hF : ∀ k, F k ↔ k = q ∨ v.ownBlock = some k) (hvq : some q ≠ v.ownBlock) (hb : Below w.heap.size w w3)
  (ho : w4.ownsRow 0 142 4 (.slice (some ⟨g, 0, none⟩) (L.length + 1) cap) (L.length + 1) (cellsT L ++ cells4 t)) (hg : (w3.alloc ob).drew.grownBy w4 v.ownBlock)
  (hw : ∀ j, (Value.slice (some ⟨g, 0, none⟩) (L.length + 1) cap).ownBlock = some j → v.ownBlock = some j ∨ (w3.alloc ob).drew.heap.size ≤ j) (hd : w4.heap[q]? = some (.cells #[.int .i64 often, v] 107 (0, 0))) :
  REnd q often (L ++ [t]) F w (w4.setCell ⟨q, 1, none⟩ (.slice (some ⟨g, 0, none⟩) (L.length + 1) cap)) := by
 have hs := hb.size
 have hgw : v.ownBlock = some g ∨ w.heap.size ≤ g := by
  rcases hw g rfl with h | h
  ·exact .inl h
  ·have : w3.heap.size ≤ (w3.alloc ob).drew.heap.size := by simp
   exact .inr (by omega)
 have hne : g ≠ q := by
  rintro rfl
  rcases hgw with h | h
  ·exact hvq h.symm
  ·omega
 have f0 : Fr F w (w3.alloc ob).drew := ((Fr.of_below hb).alloc ob).drew
 have f1 : Fr F w w4 := f0.trans (G := F) (Fr.of_grownBy hg fun j hj => .inl ((hF j).2 (.inr hj))) fun _ h => .inl h
 refine ⟨fun j => j = q ∨ j = g, ⟨.slice (some ⟨g, 0, none⟩) (L.length + 1) cap, ?_, ?_, ?_⟩, f1.set q 1 _ (.inl ((hF q).2 (.inl rfl))), ?_⟩
 ·rw [heap_setCell_same _ _ _ _ _ _ hd]; rfl
 ·rw [List.length_append, cellsT_snoc]
  exact ownsRow_set ho hne _
 ·intro k
  simp [Value.ownBlock, eq_comm]
 ·rintro k (rfl | rfl)
  ·exact .inl ((hF k).2 (.inl rfl))
  ·rcases hgw with h | h
   ·exact .inl ((hF k).2 (.inr h))
   ·exact .inr h
theorem RumQ.apart {q often : Nat} {L : List Td} {W : World} {v : Value} (hq : W.heap[q]? = some (.cells #[.int .i64 often, v] 107 (0, 0))) (hr : W.ownsRow 0 142 4 v L.length (cellsT L)) : some q ≠ v.ownBlock := by
 intro e
 rcases hr.2 with ⟨rfl, _⟩ | ⟨g, cap, cur, rfl, _, hg, _⟩
 ·simp [Value.ownBlock] at e
 ·simp [Value.ownBlock] at e
  subst e
  rw [hq] at hg
  simp at hg
set_option maxHeartbeats 4000000 in
set_option maxRecDepth 100000 in
theorem push_calls (q often : Nat) (L : List Td) (w : World) (F : Nat → Prop) (h : RumQ q often L w F) (t : Td) (hL : L.length ≤ 1000) :
  Calls Tryz.prog 145 #[.pointer (some ⟨q, 1, none⟩), encT t] w fun e w' => (∃ v, e = .returned v) ∧ REnd q often (L ++ [t]) F w w' := by
 obtain ⟨⟨n, i, s⟩, k⟩ := t
 unfold encT
 dsimp only
 obtain ⟨i0, hi, hz0, hz1, hz2⟩ := info_parts infoTelling
 obtain ⟨v, hq, hr, hF⟩ := h
 have hlt := (Array.getElem?_eq_some_iff.1 hq).1
 have e1 : w.cell? ⟨q, 1, none⟩ = some v := by simp [World.cell?, hq]
 have hvq := RumQ.apart hq hr
 have HQ := Lib.hid hq
 have HR := Lib.hid hr
 have HF := Lib.hid hF
 obtain ⟨T, hT⟩ : ∃ T : Int, (k : Int) = T := ⟨_, rfl⟩
 have HT := Lib.hid hT
 rw [hT]
 have hcn := cell_four_new w.drew (.int .i64 n) (.int .i64 i) (.int .i64 s) (.int .i64 T) 142
 have HCN := Lib.hid hcn
 clear hq hr hF hcn hT
 go_enter Tryz.func145, Tryz.ntmps145
 go_wp2_with fail
 go_region_law (refine step_append_where rfl _ _ 105 rfl 142 i0 (.agg #[.int .i64 0, .int .i64 0, .int .i64 0, .int .i64 0]) 4 32 Tryz.underlying105 hi hz0 hz1 hz2 rfl (by decide) v L.length (cellsT L) rfl (HR.out.alloc _) ⟨w.heap.size, 0, none⟩ 1 1 [.int .i64 n, .int .i64 i, .int .i64 s, .int .i64 T] rfl rfl HCN.out (by simp [Value.oneCell']) (by unfold maxLen; omega) (by omega) ?_; intro v' w4 hown hgrow hwh; obtain ⟨g', cap', rfl⟩ := ownsRow_succ hown; have hd1 : w4.heap[q]? = some (.cells #[.int .i64 often, v] 107 (0, 0)) := (hgrow.block q (by first | (simp; done) | (simp; omega)) hvq).trans ((Below.heap_alloc _ _ _ hlt).trans HQ.out); have hd2 : w4.cell? ⟨q, 1, none⟩ = some v := (by simp [World.cell?, hd1]); have hd3 : w4.frozen? ⟨q, 1, none⟩ = false := (by simp [World.frozen?, hd1]); have HD := Lib.hid hd1; have HO := Lib.hid hown; have HG := Lib.hid hgrow; have HW := Lib.hid hwh; clear hd1 hown hgrow hwh)
 all_goals go_wp2_with fail
 all_goals go_end0
 all_goals exact ⟨⟨_, rfl⟩, rput_done q often L ⟨⟨n, i, s⟩, k⟩ hlt HF.out hvq (ext_refl w) (by have := HO.out; rw [← HT.out] at this; exact this) HG.out HW.out HD.out⟩
theorem cellsT_take (L : List Td) (t : Td) (cs : List Value) (h : cs.take ((L ++ [t]).length * 4) = cellsT (L ++ [t])) : cs.take (L.length * 4) = cellsT L := by
 have e : cs.take (L.length * 4) = (cs.take ((L ++ [t]).length * 4)).take (L.length * 4) := by rw [List.take_take]; congr 1; simp
 rw [e, h]
 rw [show cellsT (L ++ [t]) = cellsT L ++ cellsT [t] from by simp [cellsT], ← cellsT_len, List.take_left]
theorem pop_done {q often : Nat} {L : List Td} {t : Td} {w w1 : World} {F : Nat → Prop} {p : Option Addr} {cap : Nat} (h : RumQ q often (L ++ [t]) w F) (he : w.cell? ⟨q, 1, none⟩ = some (.slice p (L.length + 1) cap)) (hb : Below w.heap.size w w1) :
  REnd q often L F w (w1.setCell ⟨q, 1, none⟩ (.slice p L.length cap)) := by
 obtain ⟨v, hq, hr, hF⟩ := h
 have hvq := RumQ.apart hq hr
 obtain rfl : v = .slice p (L.length + 1) cap := by simpa [World.cell?, hq] using he
 have hlt := (Array.getElem?_eq_some_iff.1 hq).1
 rcases hr.2 with ⟨h1, h2⟩ | ⟨g, cap', cur, hv, _, hgo, hnc, hcm, hcs, htk⟩
 ·simp at h2
 simp only [List.length_append, List.length_cons, List.length_nil, Value.slice.injEq] at hv
 obtain ⟨rfl, _, rfl⟩ := hv
 have hgq : g ≠ q := fun e => hvq (by rw [e]; rfl)
 have hg := (Array.getElem?_eq_some_iff.1 hgo).1
 have h1q := (hb.block q hlt).trans hq
 refine ⟨F, ⟨.slice (some ⟨g, 0, none⟩) L.length cap, ?_, ⟨?_, .inr ⟨g, cap, cur, rfl, Nat.zero_le _, ?_, ?_, hcm, hcs, ?_⟩⟩, ?_⟩, (Fr.of_below hb).set q 1 _ (.inl ((hF q).2 (.inl rfl))), fun k hk => .inl hk⟩
 ·rw [heap_setCell_same _ _ _ _ _ _ h1q]; rfl
 ·rw [cellsT_len]
 ·exact (Below.heap_setCell _ _ _ _ hgq).trans ((hb.block g hg).trans hgo)
 ·simp only [List.length_append, List.length_cons, List.length_nil] at hnc; omega
 ·exact cellsT_take L t _ htk
 ·intro k
  rw [hF k]
  simp [Value.ownBlock]
set_option maxHeartbeats 4000000 in
set_option maxRecDepth 100000 in
theorem pop_calls (q often : Nat) (L : List Td) (t : Td) (w : World) (F : Nat → Prop) (h : RumQ q often (L ++ [t]) w F) (hL : L.length ≤ 1000) :
  Calls Tryz.prog 144 #[.pointer (some ⟨q, 1, none⟩)] w fun e w' => e = .returned (encT t) ∧ REnd q often L F w w' := by
 obtain ⟨p, cap, hc⟩ := h.cells
 have hlt := hc.lt
 have he : w.cell? ⟨q, 1, none⟩ = some (.slice p (L.length + 1) cap) := by have := hc.h1; rw [List.length_append] at this; exact this
 have hf1 := hc.f1
 rcases hc.row with h0 | ⟨g, rfl, hg, hgq, _, hcell⟩
 ·simp at h0
 obtain ⟨a0, a1, a2, a3⟩ := hcell L.length t (by simp)
 have HD : Hid (∀ ob, REnd q often L F w ((w.setCell ⟨q, 1, none⟩ (.slice (some ⟨g, 0, none⟩) L.length cap)).alloc ob)) := Lib.hid fun ob => (pop_done h he (ext_refl w)).later ⟨_, ext_alloc (ext_refl _) ob⟩
 have hcap : L.length + 1 ≤ cap := by
  obtain ⟨v, hq, hr, _⟩ := h
  obtain rfl : v = .slice (some ⟨g, 0, none⟩) (L.length + 1) cap := by simpa [World.cell?, hq] using he
  rcases hr.2 with ⟨_, h2⟩ | ⟨g', cap', cur, hv, _, _, hnc, _⟩
  ·simp at h2
  ·simp only [List.length_append, List.length_cons, List.length_nil, Value.slice.injEq] at hv hnc
   omega
 obtain ⟨⟨n, i, s⟩, k⟩ := t
 unfold encT
 dsimp only at a0 a1 a2 a3 ⊢
 obtain ⟨T, hT⟩ : ∃ T : Int, (k : Int) = T := ⟨_, rfl⟩
 rw [hT] at a3 ⊢
 obtain ⟨N, hN⟩ : ∃ N : Nat, L.length = N := ⟨_, rfl⟩
 rw [hN] at he a0 a1 a2 a3 hL hcap HD
 have hne : q ≠ w.heap.size := by omega
 clear hcell hc h hN hT
 go_enter Tryz.func144, Tryz.ntmps144
 go_wp2_with fail
 go_ret
 exact ⟨rfl, HD.out _⟩
def RAt (q often : Nat) (F : Nat → Prop) (w : World) (xs : List Td) (W : World) : Prop := REnd q often xs F w W ∧ xs.length ≤ 1000
theorem rheap (q often : Nat) (F : Nat → Prop) (w : World) : HeapIf Tryz.prog (hpV q) lessT (RAt q often F w) where
 size xs W h := by have := h.2; omega
 len xs W h := by
  obtain ⟨⟨F1, h1, h2, h3⟩, hl⟩ := h
  obtain ⟨p, cap, hc⟩ := h1.cells
  refine via_value (elem := 105) (f := 136) Tryz.underlying140 (by kernel_rfl) (load_waiting hc) Tryz.call136 ?_
  exact (len_calls p xs.length cap W).mono fun e w' ⟨he, x, hx⟩ => ⟨he, by subst hx; exact ⟨(REnd.step h2 h3 (rEnd_refl h1)).later x, hl⟩⟩
 less xs W i j x y h hi hj := by
  obtain ⟨⟨F1, h1, h2, h3⟩, hl⟩ := h
  obtain ⟨p, cap, hc⟩ := h1.cells
  refine via_value (elem := 105) (f := 137) Tryz.underlying140 (by kernel_rfl) (load_waiting hc) Tryz.call137 ?_
  exact (less_calls q often xs p cap W hc i j x y hi hj).mono fun e w' ⟨he, x, hx⟩ => ⟨he, by subst hx; exact ⟨(REnd.step h2 h3 (rEnd_refl h1)).later x, hl⟩⟩
 swap xs W i j x y h hi hj := by
  obtain ⟨⟨F1, h1, h2, h3⟩, hl⟩ := h
  obtain ⟨p, cap, hc⟩ := h1.cells
  refine via_value (elem := 105) (f := 138) Tryz.underlying140 (by kernel_rfl) (load_waiting hc) Tryz.call138 ?_
  exact (swap_calls q often xs p cap W F1 h1 hc i j x y hi hj).mono fun e w' ⟨he, hx⟩ => ⟨he, REnd.step h2 h3 hx, by rw [swapL_len]; exact hl⟩
theorem rends (q often : Nat) (F : Nat → Prop) (w : World) : HeapEnds Tryz.prog (hpV q) encT 1000 (RAt q often F w) where
 push xs x W h hlt := by
  obtain ⟨⟨F1, h1, h2, h3⟩, hl⟩ := h
  refine via_pointer (n := Tryz.prog.types.size + Made.depth - 1 + 1) (by have : 0 < Made.depth := (by decide); omega) (method_pointer (f := 145) (elem := 105) Tryz.underlying140 (by kernel_rfl)) Tryz.call145 ?_
  exact (push_calls q often xs W F1 h1 x hl).mono fun e w' ⟨he, hx⟩ => ⟨he, REnd.step h2 h3 hx, by simp; omega⟩
 pop xs x W h := by
  obtain ⟨⟨F1, h1, h2, h3⟩, hl⟩ := h
  have hl' : xs.length ≤ 1000 := by simp at hl; omega
  refine via_pointer (n := Tryz.prog.types.size + Made.depth - 1 + 1) (by have : 0 < Made.depth := (by decide); omega) (method_pointer (f := 144) (elem := 105) Tryz.underlying140 (by kernel_rfl)) Tryz.call144 ?_
  exact (pop_calls q often xs x W F1 h1 hl').mono fun e w' ⟨he, hx⟩ => ⟨he, REnd.step h2 h3 hx, hl'⟩
end
section
open Go Go.RowKit
def RPut (q often : Nat) (L : List Td) (F : Nat → Prop) (w w' : World) : Prop := ∃ L', L'.Perm L ∧ IsHeap lessT L'.length L' ∧ REnd q often L' F w w'
theorem rPut_later {q often : Nat} {L : List Td} {F : Nat → Prop} {w : World} (h : RumQ q often L w F) (hh : IsHeap lessT L.length L) (x : Later w) : RPut q often L F w x.w := ⟨L, List.Perm.refl _, hh, (rEnd_refl h).later x⟩
theorem mayB_cases {n i h : Int} (hm : mayB n i h = true) (hn : nothingB i h = false) : h ≠ 0 := by
 simp only [mayB, nothingB, decide_eq_true_eq, decide_eq_false_iff_not] at *
 omega
set_option maxHeartbeats 1000000 in
set_option maxRecDepth 100000 in
theorem putR_bad (q often : Nat) (L : List Td) (c : Cl) (w : World) (F : Nat → Prop) (_h : RumQ q often L w F) (hm : mayK c = false ∨ nothingK c = true) : Gives Tryz.prog 66 #[.pointer (some ⟨q, 0, none⟩), c.val] w (.bool false) := by
 obtain ⟨n, i, s⟩ := c
 unfold Gives Cl.val
 dsimp only
 obtain ⟨a, ha⟩ : ∃ a, mayB n i s = a := ⟨_, rfl⟩
 have HM := Lib.hid (fun W => may_any n i s W)
 have hm' : a = false ∨ nothingB i s = true := by rw [← ha]; exact hm
 rw [ha] at HM
 clear hm ha
 cases a with
 | false =>
  clear hm'
  go_enter Tryz.func66, Tryz.ntmps66
  go_wp2_with fail
  refine Gives.mono' (HM.out _) ?_
  intro x1
  go_wp2_with fail
  go_ret
  exact ⟨rfl, Later.ex (by repeat (first | exact ext_refl _ | refine ext_later ?_ _ | refine ext_alloc ?_ _ | refine ext_drew ?_ | refine ext_drewN ?_ _))⟩
 | true =>
  obtain rfl : s = 0 := by
   rcases hm' with h | h
   ·simp at h
   ·simp only [nothingB, decide_eq_true_eq] at h; omega
  clear hm'
  go_enter Tryz.func66, Tryz.ntmps66
  go_wp2_with fail
  refine Gives.mono' (HM.out _) ?_
  intro x1
  go_wp2_with fail
  go_ret
  exact ⟨rfl, Later.ex (by repeat (first | exact ext_refl _ | refine ext_later ?_ _ | refine ext_alloc ?_ _ | refine ext_drew ?_ | refine ext_drewN ?_ _))⟩
set_option maxHeartbeats 4000000 in
set_option maxRecDepth 100000 in
theorem putR_new (q often : Nat) (L : List Td) (c : Cl) (w : World) (F : Nat → Prop) (h : RumQ q often L w F) (hh : IsHeap lessT L.length L) (hL : L.length ≤ 100) (hm : mayK c = true) (hn : nothingK c = false) (ha : atIx L c.n = -1) :
  Calls Tryz.prog 66 #[.pointer (some ⟨q, 0, none⟩), c.val] w fun e w' => e = .returned (.bool true) ∧ RPut q often (L ++ [⟨c, 0⟩]) F w w' := by
 obtain ⟨n, i, s⟩ := c
 unfold Cl.val
 dsimp only at ha ⊢
 have hs0 : ((s : Int) == 0) = false := by simpa using mayB_cases hm hn
 have HM : Hid (∀ W, Gives Tryz.prog 36 #[.agg #[.int .i64 n, .int .i64 i, .int .i64 s]] W (.bool true)) := Lib.hid (fun W => (may_any n i s W).cast (by rw [show mayB n i s = true from hm]))
 obtain ⟨p, cap, hc⟩ := h.cells
 have HI : Hid (∀ x : Later (w.alloc (.cells #[.int .i64 n, .int .i64 i, .int .i64 s] 30)), Gives Tryz.prog 89 #[.slice p L.length cap, .int .i64 n] x.w (.int .i64 (-1))) := Lib.hid (fun x => (indexOf_any q often L n p cap x.w (hc.later (ext_later (ext_alloc (ext_refl w) _) x)) (by omega)).cast (by rw [ha]))
 have HP : Hid (∀ x : Later (w.alloc (.cells #[.int .i64 n, .int .i64 i, .int .i64 s] 30)), Calls Tryz.prog 90 #[.iface 140 (.pointer (some ⟨q, 1, none⟩)), .iface 142 (.agg #[.int .i64 n, .int .i64 i, .int .i64 s, .int .i64 0])] x.w fun e w' => ∃ v, e = .returned v ∧ RPut q often (L ++ [⟨⟨n, i, s⟩, 0⟩]) F w w') := Lib.hid fun x => by
  have hr : RAt q often F w L x.w := ⟨(rEnd_refl h).later ⟨x.w, ext_later (ext_alloc (ext_refl w) _) x⟩, by omega⟩
  exact (heapPush_any lessT_ordered (rheap q often F w) (rends q often F w) L ⟨⟨n, i, s⟩, 0⟩ x.w hr hh (by omega)).mono fun e w' ⟨⟨v, he⟩, xs', h1, h2, h3⟩ => ⟨v, he, xs', h2, h3, h1.1⟩
 have hlt := hc.lt
 have e1 := hc.h1
 clear hm hn ha h hh hc
 go_enter Tryz.func66, Tryz.ntmps66
 go_wp2_with fail
 refine Gives.mono' (HM.out _) ?_
 intro x1
 go_wp2_with fail
 refine wp_region_later_on (by kernel_rfl) (by kernel_rfl) ?_
 repeat (go_big_quiet_step (first | (go_at_call 89; with_reducible exact later_of (HI.out _))))
 refine wpQuiet_nil ?_
 rintro _ ⟨x9, rfl⟩
 go_wp2_with fail
 have hbox : x9.w.cell? ⟨w.heap.size, 0, none⟩ = some (.int .i64 n) ∧ x9.w.cell? ⟨w.heap.size, 1, none⟩ = some (.int .i64 i) ∧ x9.w.cell? ⟨w.heap.size, 2, none⟩ = some (.int .i64 s) := ⟨by simp [go_sem], by simp [go_sem], by simp [go_sem]⟩
 have HP9 := Lib.hid (HP.out ⟨x9.w.drew, x9.below.drew⟩)
 dsimp only at HP9
 obtain ⟨b0, b1, b2⟩ := hbox
 obtain ⟨w9, hw9⟩ : ∃ W, x9.w = W := ⟨_, rfl⟩
 rw [hw9] at b0 b1 b2 HP9 ⊢
 clear hw9 HP HI HM
 go_region_law (refine stp_call2 rfl 90 _ _ _ rfl Tryz.call90 rfl rfl HP9.out ?_; intro v w4 hend; have HE := Lib.hid hend; clear hend)
 all_goals go_wp2_with fail
 all_goals go_ret
 all_goals exact ⟨rfl, HE.out⟩
theorem rset_done (q often : Nat) (L : List Td) (t : Td) {w w9 : World} {F : Nat → Prop} {g cap k : Nat} (h : RumQ q often L w F) (he : w.cell? ⟨q, 1, none⟩ = some (.slice (some ⟨g, 0, none⟩) L.length cap)) (hk : k < L.length) (hb : Below w.heap.size w w9) :
  REnd q often (L.set k t) F w ((((w9.setCell ⟨g, k * 4, none⟩ (.int .i64 t.c.n)).setCell ⟨g, k * 4 + 1, none⟩ (.int .i64 t.c.i)).setCell ⟨g, k * 4 + 2, none⟩ (.int .i64 t.c.h)).setCell ⟨g, k * 4 + 3, none⟩ (.int .i64 t.n)).drew := by
 obtain ⟨v, hq, hr, hF⟩ := h
 obtain rfl : v = .slice (some ⟨g, 0, none⟩) L.length cap := by simpa [World.cell?, hq] using he
 have hlt := (Array.getElem?_eq_some_iff.1 hq).1
 have hFg : F g := (hF g).2 (.inr rfl)
 have hg := (hr.lt g rfl).2
 have hne : g ≠ q := by
  rintro rfl
  rcases hr.2 with ⟨h1, _⟩ | ⟨g', cap', cur, hv, _, h1, _⟩
  ·simp at h1
  ·obtain ⟨rfl, _⟩ : g = g' ∧ cap = cap' := by simpa using hv
   rw [hq] at h1
   simp at h1
 rcases hr.2 with ⟨h1, _⟩ | ⟨g', cap', cur, hv, _, h1, hnc, hcm, hcs, htk⟩
 ·simp at h1
 obtain ⟨rfl, rfl⟩ : g = g' ∧ cap = cap' := by simpa using hv
 have h9 : w9.heap[g]? = _ := (hb.block g hg).trans h1
 obtain ⟨cur', hg9, hs9, ht9⟩ := row_set t h9 hcs hnc hk htk
 refine ⟨F, ⟨.slice (some ⟨g, 0, none⟩) L.length cap, ?_, ⟨?_, .inr ⟨g, cap, cur', ?_, Nat.zero_le _, hg9, ?_, hcm, hs9, ht9⟩⟩, hF⟩, ?_, fun k hk => .inl hk⟩
 ·exact (Below.heap_setCell _ _ _ _ hne.symm).trans ((Below.heap_setCell _ _ _ _ hne.symm).trans ((Below.heap_setCell _ _ _ _ hne.symm).trans ((Below.heap_setCell _ _ _ _ hne.symm).trans ((hb.block q hlt).trans hq))))
 ·rw [cellsT_len]
 ·rw [List.length_set]
 ·rw [List.length_set]; exact hnc
 ·exact (((((Fr.of_below hb).set g _ _ (.inl hFg)).set g _ _ (.inl hFg)).set g _ _ (.inl hFg)).set g _ _ (.inl hFg)).drew
set_option maxHeartbeats 4000000 in
set_option maxRecDepth 100000 in
theorem putR_low (q often : Nat) (L : List Td) (c : Cl) (w : World) (F : Nat → Prop) (h : RumQ q often L w F) (hL : L.length ≤ 100) (hm : mayK c = true) (hn : nothingK c = false) (k : Nat) (t : Td) (hk : L[k]? = some t) (ha : atIx L c.n = k) (hc : 0 ≤ cmpK t.c c) :
  Gives Tryz.prog 66 #[.pointer (some ⟨q, 0, none⟩), c.val] w (.bool false) := by
 obtain ⟨n, i, s⟩ := c
 obtain ⟨⟨m, i', s'⟩, o⟩ := t
 unfold Gives Cl.val
 unfold cmpK at hc
 dsimp only at ha hc ⊢
 have hs0 : ((s : Int) == 0) = false := by simpa using mayB_cases hm hn
 have HM : Hid (∀ W, Gives Tryz.prog 36 #[.agg #[.int .i64 n, .int .i64 i, .int .i64 s]] W (.bool true)) := Lib.hid (fun W => (may_any n i s W).cast (by rw [show mayB n i s = true from hm]))
 obtain ⟨p, cap, hcells⟩ := h.cells
 have HI : Hid (∀ x : Later (w.alloc (.cells #[.int .i64 n, .int .i64 i, .int .i64 s] 30)), Gives Tryz.prog 89 #[.slice p L.length cap, .int .i64 n] x.w (.int .i64 k)) := Lib.hid (fun x => (indexOf_any q often L n p cap x.w (hcells.later (ext_later (ext_alloc (ext_refl w) _) x)) (by omega)).cast (by rw [ha]))
 have HC := Lib.hid (fun W => compare_any n i s m i' s' W)
 rw [cmpC_neg] at hc
 obtain ⟨C, hC⟩ : ∃ C, cmpC i s i' s' = C := ⟨_, rfl⟩
 rw [hC] at HC hc
 have hc0 : C ≤ 0 := by omega
 clear hC hc
 have hlt := hcells.lt
 have hkl : k < L.length := (List.getElem?_eq_some_iff.1 hk).1
 rcases hcells.row with h0 | ⟨g, rfl, hg, hgq, _, hcell⟩
 ·rw [h0] at hkl; simp at hkl
 obtain ⟨a0, a1, a2, _⟩ := hcell k _ hk
 have e1 := hcells.h1
 clear hm hn ha hcell hk hcells h
 go_enter Tryz.func66, Tryz.ntmps66
 go_wp2_with fail
 refine Gives.mono' (HM.out _) ?_
 intro x1
 go_wp2_with fail
 refine wp_region_later_on (by kernel_rfl) (by kernel_rfl) ?_
 repeat (go_big_quiet_step (first | (go_at_call 89; with_reducible exact later_of (HI.out _))))
 refine wpQuiet_nil ?_
 rintro _ ⟨x8, rfl⟩
 go_wp2_with fail
 refine wp_region_later_on (by kernel_rfl) (by kernel_rfl) ?_
 repeat (go_big_quiet_step (first | (go_at_call 60; with_reducible exact later_of (HC.out _))))
 refine wpQuiet_nil ?_
 rintro _ ⟨x9, rfl⟩
 go_wp2_with fail
 go_ret
 exact ⟨rfl, Later.ex (by repeat (first | exact ext_refl _ | refine ext_later ?_ _ | refine ext_alloc ?_ _ | refine ext_drew ?_ | refine ext_drewN ?_ _))⟩
set_option maxHeartbeats 4000000 in
set_option maxRecDepth 100000 in
theorem putR_up (q often : Nat) (L : List Td) (c : Cl) (w : World) (F : Nat → Prop) (h : RumQ q often L w F) (hh : IsHeap lessT L.length L) (hL : L.length ≤ 100) (hm : mayK c = true) (hn : nothingK c = false) (k : Nat) (t : Td) (hk : L[k]? = some t) (ha : atIx L c.n = k) (hc : ¬ 0 ≤ cmpK t.c c) :
  Calls Tryz.prog 66 #[.pointer (some ⟨q, 0, none⟩), c.val] w fun e w' => e = .returned (.bool true) ∧ RPut q often (L.set k ⟨c, 0⟩) F w w' := by
 obtain ⟨n, i, s⟩ := c
 obtain ⟨⟨m, i', s'⟩, o⟩ := t
 unfold Cl.val
 unfold cmpK at hc
 dsimp only at ha hc ⊢
 have hs0 : ((s : Int) == 0) = false := by simpa using mayB_cases hm hn
 have HM : Hid (∀ W, Gives Tryz.prog 36 #[.agg #[.int .i64 n, .int .i64 i, .int .i64 s]] W (.bool true)) := Lib.hid (fun W => (may_any n i s W).cast (by rw [show mayB n i s = true from hm]))
 obtain ⟨p, cap, hcells⟩ := h.cells
 have HI : Hid (∀ x : Later (w.alloc (.cells #[.int .i64 n, .int .i64 i, .int .i64 s] 30)), Gives Tryz.prog 89 #[.slice p L.length cap, .int .i64 n] x.w (.int .i64 k)) := Lib.hid (fun x => (indexOf_any q often L n p cap x.w (hcells.later (ext_later (ext_alloc (ext_refl w) _) x)) (by omega)).cast (by rw [ha]))
 have HC := Lib.hid (fun W => compare_any n i s m i' s' W)
 rw [cmpC_neg] at hc
 obtain ⟨C, hC⟩ : ∃ C, cmpC i s i' s' = C := ⟨_, rfl⟩
 rw [hC] at HC hc
 have hc0 : 0 < C := by omega
 clear hC hc
 have hlt := hcells.lt
 have hkl : k < L.length := (List.getElem?_eq_some_iff.1 hk).1
 rcases hcells.row with h0 | ⟨g, rfl, hg, hgq, hfz, hcell⟩
 ·rw [h0] at hkl; simp at hkl
 obtain ⟨a0, a1, a2, a3⟩ := hcell k _ hk
 have e1 := hcells.h1
 have f0 := hfz (k * 4)
 have f1 := hfz (k * 4 + 1)
 have f2 := hfz (k * 4 + 2)
 have f3 := hfz (k * 4 + 3)
 have HD : Hid (∀ w9, Below w.heap.size w w9 → REnd q often (L.set k ⟨⟨n, i, s⟩, 0⟩) F w ((((w9.setCell ⟨g, k * 4, none⟩ (.int .i64 n)).setCell ⟨g, k * 4 + 1, none⟩ (.int .i64 i)).setCell ⟨g, k * 4 + 2, none⟩ (.int .i64 s)).setCell ⟨g, k * 4 + 3, none⟩ (.int .i64 0)).drew) := Lib.hid fun w9 hb => rset_done q often L ⟨⟨n, i, s⟩, 0⟩ h e1 hkl hb
 have HX : Hid (∀ W, REnd q often (L.set k ⟨⟨n, i, s⟩, 0⟩) F w W → Calls Tryz.prog 91 #[.iface 140 (.pointer (some ⟨q, 1, none⟩)), .int .i64 k] W fun e w' => (∃ v, e = .returned v) ∧ RPut q often (L.set k ⟨⟨n, i, s⟩, 0⟩) F w w') := Lib.hid fun W hr => by
  have hl : (L.set k ⟨⟨n, i, s⟩, 0⟩).length = L.length := by simp
  exact (heapFix_any lessT_ordered (rheap q often F w) (L.set k ⟨⟨n, i, s⟩, 0⟩) k W ⟨hr, by omega⟩ (fixPre_set lessT_ordered _ (by rw [hl]; exact hh) (by omega) (by omega)) (by omega)).mono fun e w' ⟨hv, xs', h1, h2, h3⟩ => ⟨hv, xs', h2, h3, h1.1⟩
 clear hm hn ha hcell hk hcells h hh hfz
 go_enter Tryz.func66, Tryz.ntmps66
 go_wp2_with fail
 refine Gives.mono' (HM.out _) ?_
 intro x1
 go_wp2_with fail
 refine wp_region_later_on (by kernel_rfl) (by kernel_rfl) ?_
 repeat (go_big_quiet_step (first | (go_at_call 89; with_reducible exact later_of (HI.out _))))
 refine wpQuiet_nil ?_
 rintro _ ⟨x8, rfl⟩
 go_wp2_with fail
 refine wp_region_later_on (by kernel_rfl) (by kernel_rfl) ?_
 repeat (go_big_quiet_step (first | (go_at_call 60; with_reducible exact later_of (HC.out _))))
 refine wpQuiet_nil ?_
 rintro _ ⟨x9, rfl⟩
 go_wp2_with fail
 have hb9 : Below w.heap.size w x9.w := ext_later (ext_alloc (ext_refl w) _) x9
 have HB9 := Lib.hid hb9
 have hbox : x9.w.cell? ⟨w.heap.size, 0, none⟩ = some (.int .i64 n) ∧ x9.w.cell? ⟨w.heap.size, 1, none⟩ = some (.int .i64 i) ∧ x9.w.cell? ⟨w.heap.size, 2, none⟩ = some (.int .i64 s) := ⟨by simp [go_sem], by simp [go_sem], by simp [go_sem]⟩
 obtain ⟨b0, b1, b2⟩ := hbox
 have c1 : x9.w.cell? ⟨q, 1, none⟩ = _ := (hb9.cell (p := ⟨q, _, none⟩) hlt).trans e1
 have c2 : x9.w.cell? ⟨g, k * 4, none⟩ = _ := (hb9.cell (p := ⟨g, _, none⟩) hg).trans a0
 have c3 : x9.w.cell? ⟨g, k * 4 + 1, none⟩ = _ := (hb9.cell (p := ⟨g, _, none⟩) hg).trans a1
 have c4 : x9.w.cell? ⟨g, k * 4 + 2, none⟩ = _ := (hb9.cell (p := ⟨g, _, none⟩) hg).trans a2
 have c5 : x9.w.cell? ⟨g, k * 4 + 3, none⟩ = _ := (hb9.cell (p := ⟨g, _, none⟩) hg).trans a3
 have z0 : x9.w.frozen? ⟨g, k * 4, none⟩ = _ := (hb9.frozen (p := ⟨g, _, none⟩) hg).trans f0
 have z1 : x9.w.frozen? ⟨g, k * 4 + 1, none⟩ = _ := (hb9.frozen (p := ⟨g, _, none⟩) hg).trans f1
 have z2 : x9.w.frozen? ⟨g, k * 4 + 2, none⟩ = _ := (hb9.frozen (p := ⟨g, _, none⟩) hg).trans f2
 have z3 : x9.w.frozen? ⟨g, k * 4 + 3, none⟩ = _ := (hb9.frozen (p := ⟨g, _, none⟩) hg).trans f3
 have hg9 : g < x9.w.heap.size := Nat.lt_of_lt_of_le hg hb9.size
 have HD9 := Lib.hid (HX.out _ (HD.out _ hb9))
 obtain ⟨w9, hw9⟩ : ∃ W, x9.w = W := ⟨_, rfl⟩
 rw [hw9] at b0 b1 b2 c1 c2 c3 c4 c5 z0 z1 z2 z3 hg9 HD9 ⊢
 clear hb9 HB9 hw9 a0 a1 a2 a3 e1 f0 f1 f2 f3 HC HI HM HD HX
 go_region_law (fail)
 all_goals go_wp2_with fail
 all_goals (refine HD9.out.mono ?_; rintro e w5 ⟨⟨v, rfl⟩, hend⟩; have HE := Lib.hid hend; clear hend)
 all_goals go_wp2_with fail
 all_goals go_ret
 all_goals exact ⟨rfl, HE.out⟩
theorem putR_any (q often : Nat) (L : List Td) (c : Cl) (w : World) (F : Nat → Prop) (h : RumQ q often L w F) (hh : IsHeap lessT L.length L) (hL : L.length ≤ 100) :
  Calls Tryz.prog 66 #[.pointer (some ⟨q, 0, none⟩), c.val] w fun e w' => e = .returned (.bool (putOf L c).2) ∧ RPut q often (putOf L c).1 F w w' := by
 by_cases hbad : mayK c = false ∨ nothingK c = true
 ·have e : putOf L c = (L, false) := by unfold putOf; rw [if_pos hbad]
  rw [e]
  exact (putR_bad q often L c w F h hbad).mono' fun x => ⟨rfl, rPut_later h hh x⟩
 ·have hm : mayK c = true := by cases hm : mayK c <;> simp_all
  have hn : nothingK c = false := by cases hn : nothingK c <;> simp_all
  cases hf : L.findIdx? (fun t => t.c.n == c.n) with
  | none =>
   have e : putOf L c = (L ++ [⟨c, 0⟩], true) := by unfold putOf; rw [if_neg hbad, hf]
   rw [e]
   exact putR_new q often L c w F h hh hL hm hn (by simp [atIx, hf])
  | some k =>
   have hk : k < L.length := (List.findIdx?_eq_some_iff_getElem.1 hf).1
   have hg : L[k]? = some L[k] := List.getElem?_eq_getElem hk
   by_cases hc : 0 ≤ cmpK L[k].c c
   ·have e : putOf L c = (L, false) := by unfold putOf; rw [if_neg hbad, hf]; simp only [hg, if_pos hc]
    rw [e]
    exact (putR_low q often L c w F h hL hm hn k _ hg (by simp [atIx, hf]) hc).mono' fun x => ⟨rfl, rPut_later h hh x⟩
   ·have e : putOf L c = (L.set k ⟨c, 0⟩, true) := by unfold putOf; rw [if_neg hbad, hf]; simp only [hg, if_neg hc]
    rw [e]
    exact putR_up q often L c w F h hh hL hm hn k _ hg (by simp [atIx, hf]) hc
end
section
open Go Go.RowKit
theorem row_keeps {W W' : World} {b : Nat} {e : TypeId} {size : Nat} {v : Value} {k : Nat} {xs : List Value} (h : W.ownsRow b e size v k xs) (hk : ∀ g, v.ownBlock = some g → W'.heap[g]? = W.heap[g]?) : W'.ownsRow b e size v k xs := by
 refine ⟨h.1, ?_⟩
 rcases h.2 with h1 | ⟨g, cap, cur, rfl, hb, hg, rest⟩
 ·exact .inl h1
 ·exact .inr ⟨g, cap, cur, rfl, hb, (hk g rfl).trans hg, rest⟩
theorem row_lt {W : World} {b : Nat} {e : TypeId} {size : Nat} {v : Value} {k : Nat} {xs : List Value} (h : W.ownsRow b e size v k xs) : ∀ g, v.ownBlock = some g → g < W.heap.size := fun g hg => (h.lt g hg).2
theorem once_perm {L L' : List Td} (h : L.Perm L') (ho : Once L) : Once L' := h.pairwise ho (fun hxy => fun e => hxy e.symm)
theorem Picked.pop {L O rem xs : List Td} {x : Td} (h : Picked L O rem) (ho : Once L) (hp : (x :: xs).Perm rem) (hm : ∀ y ∈ rem, Le lessT x y) : Picked L (O ++ [x]) xs := by
 have hx : x ∈ rem := hp.subset (by simp)
 refine ⟨?_, ?_, ?_⟩
 ·rw [List.append_assoc]
  exact (hp.append_left O).trans h.perm
 ·rw [List.pairwise_append]
  refine ⟨h.sorted, by simp, fun y hy z hz => ?_⟩
  obtain rfl : z = x := by simpa using hz
  exact h.low y hy z hx
 ·intro a ha y hy
  have hy' : y ∈ rem := hp.subset (by simp [hy])
  rcases List.mem_append.1 ha with h1 | h1
  ·exact h.low a h1 y hy'
  ·obtain rfl : a = x := by simpa using h1
   have hon : Once (O ++ rem) := once_perm h.perm.symm ho
   have hon2 : Once (a :: xs) := once_perm hp.symm ((List.pairwise_append.1 hon).2.1)
   have hne := (List.pairwise_cons.1 hon2).1 y hy
   have hle := hm y hy'
   unfold Le lessT at hle
   rw [decide_eq_false_iff_not] at hle
   exact Td.lt_total hle (fun e => hne e.symm)
structure OutInv (w : World) (q often : Nat) (F : Nat → Prop) (L O rem : List Td) (v : Value) (W : World) (F1 : Nat → Prop) : Prop where
 rum : RumQ q often rem W F1
 fr : Fr F w W
 sub : ∀ k, F1 k → F k ∨ w.heap.size ≤ k
 heap : IsHeap lessT rem.length rem
 row : W.ownsRow 0 142 4 v O.length (cellsT O)
 own : ∀ b, v.ownBlock = some b → w.heap.size ≤ b ∧ ¬ F1 b
 picked : Picked L O rem
theorem OutInv.len {w : World} {q often : Nat} {F : Nat → Prop} {L O rem : List Td} {v : Value} {W : World} {F1 : Nat → Prop} (h : OutInv w q often F L O rem v W F1) : O.length + rem.length = L.length := by
 have := h.picked.perm.length_eq
 rw [List.length_append] at this
 exact this
theorem OutInv.pop {w : World} {q often : Nat} {F : Nat → Prop} {L O rem : List Td} {v : Value} {W : World} {F1 : Nat → Prop} (h : OutInv w q often F L O rem v W F1) (ho : Once L) (hL : L.length ≤ 100) (hne : 0 < rem.length) :
  Calls Tryz.prog 74 #[.iface 140 (.pointer (some ⟨q, 1, none⟩))] W fun e W' => ∃ x xs F2, e = .returned (encT x) ∧ Fr F w W' ∧ RumQ q often xs W' F2 ∧ (∀ k, F2 k → F k ∨ w.heap.size ≤ k) ∧ IsHeap lessT xs.length xs ∧
   W'.ownsRow 0 142 4 v O.length (cellsT O) ∧ (∀ b, v.ownBlock = some b → w.heap.size ≤ b ∧ ¬ F2 b) ∧ Picked L (O ++ [x]) xs ∧ W.heap.size ≤ W'.heap.size := by
 have hlen := h.len
 refine (heapPop_any lessT_ordered (rheap q often F1 W) (rends q often F1 W) rem W ⟨rEnd_refl h.rum, by omega⟩ h.heap hne).mono ?_
 rintro e W' ⟨x, xs, he, ⟨⟨F2, h1, h2, h3⟩, _⟩, hp, hm, hi⟩
 have hlt := row_lt h.row
 refine ⟨x, xs, F2, he, h.fr.trans h2 h.sub, h1, fun k hk => ?_, hi, row_keeps h.row fun g hg => h2.block g (hlt g hg) (h.own g hg).2, fun b hb => ⟨(h.own b hb).1, fun hk => ?_⟩, h.picked.pop ho hp hm, h2.size⟩
 ·rcases h3 k hk with h4 | h4
  ·exact h.sub k h4
  ·exact .inr (Nat.le_trans h.fr.size h4)
 ·rcases h3 b hk with h4 | h4
  ·exact (h.own b hb).2 h4
  ·have := hlt b hb; omega
theorem out_append {w : World} {q often : Nat} {F : Nat → Prop} {L O xs : List Td} {x : Td} {v v' : Value} {W W' : World} {F2 : Nat → Prop} {ob : Obj} (hfr : Fr F w W) (hq : RumQ q often xs W F2) (hs : ∀ k, F2 k → F k ∨ w.heap.size ≤ k) (hi : IsHeap lessT xs.length xs)
  (hb : ∀ b, v.ownBlock = some b → w.heap.size ≤ b ∧ ¬ F2 b) (hp : Picked L (O ++ [x]) xs)
  (hown : W'.ownsRow 0 142 4 v' (O.length + 1) (cellsT O ++ cells4 x)) (hg : (W.alloc ob).grownBy W' v.ownBlock) (hw : ∀ g, v'.ownBlock = some g → v.ownBlock = some g ∨ (W.alloc ob).heap.size ≤ g) :
  OutInv w q often F L (O ++ [x]) xs v' W' F2 := by
 have hlt := (rumQ_owns q often xs).lt W F2 hq
 have h1 : W.heap.size ≤ (W.alloc ob).heap.size := by simp
 refine ⟨(rumQ_owns q often xs).kept W W' F2 hq (Nat.le_trans h1 hg.size) fun k hk => ?_, ?_, hs, hi, ?_, fun b hb' => ?_, hp⟩
 ·refine (hg.block k (Nat.lt_of_lt_of_le (hlt k hk) h1) fun e => ?_).trans (Below.heap_alloc _ _ _ (hlt k hk))
  exact (hb k e.symm).2 hk
 ·exact (hfr.alloc ob).trans (G := fun j => w.heap.size ≤ j) (Fr.of_grownBy hg fun j hj => .inl (hb j hj).1) fun j hj => .inr hj
 ·rw [List.length_append, cellsT_snoc]
  exact hown
 ·rcases hw b hb' with h | h
  ·exact hb b h
  ·exact ⟨Nat.le_trans hfr.size (Nat.le_trans h1 h), fun hk => by have := hlt b hk; omega⟩
def OutEnd (q often : Nat) (L : List Td) (n : Int) (F : Nat → Prop) (w : World) (e : Ending) (w' : World) : Prop := ∃ v O rem F1, e = .returned v ∧ OutInv w q often F L O rem v w' F1 ∧ (O.length : Int) = min (max n 0) L.length
set_option maxHeartbeats 4000000 in
set_option maxRecDepth 100000 in
theorem takeOut_any (q often : Nat) (L : List Td) (n : Int) (w : World) (F : Nat → Prop) (h : RumQ q often L w F) (hh : IsHeap lessT L.length L) (hL : L.length ≤ 100) (hO : Once L) :
  Calls Tryz.prog 110 #[.pointer (some ⟨q, 1, none⟩), .int .i64 n] w (OutEnd q often L n F w) := by
 obtain ⟨i0, hi, hz0, hz1, hz2⟩ := info_parts infoTelling
 obtain ⟨p, cap, hc⟩ := h.cells
 have hlt := hc.lt
 have e1 := hc.h1
 have H0 := Lib.hid (show OutInv w q often F L [] L (.slice none 0 0) w F from ⟨h, Fr.refl _ _, fun k hk => .inl hk, hh, World.ownsRow_nil _ _ _ _, fun b hb => by simp [Value.ownBlock] at hb, Picked.nil L⟩)
 have HOn := Lib.hid hO
 clear h hh hc hO
 by_cases hn : n ≤ (L.length : Int)
 ·have hM : min n (L.length : Int) = n := by omega
  have HM := Lib.hid hM
  clear hM
  go_enter Tryz.func110, Tryz.ntmps110
  go_wp2_with fail
  clear e1
  go_loopw [5, 12] (fun v5 v12 wr => ∃ O rem F1, v12 = .int .i64 O.length ∧ OutInv w q often F L O rem v5 wr F1 ∧ (O.length : Int) ≤ max n 0) (fun v5 v12 _ => L.length - (intOf v12).toNat)
  case atStart => exact ⟨[], L, F, rfl, H0.out, by simp <;> omega⟩
  case round =>
   obtain ⟨O, rem, F1, rfl, hinv, hle⟩ := hrel
   have hlen := hinv.len
   have hrow := hinv.row
   obtain ⟨p5, c5, rfl⟩ := ownsRow_form hrow
   by_cases hk : (O.length : Int) < n
   ·have HP := Lib.hid (hinv.pop HOn.out hL (by omega))
    clear hinv hrow H0
    obtain ⟨K, hK⟩ : ∃ K : Nat, O.length = K := ⟨_, rfl⟩
    have HK := Lib.hid hK
    obtain ⟨v5, hv5⟩ : ∃ v, Value.slice p5 O.length c5 = v := ⟨_, rfl⟩
    rw [hv5] at HP ⊢
    have HV5 := Lib.hid hv5
    clear hv5
    rw [hK] at hk hle hlen ⊢
    clear hK
    go_wp2_with fail
    refine HP.out.mono ?_
    rintro e w1 ⟨x, xs, F2, rfl, hfr, hrum, hsub, hhp, hrow, hb, hpk, hsz⟩
    obtain ⟨⟨xn, xi, xh⟩, xt⟩ := x
    unfold encT
    dsimp only
    obtain ⟨T, hT⟩ : ∃ T : Int, (xt : Int) = T := ⟨_, rfl⟩
    have HT := Lib.hid hT
    rw [hT]
    have hcn := cell_four_new w1 (.int .i64 xn) (.int .i64 xi) (.int .i64 xh) (.int .i64 T) 142
    have HCN := Lib.hid hcn
    have HR := Lib.hid hrow
    have HAll := Lib.hid (And.intro hfr (And.intro hrum (And.intro hsub (And.intro hhp (And.intro hb hpk)))))
    clear hT hcn hrow hfr hrum hsub hhp hb hpk HP
    go_wp2_with (at_builtin; refine wpList_append_where rfl _ _ 104 rfl 142 i0 (.agg #[.int .i64 0, .int .i64 0, .int .i64 0, .int .i64 0]) 4 32 Tryz.underlying104 hi hz0 hz1 hz2 rfl (by decide) v5 O.length (cellsT O) rfl (HR.out.alloc _) ⟨w1.heap.size, 0, none⟩ 1 1 [.int .i64 xn, .int .i64 xi, .int .i64 xh, .int .i64 T] rfl rfl HCN.out (by simp [Value.oneCell']) (by have := HK.out; unfold maxLen; omega) (by have := HK.out; omega) ?_; intro v' w5 hown' hgrow hwh; have HO1 := Lib.hid hown'; have HG := Lib.hid hgrow; have HW := Lib.hid hwh; clear hown' hgrow hwh)
    go_roundw
    case rel =>
     obtain ⟨hfr, hrum, hsub, hhp, hb, hpk⟩ := HAll.out
     have hT := HT.out
     have hK := HK.out
     subst hT
     exact ⟨O ++ [⟨⟨xn, xi, xh⟩, xt⟩], xs, F2, by rw [List.length_append]; simp; omega, out_append (x := ⟨⟨xn, xi, xh⟩, xt⟩) hfr hrum hsub hhp hb hpk HO1.out HG.out HW.out, by rw [List.length_append]; simp; omega⟩
    case measure => simp [intOf]; omega
   ·have HI := Lib.hid hinv
    clear hinv hrow
    have hfin : (O.length : Int) = min (max n 0) L.length := by have := HM.out; omega
    have HF := Lib.hid hfin
    clear hfin
    go_wp2_with fail
    go_ret
    exact ⟨_, O, rem, F1, rfl, HI.out, HF.out⟩
 ·have hM : min n (L.length : Int) = (L.length : Int) := by omega
  have HM := Lib.hid hM
  clear hM
  go_enter Tryz.func110, Tryz.ntmps110
  go_wp2_with fail
  clear e1
  go_loopw [5, 12] (fun v5 v12 wr => ∃ O rem F1, v12 = .int .i64 O.length ∧ OutInv w q often F L O rem v5 wr F1 ∧ (O.length : Int) ≤ max (L.length : Int) 0) (fun v5 v12 _ => L.length - (intOf v12).toNat)
  case atStart => exact ⟨[], L, F, rfl, H0.out, by simp <;> omega⟩
  case round =>
   obtain ⟨O, rem, F1, rfl, hinv, hle⟩ := hrel
   have hlen := hinv.len
   have hrow := hinv.row
   obtain ⟨p5, c5, rfl⟩ := ownsRow_form hrow
   by_cases hk : (O.length : Int) < (L.length : Int)
   ·have HP := Lib.hid (hinv.pop HOn.out hL (by omega))
    clear hinv hrow H0
    obtain ⟨K, hK⟩ : ∃ K : Nat, O.length = K := ⟨_, rfl⟩
    have HK := Lib.hid hK
    obtain ⟨v5, hv5⟩ : ∃ v, Value.slice p5 O.length c5 = v := ⟨_, rfl⟩
    rw [hv5] at HP ⊢
    have HV5 := Lib.hid hv5
    clear hv5
    rw [hK] at hk hle hlen ⊢
    clear hK
    go_wp2_with fail
    refine HP.out.mono ?_
    rintro e w1 ⟨x, xs, F2, rfl, hfr, hrum, hsub, hhp, hrow, hb, hpk, hsz⟩
    obtain ⟨⟨xn, xi, xh⟩, xt⟩ := x
    unfold encT
    dsimp only
    obtain ⟨T, hT⟩ : ∃ T : Int, (xt : Int) = T := ⟨_, rfl⟩
    have HT := Lib.hid hT
    rw [hT]
    have hcn := cell_four_new w1 (.int .i64 xn) (.int .i64 xi) (.int .i64 xh) (.int .i64 T) 142
    have HCN := Lib.hid hcn
    have HR := Lib.hid hrow
    have HAll := Lib.hid (And.intro hfr (And.intro hrum (And.intro hsub (And.intro hhp (And.intro hb hpk)))))
    clear hT hcn hrow hfr hrum hsub hhp hb hpk HP
    go_wp2_with (at_builtin; refine wpList_append_where rfl _ _ 104 rfl 142 i0 (.agg #[.int .i64 0, .int .i64 0, .int .i64 0, .int .i64 0]) 4 32 Tryz.underlying104 hi hz0 hz1 hz2 rfl (by decide) v5 O.length (cellsT O) rfl (HR.out.alloc _) ⟨w1.heap.size, 0, none⟩ 1 1 [.int .i64 xn, .int .i64 xi, .int .i64 xh, .int .i64 T] rfl rfl HCN.out (by simp [Value.oneCell']) (by have := HK.out; unfold maxLen; omega) (by have := HK.out; omega) ?_; intro v' w5 hown' hgrow hwh; have HO1 := Lib.hid hown'; have HG := Lib.hid hgrow; have HW := Lib.hid hwh; clear hown' hgrow hwh)
    go_roundw
    case rel =>
     obtain ⟨hfr, hrum, hsub, hhp, hb, hpk⟩ := HAll.out
     have hT := HT.out
     have hK := HK.out
     subst hT
     exact ⟨O ++ [⟨⟨xn, xi, xh⟩, xt⟩], xs, F2, by rw [List.length_append]; simp; omega, out_append (x := ⟨⟨xn, xi, xh⟩, xt⟩) hfr hrum hsub hhp hb hpk HO1.out HG.out HW.out, by rw [List.length_append]; simp; omega⟩
    case measure => simp [intOf]; omega
   ·have HI := Lib.hid hinv
    clear hinv hrow
    have hfin : (O.length : Int) = min (max n 0) L.length := by have := HM.out; omega
    have HF := Lib.hid hfin
    clear hfin
    go_wp2_with fail
    go_ret
    exact ⟨_, O, rem, F1, rfl, HI.out, HF.out⟩
end
section
open Go Go.RowKit
def backOf (often : Nat) (O : List Td) : List Td := (O.map fun t => (⟨t.c, t.n + 1⟩ : Td)).filter fun t => decide (t.n < often)
theorem backOf_up {often : Nat} {O : List Td} {k : Nat} {t : Td} (hk : O[k]? = some t) (h : t.n + 1 < often) : backOf often (O.take (k + 1)) = backOf often (O.take k) ++ [⟨t.c, t.n + 1⟩] := by
 have : O.take (k + 1) = O.take k ++ [t] := by rw [List.take_add_one, hk]; rfl
 rw [this]
 simp [backOf, h]
theorem backOf_out {often : Nat} {O : List Td} {k : Nat} {t : Td} (hk : O[k]? = some t) (h : ¬ t.n + 1 < often) : backOf often (O.take (k + 1)) = backOf often (O.take k) := by
 have : O.take (k + 1) = O.take k ++ [t] := by rw [List.take_add_one, hk]; rfl
 rw [this]
 simp [backOf, h]
theorem claims_up {O : List Td} {k : Nat} {t : Td} (hk : O[k]? = some t) : (O.take (k + 1)).map (·.c) = (O.take k).map (·.c) ++ [t.c] := by
 rw [List.take_add_one, hk]; simp
structure TkInv (w : World) (q often : Nat) (F : Nat → Prop) (O rem : List Td) (v : Value) (k : Nat) (R : List Td) (u : Value) (W : World) (F1 : Nat → Prop) : Prop where
 rum : RumQ q often R W F1
 fr : Fr F w W
 sub : ∀ k, F1 k → F k ∨ w.heap.size ≤ k
 heap : IsHeap lessT R.length R
 perm : R.Perm (rem ++ backOf often (O.take k))
 out : W.ownsRow 0 142 4 v O.length (cellsT O)
 outb : ∀ b, v.ownBlock = some b → ¬ F1 b ∧ u.ownBlock ≠ some b
 row : W.ownsRow 0 30 3 u k (cellsOf ((O.take k).map (·.c)))
 rowb : ∀ b, u.ownBlock = some b → w.heap.size ≤ b ∧ ¬ F1 b
structure TkMid (w : World) (q often : Nat) (F : Nat → Prop) (O rem : List Td) (v : Value) (k : Nat) (R : List Td) (u : Value) (b : Nat) (t : Td) (T' : Int) (W : World) (F1 : Nat → Prop) : Prop where
 rum : RumQ q often R W F1
 fr : Fr F w W
 sub : ∀ k, F1 k → F k ∨ w.heap.size ≤ k
 heap : IsHeap lessT R.length R
 perm : R.Perm (rem ++ backOf often (O.take k))
 out : W.ownsRow 0 142 4 v O.length (cellsT O)
 outb : ∀ b, v.ownBlock = some b → ¬ F1 b ∧ u.ownBlock ≠ some b
 row : W.ownsRow 0 30 3 u (k + 1) (cellsOf ((O.take (k + 1)).map (·.c)))
 rowb : ∀ b, u.ownBlock = some b → w.heap.size ≤ b ∧ ¬ F1 b
 lt : b < W.heap.size
 fz : ∀ j, W.frozen? ⟨b, j, none⟩ = false
 c0 : W.cell? ⟨b, 0, none⟩ = some (.int .i64 t.c.n)
 c1 : W.cell? ⟨b, 1, none⟩ = some (.int .i64 t.c.i)
 c2 : W.cell? ⟨b, 2, none⟩ = some (.int .i64 t.c.h)
 c3 : W.cell? ⟨b, 3, none⟩ = some (.int .i64 T')
 q0 : W.cell? ⟨q, 0, none⟩ = some (.int .i64 often)
 ql : q < W.heap.size
section
variable {w : World} {q often : Nat} {F : Nat → Prop} {O rem : List Td} {v : Value} {k : Nat} {R : List Td} {u : Value} {W : World} {F1 : Nat → Prop}
theorem RumQ.ofc {L : List Td} (h : RumQ q often L W F) : W.cell? ⟨q, 0, none⟩ = some (.int .i64 often) ∧ q < W.heap.size := by
 obtain ⟨p, cap, hc⟩ := h.cells
 exact ⟨hc.h0, hc.lt⟩
theorem TkInv.len (h : TkInv w q often F O rem v k R u W F1) : R.length ≤ rem.length + O.length := by
 have := h.perm.length_eq
 rw [List.length_append] at this
 have h2 : (backOf often (O.take k)).length ≤ O.length := by
  unfold backOf
  refine Nat.le_trans (List.length_filter_le _ _) ?_
  rw [List.length_map, List.length_take]
  omega
 omega
theorem TkInv.cells (h : TkInv w q often F O rem v k R u W F1) {g cap : Nat} (hv : v = .slice (some ⟨g, 0, none⟩) O.length cap) {t : Td} {j : Nat} (hk : O[j]? = some t) : W.cell? ⟨g, j * 4, none⟩ = some (.int .i64 t.c.n) ∧ W.cell? ⟨g, j * 4 + 1, none⟩ = some (.int .i64 t.c.i) ∧ W.cell? ⟨g, j * 4 + 2, none⟩ = some (.int .i64 t.c.h) ∧ W.cell? ⟨g, j * 4 + 3, none⟩ = some (.int .i64 t.n) := by
 have := h.out.cells (g := g) (by rw [hv]; rfl)
 obtain ⟨a0, a1, a2, a3⟩ := cellsT_at O j t hk
 simp only [addr_at] at this
 exact ⟨this _ _ a0, this _ _ a1, this _ _ a2, this _ _ a3⟩
theorem TkInv.append (h : TkInv w q often F O rem v k R u W F1) {t : Td} (hk : O[k]? = some t) {T T' : Int} {u' : Value} {W4 : World}
  (hown : W4.ownsRow 0 30 3 u' (k + 1) (cellsOf ((O.take k).map (·.c)) ++ [.int .i64 t.c.n, .int .i64 t.c.i, .int .i64 t.c.h]))
  (hg : ((W.alloc (.cells #[.int .i64 t.c.n, .int .i64 t.c.i, .int .i64 t.c.h, .int .i64 T] 142)).alloc (.cells #[.int .i64 t.c.n, .int .i64 t.c.i, .int .i64 t.c.h] 30)).grownBy W4 u.ownBlock)
  (hw : ∀ g, u'.ownBlock = some g → u.ownBlock = some g ∨ ((W.alloc (.cells #[.int .i64 t.c.n, .int .i64 t.c.i, .int .i64 t.c.h, .int .i64 T] 142)).alloc (.cells #[.int .i64 t.c.n, .int .i64 t.c.i, .int .i64 t.c.h] 30)).heap.size ≤ g) :
  TkMid w q often F O rem v k R u' W.heap.size t T' (W4.setCell ⟨W.heap.size, 3, none⟩ (.int .i64 T')) F1 ∧ W4.heap[W.heap.size]? = some (.cells #[.int .i64 t.c.n, .int .i64 t.c.i, .int .i64 t.c.h, .int .i64 T] 142 (0, 0)) := by
 have hF := (rumQ_owns q often R).lt W F1 h.rum
 have hvl := row_lt h.out
 have hul := row_lt h.row
 obtain ⟨W2, hW2⟩ : ∃ W2, ((W.alloc (.cells #[.int .i64 t.c.n, .int .i64 t.c.i, .int .i64 t.c.h, .int .i64 T] 142)).alloc (.cells #[.int .i64 t.c.n, .int .i64 t.c.i, .int .i64 t.c.h] 30)) = W2 := ⟨_, rfl⟩
 have hs2 : W2.heap.size = W.heap.size + 2 := by rw [← hW2]; simp
 have hb2 : Below W.heap.size W W2 := by rw [← hW2]; exact ext_alloc (ext_alloc (ext_refl W) _) _
 have hn2 : W2.heap[W.heap.size]? = some (.cells #[.int .i64 t.c.n, .int .i64 t.c.i, .int .i64 t.c.h, .int .i64 T] 142 (0, 0)) := by
  rw [← hW2]
  exact (Below.heap_alloc _ _ _ (by simp)).trans (heap_alloc_new W _)
 rw [hW2] at hg hw
 have hnu : some W.heap.size ≠ u.ownBlock := fun e => by have := hul _ e.symm; omega
 have hn4 : W4.heap[W.heap.size]? = _ := (hg.block _ (by omega) hnu).trans hn2
 -- what was there stays, but for u's block
 have hkeep : ∀ j, j < W.heap.size → some j ≠ u.ownBlock → (W4.setCell ⟨W.heap.size, 3, none⟩ (.int .i64 T')).heap[j]? = W.heap[j]? := fun j hj hne =>
  (Below.heap_setCell _ _ _ _ (by show j ≠ W.heap.size; omega)).trans ((hg.block j (by omega) hne).trans (hb2.block j hj))
 have hnu' : ∀ g, u'.ownBlock = some g → g ≠ W.heap.size := fun g hg' e => by
  rcases hw g hg' with h1 | h1
  ·have := hul g h1; omega
  ·omega
 have hfr : Fr F w (W4.setCell ⟨W.heap.size, 3, none⟩ (.int .i64 T')) := by
  have f2 : Fr F w W2 := h.fr.trans (G := F) (Fr.of_below hb2) fun _ hj => .inl hj
  have f4 : Fr F w W4 := f2.trans (G := fun j => w.heap.size ≤ j) (Fr.of_grownBy hg fun j hj => .inl (h.rowb j hj).1) fun j hj => .inr hj
  exact f4.set _ _ _ (.inr h.fr.size)
 have hrum := (rumQ_owns q often R).kept W (W4.setCell ⟨W.heap.size, 3, none⟩ (.int .i64 T')) F1 h.rum (by have := hg.size; simp; omega) fun j hj => hkeep j (hF j hj) fun e => (h.rowb j e.symm).2 hj
 have hset : (W4.setCell ⟨W.heap.size, 3, none⟩ (.int .i64 T')).heap[W.heap.size]? = some (.cells #[.int .i64 t.c.n, .int .i64 t.c.i, .int .i64 t.c.h, .int .i64 T'] 142 (0, 0)) := by
  rw [heap_setCell_same _ _ _ _ _ _ hn4]; rfl
 refine ⟨⟨hrum, hfr, h.sub, h.heap, h.perm, ?_, ?_, ?_, ?_, ?_, ?_, ?_, ?_, ?_, ?_, hrum.ofc.1, hrum.ofc.2⟩, hn4⟩
 ·exact row_keeps h.out fun g hg' => hkeep g (hvl g hg') fun e => (h.outb g hg').2 e.symm
 ·intro b hb
  refine ⟨(h.outb b hb).1, fun e => ?_⟩
  rcases hw b e with h1 | h1
  ·exact (h.outb b hb).2 h1
  ·have := hvl b hb; omega
 ·rw [claims_up hk, cellsOf_snoc]
  exact row_keeps hown fun g hg' => Below.heap_setCell _ _ _ _ (hnu' g hg')
 ·intro b hb
  rcases hw b hb with h1 | h1
  ·exact h.rowb b h1
  ·exact ⟨by have := h.fr.size; omega, fun hk => by have := hF b hk; omega⟩
 ·have := hg.size
  simp
  omega
 ·intro j; simp [World.frozen?, hset]
 ·simp [World.cell?, hset]
 ·simp [World.cell?, hset]
 ·simp [World.cell?, hset]
 ·simp [World.cell?, hset]
theorem TkMid.later {b : Nat} {t : Td} {T' : Int} (h : TkMid w q often F O rem v k R u b t T' W F1) (x : Later W) : TkMid w q often F O rem v k R u b t T' x.w F1 := by
 have hF := (rumQ_owns q often R).lt W F1 h.rum
 have hvl := row_lt h.out
 have hul := row_lt h.row
 refine ⟨(rumQ_owns q often R).kept W x.w F1 h.rum x.below.size fun j hj => x.below.block j (hF j hj), h.fr.later x, h.sub, h.heap, h.perm, row_keeps h.out fun g hg => x.below.block g (hvl g hg), h.outb, row_keeps h.row fun g hg => x.below.block g (hul g hg), h.rowb, Nat.lt_of_lt_of_le h.lt x.below.size, fun j => (x.below.frozen (p := ⟨b, j, none⟩) h.lt).trans (h.fz j), (x.below.cell (p := ⟨b, _, none⟩) h.lt).trans h.c0, (x.below.cell (p := ⟨b, _, none⟩) h.lt).trans h.c1, (x.below.cell (p := ⟨b, _, none⟩) h.lt).trans h.c2, (x.below.cell (p := ⟨b, _, none⟩) h.lt).trans h.c3, (x.below.cell (p := ⟨q, _, none⟩) h.ql).trans h.q0, Nat.lt_of_lt_of_le h.ql x.below.size⟩
theorem TkMid.gone {b : Nat} {t : Td} {T' : Int} (h : TkMid w q often F O rem v k R u b t T' W F1) (hk : O[k]? = some t) (hn : ¬ t.n + 1 < often) : TkInv w q often F O rem v (k + 1) R u W F1 :=
 ⟨h.rum, h.fr, h.sub, h.heap, by rw [backOf_out hk hn]; exact h.perm, h.out, h.outb, h.row, h.rowb⟩
theorem TkMid.back {b : Nat} {t : Td} {T' : Int} (h : TkMid w q often F O rem v k R u b t T' W F1) (hk : O[k]? = some t) (hn : t.n + 1 < often) (hR : R.length ≤ 900) :
  Calls Tryz.prog 90 #[.iface 140 (.pointer (some ⟨q, 1, none⟩)), encT ⟨t.c, t.n + 1⟩] W fun e W' => ∃ r, e = .returned r ∧ Hid (∃ R' F2, R'.length = R.length + 1 ∧ TkInv w q often F O rem v (k + 1) R' u W' F2) := by
 refine (heapPush_any lessT_ordered (rheap q often F1 W) (rends q often F1 W) R ⟨t.c, t.n + 1⟩ W ⟨rEnd_refl h.rum, by omega⟩ h.heap (by omega)).mono ?_
 rintro e W' ⟨⟨r, he⟩, xs, ⟨⟨F2, h1, h2, h3⟩, _⟩, hp, hi⟩
 have hvl := row_lt h.out
 have hul := row_lt h.row
 refine ⟨r, he, Lib.hid ⟨xs, F2, by rw [hp.length_eq]; simp, h1, h.fr.trans h2 h.sub, fun j hj => ?_, hi, ?_, row_keeps h.out fun g hg => h2.block g (hvl g hg) (h.outb g hg).1, fun g hg => ⟨fun hk => ?_, (h.outb g hg).2⟩, row_keeps h.row fun g hg => h2.block g (hul g hg) (h.rowb g hg).2, fun g hg => ⟨(h.rowb g hg).1, fun hk => ?_⟩⟩⟩
 ·rcases h3 j hj with h4 | h4
  ·exact h.sub j h4
  ·exact .inr (Nat.le_trans h.fr.size h4)
 ·rw [backOf_up hk hn, ← List.append_assoc]
  exact hp.trans (h.perm.append_right _)
 ·rcases h3 g hk with h4 | h4
  ·exact (h.outb g hg).1 h4
  ·have := hvl g hg; omega
 ·rcases h3 g hk with h4 | h4
  ·exact (h.rowb g hg).2 h4
  ·have := hul g hg; omega
end
theorem row_base {W : World} {b : Nat} {e : TypeId} {size : Nat} {v : Value} {k : Nat} {xs : List Value} (h : W.ownsRow 0 e size v k xs) (hb : ∀ g, v.ownBlock = some g → b ≤ g) : W.ownsRow b e size v k xs := by
 refine ⟨h.1, ?_⟩
 rcases h.2 with h1 | ⟨g, cap, cur, rfl, _, rest⟩
 ·exact .inl h1
 ·exact .inr ⟨g, cap, cur, rfl, hb g rfl, rest⟩
def TakeEnd (q often : Nat) (L : List Td) (n : Int) (F : Nat → Prop) (w : World) (e : Ending) (w' : World) : Prop :=
 ∃ u O rem R F1, e = .returned u ∧ Picked L O rem ∧ (O.length : Int) = min (max n 0) L.length ∧ w'.ownsRow w.heap.size 30 3 u O.length (cellsOf (O.map (·.c))) ∧ (∀ b, u.ownBlock = some b → ¬ F1 b) ∧
  IsHeap lessT R.length R ∧ R.Perm (rem ++ backOf often O) ∧ RumQ q often R w' F1 ∧ Fr F w w' ∧ ∀ k, F1 k → F k ∨ w.heap.size ≤ k
set_option maxHeartbeats 4000000 in
set_option maxRecDepth 100000 in
theorem takeR_any (q often : Nat) (L : List Td) (n : Int) (w : World) (F : Nat → Prop) (h : RumQ q often L w F) (hh : IsHeap lessT L.length L) (hL : L.length ≤ 100) (hO : Once L) (hT : ∀ t ∈ L, t.n < 1000) :
  Calls Tryz.prog 92 #[.pointer (some ⟨q, 0, none⟩), .int .i64 n] w (TakeEnd q often L n F w) := by
 obtain ⟨i1, hi1, hy0, hy1, hy2⟩ := info_parts infoClaim
 have HOut := Lib.hid (takeOut_any q often L n w F h hh hL hO)
 have HTn := Lib.hid hT
 have hlt := h.ofc.2
 clear h hh hO hT
 go_enter Tryz.func92, Tryz.ntmps92
 go_wp2_with fail
 refine HOut.out.mono ?_
 rintro e w1 ⟨v, O, rem, F1, rfl, hinv, hcnt⟩
 have hlen := hinv.len
 have hT1 : ∀ t ∈ O, t.n < 1000 := fun t ht => HTn.out t (hinv.picked.perm.subset (by simp [ht]))
 have H0 := Lib.hid (show TkInv w q often F O rem v 0 rem (.slice none 0 0) w1 F1 from ⟨hinv.rum, hinv.fr, hinv.sub, hinv.heap, by simp [backOf], hinv.row, fun b hb => ⟨(hinv.own b hb).2, by simp [Value.ownBlock]⟩, by rw [List.take_zero]; exact World.ownsRow_nil _ _ _ _, fun b hb => by simp [Value.ownBlock] at hb⟩)
 have HPk := Lib.hid hinv.picked
 have HC := Lib.hid hcnt
 obtain ⟨pv, cv, rfl⟩ := ownsRow_form hinv.row
 have HT1 := Lib.hid hT1
 clear hinv hcnt HOut HTn hT1
 have hcv := (show pv = none ∧ O.length = 0 ∨ ∃ g, pv = some ⟨g, 0, none⟩ from by
  rcases H0.out.out.2 with ⟨h1, h2⟩ | ⟨g, cap, cur, h1, _⟩
  ·exact .inl ⟨by simpa using (Value.slice.inj h1).1, h2⟩
  ·exact .inr ⟨g, (Value.slice.inj h1).1⟩)
 obtain ⟨v, hv⟩ : ∃ v, Value.slice pv O.length cv = v := ⟨_, rfl⟩
 have HV := Lib.hid hv
 rw [hv] at H0
 clear hv
 obtain ⟨w0, hw0⟩ : ∃ W, W = w1 := ⟨_, rfl⟩
 subst hw0
 go_wp2_with fail
 go_loopw [5, 16] (fun v5 v16 wr => ∃ (k : Nat) (R : List Td) (F1 : Nat → Prop), v16 = .int .i64 k ∧ k ≤ O.length ∧ TkInv w q often F O rem v k R v5 wr F1) (fun _ v16 _ => O.length - (intOf v16).toNat)
 case atStart => exact ⟨0, rem, F1, rfl, by omega, H0.out⟩
 case round =>
  clear H0
  obtain ⟨k, R, F2, rfl, hk, hinv⟩ := hrel
  have hRl := hinv.len
  by_cases hkl : k < O.length
  ·obtain ⟨t, hkc⟩ : ∃ t, O[k]? = some t := ⟨_, List.getElem?_eq_getElem hkl⟩
   rcases hcv with ⟨_, h0⟩ | ⟨g, rfl⟩
   ·omega
   obtain ⟨a0, a1, a2, a3⟩ := hinv.cells HV.out.symm hkc
   have hgl : g < wr.heap.size := row_lt hinv.out g (by rw [← HV.out]; rfl)
   have hgn : g ≠ wr.heap.size := by omega
   have htn := HT1.out t (List.mem_of_getElem? hkc)
   obtain ⟨⟨xn, xi, xh⟩, xt⟩ := t
   dsimp only at a0 a1 a2 a3 htn
   obtain ⟨T, hT⟩ : ∃ T : Int, (xt : Int) = T := ⟨_, rfl⟩
   have HT := Lib.hid hT
   rw [hT] at a3
   have hT0 : 0 ≤ T := by omega
   have hT1 : T < 1000 := by omega
   have hcn := cell_three_new (wr.alloc (.cells #[.int .i64 xn, .int .i64 xi, .int .i64 xh, .int .i64 T] 142)) (.int .i64 xn) (.int .i64 xi) (.int .i64 xh) 30
   rw [show (wr.alloc (.cells #[.int .i64 xn, .int .i64 xi, .int .i64 xh, .int .i64 T] 142)).heap.size = wr.heap.size + 1 from by simp] at hcn
   have HCN := Lib.hid hcn
   have HI := Lib.hid hinv
   have HK := Lib.hid hkc
   clear hcn hinv hkc hT htn
   go_upto_region 9 with (at_builtin; refine wpList_append_where rfl _ _ 44 rfl 30 i1 (.agg #[.int .i64 0, .int .i64 0, .int .i64 0]) 3 24 Tryz.underlying44 hi1 hy0 hy1 hy2 rfl (by decide) u5 k _ rfl ((HI.out.row.alloc _).alloc _) ⟨wr.heap.size + 1, 0, none⟩ 1 1 [.int .i64 xn, .int .i64 xi, .int .i64 xh] rfl rfl HCN.out (by simp [Value.oneCell']) (by unfold maxLen; omega) (by omega) ?_; intro u' w4 hown' hgrow hwh; have hn4 := (HI.out.append (T' := T) HK.out hown' hgrow hwh).2; have d3 : w4.cell? ⟨wr.heap.size, 3, none⟩ = some (.int .i64 T) := (by simp [World.cell?, hn4]); have d4 : w4.frozen? ⟨wr.heap.size, 3, none⟩ = false := (by simp [World.frozen?, hn4]); have d5 : wr.heap.size < w4.heap.size := (Array.getElem?_eq_some_iff.1 hn4).1; have HM := Lib.hid (HI.out.append (T' := T + 1) HK.out hown' hgrow hwh).1; clear hown' hgrow hwh hn4)
   obtain ⟨w5, hw5⟩ : ∃ W, w4.setCell ⟨wr.heap.size, 3, none⟩ (.int .i64 (T + 1)) = W := ⟨_, rfl⟩
   rw [hw5] at HM ⊢
   obtain ⟨b, hb⟩ : ∃ b, wr.heap.size = b := ⟨_, rfl⟩
   rw [hb] at HM ⊢
   have hm := HM.out
   have m0 := hm.c0
   have m1 := hm.c1
   have m2 := hm.c2
   have m3 := hm.c3
   have mq := hm.q0
   have ml := hm.lt
   have mql := hm.ql
   dsimp only at m0 m1 m2
   obtain ⟨OF, hOF⟩ : ∃ X : Int, (often : Int) = X := ⟨_, rfl⟩
   rw [hOF] at mq
   by_cases hbk : xt + 1 < often
   ·have g1 : decide (T + 1 < OF) = true := by have := HT.out; simp; omega
    have HB : Hid (∀ x : Later w5, Calls Tryz.prog 90 #[.iface 140 (.pointer (some ⟨q, 1, none⟩)), .iface 142 (.agg #[.int .i64 xn, .int .i64 xi, .int .i64 xh, .int .i64 (T + 1)])] x.w fun e W' => ∃ r, e = .returned r ∧ Hid (∃ R' F3, R'.length = R.length + 1 ∧ TkInv w q often F O rem v (k + 1) R' u' W' F3)) := Lib.hid fun x => by
     have := (hm.later x).back HK.out hbk (by omega)
     rw [← HT.out]
     exact this
    clear hm hOF hbk hw5 hb d3 d4 d5 HCN HM HI a0 a1 a2 a3 hgl hgn
    go_quiet (fail)
    go_wp2_with fail
    have HB9 := Lib.hid (HB.out ⟨(w5.drewN nq).drew, ext_drew (ext_drewN (ext_refl w5) _)⟩)
    clear HB
    dsimp only at HB9
    go_region_law (refine stp_call2 rfl 90 _ _ _ rfl Tryz.call90 rfl rfl HB9.out ?_; intro r w6 HE)
    go_wp2_with fail
    go_roundw
    case rel =>
     obtain ⟨R', F3, _, hI⟩ := HE.out
     exact ⟨k + 1, R', F3, by go_num, by omega, hI⟩
    case measure => simp [intOf]; omega
   ·have g1 : decide (T + 1 < OF) = false := by have := HT.out; simp; omega
    clear hm hOF hw5 hb d3 d4 d5 HCN HI a0 a1 a2 a3 hgl hgn
    go_quiet (fail)
    go_wp2_with fail
    go_roundw
    case rel => exact ⟨k + 1, R, F2, by go_num, by omega, (HM.out.later ⟨w5.drewN nq, ext_drewN (ext_refl w5) _⟩).gone HK.out hbk⟩
    case measure => simp [intOf]; omega
  ·obtain rfl : k = O.length := by omega
   have HI := Lib.hid hinv
   clear hinv
   go_wp2_with fail
   go_ret
   have hI := HI.out
   have hp := hI.perm
   have hr := hI.row
   rw [List.take_length] at hp hr
   exact ⟨_, O, rem, R, F2, rfl, HPk.out, HC.out, row_base hr fun b hb => (hI.rowb b hb).1, fun b hb => (hI.rowb b hb).2, hI.heap, hp, hI.rum, hI.fr, hI.sub⟩
end
section
open Go Go.RowKit
theorem nodup_le {l m : List Nat} (h : l.Nodup) (hs : ∀ x ∈ l, x ∈ m) : l.length ≤ m.length := by
 induction l generalizing m with
 | nil => simp
 | cons x l ih =>
  have hx : x ∈ m := hs x (by simp)
  rw [List.nodup_cons] at h
  have := ih (m := m.erase x) h.2 (fun y hy => by
   have hne : y ≠ x := fun e => h.1 (e ▸ hy)
   exact (List.mem_erase_of_ne hne).2 (hs y (by simp [hy])))
  rw [List.length_erase_of_mem hx] at this
  have hp : 0 < m.length := List.length_pos_of_mem hx
  simp only [List.length_cons]
  omega
structure Fine (often : Nat) (R : List Td) : Prop where
 once : Once R
 good : ∀ t ∈ R, mayK t.c = true ∧ nothingK t.c = false ∧ t.n < often
 pos : 1 ≤ often
 le : often ≤ 20
theorem Fine.node {often : Nat} {R : List Td} (h : Fine often R) {t : Td} (ht : t ∈ R) : 0 ≤ t.c.n ∧ t.c.n < 8 := by
 have := (h.good t ht).1
 simp only [mayK, mayB, decide_eq_true_eq] at this
 exact this.1
theorem Fine.len {often : Nat} {R : List Td} (h : Fine often R) : R.length ≤ 8 := by
 have := nodup_le (l := R.map fun t => t.c.n.toNat) (m := List.range 8) (by
  rw [List.Nodup, List.pairwise_map]
  refine List.Pairwise.imp_of_mem ?_ h.once
  intro a b ha hb hab e
  have h1 := h.node ha
  have h2 := h.node hb
  exact hab (by omega)) (fun x hx => by
  rw [List.mem_map] at hx
  obtain ⟨t, ht, rfl⟩ := hx
  have := h.node ht
  rw [List.mem_range]
  omega)
 simpa using this
theorem Fine.perm {often : Nat} {R R' : List Td} (h : Fine often R) (hp : R.Perm R') : Fine often R' := ⟨once_perm hp h.once, fun t ht => h.good t (hp.symm.subset ht), h.pos, h.le⟩
theorem Fine.nil {often : Nat} (h1 : 1 ≤ often) (h2 : often ≤ 20) : Fine often [] := ⟨List.Pairwise.nil, fun t ht => by simp at ht, h1, h2⟩
theorem putOf_bad {L : List Td} {c : Cl} (h : mayK c = false ∨ nothingK c = true) : putOf L c = (L, false) := by unfold putOf; rw [if_pos h]
theorem putOf_new {L : List Td} {c : Cl} (hm : mayK c = true) (hn : nothingK c = false) (h : hasOf L c.n = none) : putOf L c = (L ++ [⟨c, 0⟩], true) := by
 have hf : L.findIdx? (fun t => t.c.n == c.n) = none := by
  rw [List.findIdx?_eq_none_iff]
  unfold hasOf at h
  rw [List.find?_eq_none] at h
  intro x hx
  simpa using h x hx
 unfold putOf
 rw [if_neg (by rw [hm, hn]; simp), hf]
theorem putOf_old {L : List Td} {c : Cl} {t : Td} (hm : mayK c = true) (hn : nothingK c = false) (h : hasOf L c.n = some t) : ∃ k, L[k]? = some t ∧ t.c.n = c.n ∧ (∀ j, j < k → ∀ u, L[j]? = some u → u.c.n ≠ c.n) ∧ putOf L c = if 0 ≤ cmpK t.c c then (L, false) else (L.set k ⟨c, 0⟩, true) := by
 rcases find_ix L c.n with ⟨h0, _⟩ | ⟨k, t', h0, hk, hix, hn'⟩
 ·rw [h0] at h; cases h
 ·rw [h0] at h
  obtain rfl := Option.some.inj h
  cases hf : L.findIdx? (fun t => t.c.n == c.n) with
  | none => exfalso; simp [atIx, hf] at hix <;> omega
  | some k' =>
   have : k' = k := by simp [atIx, hf] at hix; omega
   subst this
   refine ⟨k', hk, hn', fun j hj u hu => ?_, ?_⟩
   ·rw [List.findIdx?_eq_some_iff_getElem] at hf
    obtain ⟨hlt, h1, h2⟩ := hf
    obtain ⟨hjl, rfl⟩ := List.getElem?_eq_some_iff.1 hu
    simpa using h2 j hj
   ·unfold putOf
    rw [if_neg (by rw [hm, hn]; simp), hf]
    simp only [hk]
theorem once_set {L : List Td} (h : Once L) {k : Nat} {t u : Td} (hk : L[k]? = some t) (hn : u.c.n = t.c.n) : Once (L.set k u) := by
 unfold Once at *
 rw [List.pairwise_iff_getElem] at *
 intro i j hi hj hij
 rw [List.length_set] at hi hj
 obtain ⟨hkl, hke⟩ := List.getElem?_eq_some_iff.1 hk
 have := h i j hi hj hij
 rw [List.getElem_set, List.getElem_set]
 split
 ·rename_i e
  subst e
  split
  ·omega
  ·rw [hn, ← hke]; exact this
 ·split
  ·rename_i e
   subst e
   rw [hn, ← hke]; exact this
  ·exact this
theorem Fine.put {often : Nat} {R : List Td} (h : Fine often R) (c : Cl) : Fine often (putOf R c).1 := by
 by_cases hbad : mayK c = false ∨ nothingK c = true
 ·rw [putOf_bad hbad]; exact h
 ·have hm : mayK c = true := by cases hm : mayK c <;> simp_all
  have hn : nothingK c = false := by cases hn : nothingK c <;> simp_all
  cases hf : hasOf R c.n with
  | none =>
   rw [putOf_new hm hn hf]
   refine ⟨?_, fun t ht => ?_, h.pos, h.le⟩
   ·unfold Once
    rw [List.pairwise_append]
    refine ⟨h.once, by simp, fun a ha b hb => ?_⟩
    obtain rfl : b = ⟨c, 0⟩ := by simpa using hb
    unfold hasOf at hf
    rw [List.find?_eq_none] at hf
    simpa using hf a ha
   ·rcases List.mem_append.1 ht with h1 | h1
    ·exact h.good t h1
    ·obtain rfl : t = ⟨c, 0⟩ := by simpa using h1
     exact ⟨hm, hn, h.pos⟩
  | some t =>
   obtain ⟨k, hk, hn', _, he⟩ := putOf_old hm hn hf
   rw [he]
   split
   ·exact h
   ·refine ⟨once_set h.once hk hn'.symm, fun u hu => ?_, h.pos, h.le⟩
    rcases List.mem_or_eq_of_mem_set hu with h1 | rfl
    ·exact h.good u h1
    ·exact ⟨hm, hn, h.pos⟩
theorem backOf_mem {often : Nat} {O : List Td} {t : Td} (h : t ∈ backOf often O) : t.n < often ∧ ∃ u ∈ O, t.c = u.c ∧ t.n = u.n + 1 := by
 unfold backOf at h
 rw [List.mem_filter, List.mem_map] at h
 obtain ⟨⟨u, hu, rfl⟩, h2⟩ := h
 exact ⟨by simpa using h2, u, hu, rfl, rfl⟩
theorem once_backOf {often : Nat} {O : List Td} (h : Once O) : Once (backOf often O) := by
 unfold backOf Once
 refine List.Pairwise.sublist List.filter_sublist ?_
 rw [List.pairwise_map]
 exact h
theorem Fine.take {often : Nat} {R O rem R' : List Td} (h : Fine often R) (hp : Picked R O rem) (hr : R'.Perm (rem ++ backOf often O)) : Fine often R' := by
 have ho := once_perm hp.perm.symm h.once
 unfold Once at ho
 rw [List.pairwise_append] at ho
 refine Fine.perm (R := rem ++ backOf often O) ⟨?_, fun t ht => ?_, h.pos, h.le⟩ hr.symm
 ·unfold Once
  rw [List.pairwise_append]
  refine ⟨ho.2.1, once_backOf ho.1, fun a ha b hb => ?_⟩
  obtain ⟨_, u, hu, he, _⟩ := backOf_mem hb
  rw [he]
  exact fun e => ho.2.2 u hu a ha e.symm
 ·rcases List.mem_append.1 ht with h1 | h1
  ·exact h.good t (hp.perm.subset (List.mem_append_right _ h1))
  ·obtain ⟨hlt, u, hu, he, _⟩ := backOf_mem h1
   have := h.good u (hp.perm.subset (List.mem_append_left _ hu))
   rw [he]
   exact ⟨this.1, this.2.1, hlt⟩
section
variable {W0 : World} {G : List Nat} {q often : Nat} {R : List Td} {W : World}
end
end
section
open Go Go.RowKit
end
section
open Go Go.RowKit
section
variable {W0 : World} {G : List Nat} {q often : Nat} {W : World}
end
section
variable {w : World} {often : Nat} {c : Cl} {R : List Td} {W : World}
end
end
section
open Go Go.RowKit
section
variable {w : World} {cb q often : Nat} {R : List Td} {f : Nat → Int} {W : World}
end
theorem hasOf_mem {R : List Td} {n : Int} {t : Td} (h : hasOf R n = some t) : t ∈ R ∧ t.c.n = n := by
 unfold hasOf at h
 exact ⟨List.mem_of_find?_eq_some h, by simpa using List.find?_some h⟩
theorem hasOf_once {R : List Td} (ho : Once R) {t : Td} (ht : t ∈ R) : hasOf R t.c.n = some t := by
 cases hf : hasOf R t.c.n with
 | none =>
  unfold hasOf at hf
  rw [List.find?_eq_none] at hf
  have := hf t ht
  simp at this
 | some u =>
  obtain ⟨hu, hn⟩ := hasOf_mem hf
  congr 1
  unfold Once at ho
  by_cases e : u = t
  ·exact e
  ·exfalso
   rw [List.pairwise_iff_forall_sublist] at ho
   rcases List.mem_iff_getElem.1 hu with ⟨i, hi, rfl⟩
   rcases List.mem_iff_getElem.1 ht with ⟨j, hj, rfl⟩
   have ho' := List.pairwise_iff_forall_sublist.2 @ho
   rw [List.pairwise_iff_getElem] at ho'
   rcases Nat.lt_trichotomy i j with h | h | h
   ·exact ho' i j hi hj h hn
   ·subst h; exact e rfl
   ·exact ho' j i hj hi h hn.symm
end
section
open Go Go.RowKit
def mu (often : Nat) (R : List Td) : Nat := (R.map fun t => often - t.n).sum
theorem hasOf_none {R : List Td} {n : Int} : hasOf R n = none ↔ ∀ t ∈ R, t.c.n ≠ n := by
 unfold hasOf
 rw [List.find?_eq_none]
 simp
end
section
open Go Go.RowKit
theorem hasOf_perm {R L : List Td} (h : R.Perm L) (ho : Once R) (n : Int) : hasOf R n = hasOf L n := by
 cases hR : hasOf R n with
 | none =>
  symm
  rw [hasOf_none] at hR ⊢
  exact fun t ht => hR t (h.symm.subset ht)
 | some t =>
  obtain ⟨ht, hn⟩ := hasOf_mem hR
  have := hasOf_once (once_perm h ho) (h.subset ht)
  rw [hn] at this
  exact this.symm
theorem set_perm' {t x : Td} : ∀ {R : List Td} {k : Nat}, R[k]? = some t → (R.set k x).Perm (x :: R.eraseIdx k) ∧ R.Perm (t :: R.eraseIdx k)
 | [], _, hk => by simp at hk
 | y :: R, 0, hk => by
  obtain rfl : y = t := by simpa using hk
  simp
 | y :: R, k + 1, hk => by
  obtain ⟨h1, h2⟩ := set_perm' (x := x) (R := R) (k := k) (by simpa using hk)
  simp only [List.set_cons_succ, List.eraseIdx_cons_succ]
  exact ⟨(h1.cons y).trans (List.Perm.swap _ _ _), (h2.cons y).trans (List.Perm.swap _ _ _)⟩
theorem putOf_perm {R L : List Td} (h : R.Perm L) (ho : Once R) (c : Cl) : (putOf R c).2 = (putOf L c).2 ∧ (putOf R c).1.Perm (putOf L c).1 := by
 by_cases hbad : mayK c = false ∨ nothingK c = true
 ·rw [putOf_bad hbad, putOf_bad hbad]; exact ⟨rfl, h⟩
 ·have hm : mayK c = true := by cases hm : mayK c <;> simp_all
  have hn : nothingK c = false := by cases hn : nothingK c <;> simp_all
  have hh := hasOf_perm h ho c.n
  cases hR : hasOf R c.n with
  | none =>
   rw [putOf_new hm hn hR, putOf_new hm hn (hh.symm.trans hR)]
   exact ⟨rfl, h.append_right _⟩
  | some t =>
   obtain ⟨k, hk, _, _, e⟩ := putOf_old hm hn hR
   obtain ⟨k', hk', _, _, e'⟩ := putOf_old hm hn (hh.symm.trans hR)
   rw [e, e']
   split
   ·exact ⟨rfl, h⟩
   ·obtain ⟨a1, a2⟩ := set_perm' (x := ⟨c, 0⟩) hk
    obtain ⟨b1, b2⟩ := set_perm' (x := ⟨c, 0⟩) hk'
    have := ((a2.symm.trans h).trans b2).cons_inv
    exact ⟨rfl, a1.trans ((this.cons _).trans b1.symm)⟩
theorem rest_perm {often : Nat} {L O : List Td} {tk : Int → Bool} (ho : Once L) (hn : ∀ t ∈ L, t.n < often) (hp : Picked L O (leftOf L tk)) : (restOf often tk L).Perm (leftOf L tk ++ backOf often O) := by
 have hon := once_perm hp.perm.symm ho
 unfold Once at hon
 rw [List.pairwise_append] at hon
 have hO : ∀ t ∈ O, tk t.c.n = true := fun t ht => by
  cases e : tk t.c.n with
  | true => rfl
  | false =>
   have hl : t ∈ leftOf L tk := by
    unfold leftOf
    rw [List.mem_filter]
    exact ⟨hp.perm.subset (List.mem_append_left _ ht), by simp [e]⟩
   exact absurd rfl (hon.2.2 t ht t hl)
 have hl : ∀ t ∈ leftOf L tk, tk t.c.n = false ∧ t.n < often := fun t ht => by
  have h1 := ht
  unfold leftOf at h1
  rw [List.mem_filter] at h1
  exact ⟨by simpa using h1.2, hn t h1.1⟩
 have h1 : restOf often tk (O ++ leftOf L tk) = restOf often tk O ++ restOf often tk (leftOf L tk) := by simp [restOf]
 have h2 : restOf often tk O = backOf often O := by
  unfold restOf backOf
  congr 1
  exact List.map_congr_left fun t ht => by unfold toldUp; rw [if_pos (hO t ht)]
 have h3 : restOf often tk (leftOf L tk) = leftOf L tk := by
  unfold restOf
  have e : (leftOf L tk).map (toldUp tk) = leftOf L tk := by
   have : (leftOf L tk).map (toldUp tk) = (leftOf L tk).map id := List.map_congr_left fun t ht => by unfold toldUp; rw [if_neg (by simp [(hl t ht).1])]; rfl
   rw [this, List.map_id]
  rw [e, List.filter_eq_self]
  exact fun t ht => by simpa using (hl t ht).2
 have h4 := restOf_perm (often := often) (tk := tk) hp.perm.symm
 rw [h1, h2, h3] at h4
 exact h4.trans List.perm_append_comm
section
variable {w : World} {G : List Nat} {q m often : Nat} {R L : List Td} {W : World}
end
end
end Go.Proofs.YtjbihgfdgaiecaaGreat
