/- The landed clock: its memory; New, Len, indexOf, At. -/
import Derived.Test.YtcmidomgnbodiaaWatC
import Derived.Deep.WholeRow
namespace Go.Proofs.Ytcmidomgnbodiaa
open Go Go.RowKit

def elemW : Elem Try.prog Mo where
  enc m := [.int .i64 m.n, .int .i64 m.t]
  k := 2
  pos := by decide
  len _ := rfl
  one _ u hu := by
    simp only [List.mem_cons, List.not_mem_nil, or_false] at hu
    rcases hu with rfl | rfl <;> rfl
  t := 55
  sl := 48
  under := Try.underlying48
  z := .agg #[.int .i64 0, .int .i64 0]
  bytes := 16
  bpos := by decide
  info := by kernel_rfl
  zs := by kernel_rfl

def cellsW (L : List Mo) : List Value := elemW.cells L
theorem cellsW_len (L : List Mo) : (cellsW L).length = L.length * 2 := elemW.cells_len L
theorem cellsW_snoc (L : List Mo) (x : Mo) : cellsW (L ++ [x]) = cellsW L ++ [.int .i64 x.n, .int .i64 x.t] := by
  unfold cellsW
  rw [elemW.cells_append]
  rfl
theorem cellsW_at (L : List Mo) (k : Nat) (x : Mo) (h : L[k]? = some x) : (cellsW L)[k * 2]? = some (.int .i64 x.n) ∧ (cellsW L)[k * 2 + 1]? = some (.int .i64 x.t) :=
  ⟨elemW.cells_at L k x 0 _ h rfl, elemW.cells_at L k x 1 _ h rfl⟩

/-- The landed clock at block q: its moments, as the row holds them; the blocks that it owns. -/
def ClkQ (q : Nat) (L : List Mo) (W : World) (F : Nat → Prop) : Prop :=
  ∃ v, W.heap[q]? = some (.cells #[v] 50 (0, 0)) ∧ W.ownsRow 0 55 2 v L.length (cellsW L) ∧ ∀ k, F k ↔ (k = q ∨ v.ownBlock = some k)
theorem clkQ_owns (q : Nat) (L : List Mo) : Owns (ClkQ q L) where
  lt W F h k hk := by
    obtain ⟨v, hq, hr, hF⟩ := h
    rcases (hF k).1 hk with rfl | h1
    · exact (Array.getElem?_eq_some_iff.1 hq).1
    · exact (hr.lt k h1).2
  kept W W' F h hs hk := by
    obtain ⟨v, hq, hr, hF⟩ := h
    refine ⟨v, (hk q ((hF q).2 (.inl rfl))).trans hq, ⟨hr.1, ?_⟩, hF⟩
    rcases hr.2 with h1 | ⟨g, cap, cur, rfl, hb, hg, rest⟩
    · exact .inl h1
    · exact .inr ⟨g, cap, cur, rfl, hb, (hk g ((hF g).2 (.inr rfl))).trans hg, rest⟩

/-- What a walk wants of it. -/
structure ClkCells (W : World) (q : Nat) (L : List Mo) (p : Option Addr) (cap : Nat) : Prop where
  lt : q < W.heap.size
  h1 : W.cell? ⟨q, 0, none⟩ = some (.slice p L.length cap)
  f1 : W.frozen? ⟨q, 0, none⟩ = false
  row : L = [] ∨ ∃ g, p = some ⟨g, 0, none⟩ ∧ g < W.heap.size ∧ g ≠ q ∧ (∀ j, W.frozen? ⟨g, j, none⟩ = false) ∧ ∀ k t, L[k]? = some t → W.cell? ⟨g, k * 2, none⟩ = some (.int .i64 t.n) ∧ W.cell? ⟨g, k * 2 + 1, none⟩ = some (.int .i64 t.t)
theorem clk_apart {q : Nat} {L : List Mo} {W : World} {v : Value} (hq : W.heap[q]? = some (.cells #[v] 50 (0, 0))) (hr : W.ownsRow 0 55 2 v L.length (cellsW L)) : some q ≠ v.ownBlock := by
  intro e
  rcases hr.2 with ⟨rfl, _⟩ | ⟨g, cap, cur, rfl, _, hg, _⟩
  · simp [Value.ownBlock] at e
  · simp [Value.ownBlock] at e
    subst e
    rw [hq] at hg
    simp at hg
theorem ClkQ.cells {q : Nat} {L : List Mo} {W : World} {F : Nat → Prop} (h : ClkQ q L W F) : ∃ p cap, ClkCells W q L p cap := by
  obtain ⟨v, hq, hr, hF⟩ := h
  have hlt := (Array.getElem?_eq_some_iff.1 hq).1
  have e1 : W.cell? ⟨q, 0, none⟩ = some v := by simp [World.cell?, hq]
  have e2 : W.frozen? ⟨q, 0, none⟩ = false := by simp [World.frozen?, hq]
  have hc := fun g (hg : v.ownBlock = some g) => hr.cells hg
  have hl := hr.lt
  have hap := clk_apart hq hr
  rcases hr.2 with ⟨rfl, hn⟩ | ⟨g, cap, cur, rfl, hb, hg, _⟩
  · exact ⟨none, 0, hlt, by rw [e1, hn], e2, .inl (List.eq_nil_of_length_eq_zero hn)⟩
  · refine ⟨_, cap, hlt, e1, e2, .inr ⟨g, rfl, (hl g rfl).2, fun e => hap (by rw [e]; rfl), fun j => by simp [World.frozen?, hg], fun k t hk => ?_⟩⟩
    obtain ⟨a0, a1⟩ := cellsW_at L k t hk
    have := hc g rfl
    simp only [addr_off, Nat.zero_add] at this
    exact ⟨this _ _ a0, this _ _ a1⟩
theorem ClkCells.later {W : World} {q : Nat} {L : List Mo} {p : Option Addr} {cap : Nat} (h : ClkCells W q L p cap) {W' : World} (hb : Below W.heap.size W W') : ClkCells W' q L p cap := by
  refine ⟨Nat.lt_of_lt_of_le h.lt hb.size, (hb.cell (p := ⟨q, _, none⟩) h.lt).trans h.h1, (hb.frozen (p := ⟨q, _, none⟩) h.lt).trans h.f1, ?_⟩
  rcases h.row with h1 | ⟨g, hp, hlt, hne, hf, hc⟩
  · exact .inl h1
  · exact .inr ⟨g, hp, Nat.lt_of_lt_of_le hlt hb.size, hne, fun j => (hb.frozen (p := ⟨g, _, none⟩) hlt).trans (hf j), fun k t hk => by
      obtain ⟨a0, a1⟩ := hc k t hk
      exact ⟨(hb.cell (p := ⟨g, _, none⟩) hlt).trans a0, (hb.cell (p := ⟨g, _, none⟩) hlt).trans a1⟩⟩

theorem newClkQ (w : World) : ClkQ w.heap.size [] (w.alloc (.cells #[.slice none 0 0] 50)) (fun j => j = w.heap.size) :=
  ⟨.slice none 0 0, heap_alloc_new _ _, World.ownsRow_nil _ _ _ _, fun j => by simp [Value.ownBlock]⟩

set_option maxHeartbeats 1000000 in
set_option maxRecDepth 100000 in
theorem newK_any (w : World) : Calls Try.prog 9 #[] w fun e w' => e = .returned (.pointer (some ⟨w.heap.size, 0, none⟩)) ∧ ClkQ w.heap.size [] w' (fun j => j = w.heap.size) ∧ Below w.heap.size w w' := by
  go_enter Try.func9, Try.ntmps9
  go_wp2
  all_goals go_ret
  all_goals exact ⟨rfl, newClkQ _, (Below.refl _ _).alloc (Nat.le_refl _) _⟩

set_option maxHeartbeats 1000000 in
set_option maxRecDepth 100000 in
theorem lenK_any (q : Nat) (L : List Mo) (w : World) (F : Nat → Prop) (h : ClkQ q L w F) : Gives Try.prog 19 #[.pointer (some ⟨q, 0, none⟩)] w (.int .i64 L.length) := by
  unfold Gives
  obtain ⟨p, cap, hc⟩ := h.cells
  have hlt := hc.lt
  have hh1 := hc.h1
  clear h hc
  go_enter Try.func19, Try.ntmps19
  go_wp2_with fail
  go_ret
  exact ⟨rfl, Later.ex (by repeat (first | exact ext_refl _ | refine ext_later ?_ _ | refine ext_alloc ?_ _ | refine ext_drew ?_ | refine ext_drewN ?_ _))⟩

set_option maxHeartbeats 1000000 in
set_option maxRecDepth 100000 in
theorem lenK_nil (w : World) : Gives Try.prog 19 #[.pointer none] w (.int .i64 0) := by
  unfold Gives
  go_enter Try.func19, Try.ntmps19
  go_wp2_with fail
  go_ret
  exact ⟨rfl, Later.ex (by repeat (first | exact ext_refl _ | refine ext_later ?_ _ | refine ext_alloc ?_ _ | refine ext_drew ?_ | refine ext_drewN ?_ _))⟩

/-- Where an id's moment stands. -/
def ixM (L : List Mo) (n : Int) : Int := match L.findIdx? (fun t => t.n == n) with | some k => k | none => -1
theorem ixM_hit {L : List Mo} {n : Int} {k : Nat} {t : Mo} (hk : L[k]? = some t) (ht : t.n = n) (hb : ∀ j, j < k → ∀ u, L[j]? = some u → u.n ≠ n) : ixM L n = k := by
  obtain ⟨hlt, rfl⟩ := List.getElem?_eq_some_iff.1 hk
  have : L.findIdx? (fun t => t.n == n) = some k := by
    rw [List.findIdx?_eq_some_iff_getElem]
    exact ⟨hlt, by simp [ht], fun j hj => by simpa using hb j hj _ (List.getElem?_eq_getElem (by omega))⟩
  simp [ixM, this]
theorem ixM_none {L : List Mo} {n : Int} (hb : ∀ j, j < L.length → ∀ u, L[j]? = some u → u.n ≠ n) : ixM L n = -1 := by
  have : L.findIdx? (fun t => t.n == n) = none := by
    rw [List.findIdx?_eq_none_iff]
    intro x hx
    obtain ⟨j, hj, rfl⟩ := List.getElem_of_mem hx
    simpa using hb j hj _ (List.getElem?_eq_getElem hj)
  simp [ixM, this]
theorem ixM_find (L : List Mo) (n : Int) : (hasM L n = none ∧ ixM L n = -1) ∨ ∃ (k : Nat) (t : Mo), hasM L n = some t ∧ L[k]? = some t ∧ ixM L n = k ∧ t.n = n := by
  cases hf : L.findIdx? (fun t => t.n == n) with
  | none =>
    refine .inl ⟨?_, by simp [ixM, hf]⟩
    rw [List.findIdx?_eq_none_iff] at hf
    unfold hasM
    rw [List.find?_eq_none]
    intro x hx
    simpa using hf x hx
  | some k =>
    rw [List.findIdx?_eq_some_iff_getElem] at hf
    obtain ⟨hlt, h1, h2⟩ := hf
    refine .inr ⟨k, L[k], ?_, List.getElem?_eq_getElem hlt, ?_, by simpa using h1⟩
    · unfold hasM
      rw [List.find?_eq_some_iff_getElem]
      exact ⟨h1, k, hlt, rfl, fun j hj => by simpa using h2 j hj⟩
    · exact ixM_hit (List.getElem?_eq_getElem hlt) (by simpa using h1) fun j hj u hu => by
        obtain ⟨hjl, rfl⟩ := List.getElem?_eq_some_iff.1 hu
        simpa using h2 j hj

set_option maxHeartbeats 1000000 in
set_option maxRecDepth 100000 in
theorem isIdK_any (t : Mo) (b : Nat) (m : Int) (w : World) (hb : b < w.heap.size) (hc : w.cell? ⟨b, 0, none⟩ = some (.int .i64 m)) : Gives Try.prog 28 #[.agg #[.int .i64 t.n, .int .i64 t.t], .pointer (some ⟨b, 0, none⟩)] w (.bool (t.n == m)) := by
  unfold Gives
  have hne : b ≠ w.heap.size := by omega
  obtain ⟨n, k⟩ := t
  dsimp only
  go_enter Try.func28, Try.ntmps28
  go_wp2_with fail
  go_ret
  exact ⟨rfl, Later.ex (by repeat (first | exact ext_refl _ | refine ext_later ?_ _ | refine ext_alloc ?_ _ | refine ext_drew ?_ | refine ext_drewN ?_ _))⟩

set_option maxHeartbeats 1000000 in
set_option maxRecDepth 100000 in
theorem indexFuncK_any (q : Nat) (L : List Mo) (b : Nat) (n : Int) (p : Option Addr) (cap : Nat) (w : World) (hc : ClkCells w q L p cap) (hb : b < w.heap.size) (hn : w.cell? ⟨b, 0, none⟩ = some (.int .i64 n)) (hL : L.length ≤ 2000) : Gives Try.prog 27 #[.slice p L.length cap, .func (.func 28) #[] #[.pointer (some ⟨b, 0, none⟩)]] w (.int .i64 (ixM L n)) := by
  unfold Gives
  have HC := Lib.hid hc
  clear hc
  go_enter Try.func27, Try.ntmps27
  go_wp2_with fail
  go_loopw [5, 8] (fun _ i wr => ∃ k : Nat, k ≤ L.length ∧ i = .int .i64 k ∧ (∀ j, j < k → ∀ u, L[j]? = some u → u.n ≠ n) ∧ ∃ x : Later w, wr = x.w) (fun _ i _ => L.length - (intOf i).toNat)
  case atStart => exact ⟨0, by omega, rfl, fun j hj => by omega, ⟨w, Below.refl _ _⟩, rfl⟩
  case round =>
    obtain ⟨k, hk, rfl, hno, x, rfl⟩ := hrel
    have HN := Lib.hid hno
    clear hno
    by_cases hkl : k < L.length
    · obtain ⟨t, hkc⟩ : ∃ t, L[k]? = some t := ⟨_, List.getElem?_eq_getElem hkl⟩
      rcases HC.out.row with h0 | ⟨g, rfl, hg, hgq, _, hcell⟩
      · rw [h0] at hkl; simp at hkl
      have HI := Lib.hid (isIdK_any t b n x.w (Nat.lt_of_lt_of_le hb x.below.size) ((x.below.cell (p := ⟨b, _, none⟩) hb).trans hn))
      obtain ⟨m, t⟩ := t
      obtain ⟨a0, a1⟩ := hcell k _ hkc
      have hc0 : x.w.cell? ⟨g, k * 2, none⟩ = some (.int .i64 m) := (x.below.cell (p := ⟨g, _, none⟩) hg).trans a0
      have hc1 : x.w.cell? ⟨g, k * 2 + 1, none⟩ = some (.int .i64 t) := (x.below.cell (p := ⟨g, _, none⟩) hg).trans a1
      clear a0 a1 hcell
      have HK := Lib.hid hkc
      clear hkc
      dsimp only at HI
      cases hm : ((m : Int) == n) with
      | true =>
        rw [hm] at HI
        have HA : Hid (ixM L n = k) := Lib.hid (ixM_hit HK.out (by simpa using hm) HN.out)
        go_wp2_with fail
        refine Gives.on HI.out ?_
        intro x2
        go_wp2_with fail
        go_ret
        exact ⟨by rw [HA.out]; rfl, Later.ex (by repeat (first | exact ext_refl _ | refine ext_later ?_ _ | refine ext_alloc ?_ _ | refine ext_drew ?_ | refine ext_drewN ?_ _))⟩
      | false =>
        rw [hm] at HI
        have HM : Hid (m ≠ n) := Lib.hid (by simpa using hm)
        go_wp2_with fail
        refine Gives.on HI.out ?_
        intro x2
        go_wp2_with fail
        go_roundw
        case rel =>
          refine ⟨k + 1, by omega, by go_num, fun j hj u hu => ?_, x2, rfl⟩
          by_cases e : j = k
          · subst e
            rw [HK.out] at hu
            obtain rfl := Option.some.inj hu
            exact HM.out
          · exact HN.out j (by omega) u hu
        case measure => simp [intOf]; omega
    · obtain rfl : k = L.length := by omega
      have HA : Hid (ixM L n = -1) := Lib.hid (ixM_none HN.out)
      go_wp2_with fail
      go_ret
      exact ⟨by rw [HA.out]; rfl, Later.ex (by repeat (first | exact ext_refl _ | refine ext_later ?_ _ | refine ext_alloc ?_ _ | refine ext_drew ?_ | refine ext_drewN ?_ _))⟩

set_option maxHeartbeats 1000000 in
set_option maxRecDepth 100000 in
theorem indexOfK_any (q : Nat) (L : List Mo) (n : Int) (p : Option Addr) (cap : Nat) (w : World) (hc : ClkCells w q L p cap) (hL : L.length ≤ 2000) : Gives Try.prog 21 #[.slice p L.length cap, .int .i64 n] w (.int .i64 (ixM L n)) := by
  unfold Gives
  have HI := Lib.hid (indexFuncK_any q L w.heap.size n p cap (w.alloc (.cells #[.int .i64 n] 3)) (hc.later (ext_alloc (ext_refl w) _)) (by simp) (by simp) hL)
  clear hc
  go_enter Try.func21, Try.ntmps21
  go_wp2_with fail
  refine Gives.mono' HI.out ?_
  intro x
  go_wp2_with fail
  go_ret
  exact ⟨rfl, Later.ex (by repeat (first | exact ext_refl _ | refine ext_later ?_ _ | refine ext_alloc ?_ _ | refine ext_drew ?_ | refine ext_drewN ?_ _))⟩

set_option maxHeartbeats 1000000 in
set_option maxRecDepth 100000 in
theorem atK_nil (n : Int) (w : World) : Gives Try.prog 17 #[.pointer none, .int .i64 n] w (atV none) := by
  unfold Gives
  go_enter Try.func17, Try.ntmps17
  go_wp2_with fail
  exact bodyPost_ret (v := atV none) (by simp [results, Try.results17, go_sem, atV]) rfl ⟨rfl, Later.ex (by repeat (first | exact ext_refl _ | refine ext_alloc ?_ _ | refine ext_later ?_ _ | refine ext_drew ?_ | refine ext_drewN ?_ _))⟩

set_option maxHeartbeats 1000000 in
set_option maxRecDepth 100000 in
theorem atK_any (q : Nat) (L : List Mo) (n : Int) (w : World) (F : Nat → Prop) (h : ClkQ q L w F) (hL : L.length ≤ 2000) : Gives Try.prog 17 #[.pointer (some ⟨q, 0, none⟩), .int .i64 n] w (atV (hasM L n)) := by
  unfold Gives
  obtain ⟨p, cap, hc⟩ := h.cells
  have hlt := hc.lt
  have hh1 := hc.h1
  have HI := Lib.hid (fun x : Later w => indexOfK_any q L n p cap x.w (hc.later x.below) hL)
  have HC := Lib.hid hc
  clear h hc
  rcases ixM_find L n with ⟨hn, ha⟩ | ⟨k, ⟨m, t⟩, hn, hk, ha, hm⟩
  · rw [hn]
    rw [ha] at HI
    clear hn ha
    go_enter Try.func17, Try.ntmps17
    go_wp2_with fail
    all_goals refine Gives.on (HI.out ⟨_, by repeat (first | exact ext_refl _ | refine ext_later ?_ _ | refine ext_alloc ?_ _ | refine ext_drew ?_ | refine ext_drewN ?_ _)⟩) ?_
    all_goals intro x
    all_goals go_wp2_with fail
    all_goals exact bodyPost_ret (v := atV none) (by simp [results, Try.results17, go_sem, atV]) rfl ⟨rfl, Later.ex (by repeat (first | exact ext_refl _ | refine ext_alloc ?_ _ | refine ext_later ?_ _ | refine ext_drew ?_ | refine ext_drewN ?_ _))⟩
  · rw [hn]
    rw [ha] at HI
    have hkl := (List.getElem?_eq_some_iff.1 hk).1
    rcases HC.out.row with h0 | ⟨g, rfl, hg, hgq, _, hcell⟩
    · rw [h0] at hkl; simp at hkl
    obtain ⟨a0, a1⟩ := hcell k _ hk
    dsimp only at a0 a1
    have HV : Hid (atV (some ⟨m, t⟩) = .tuple #[.int .i64 t, .bool true]) := Lib.hid rfl
    clear hn ha hcell hk hm
    go_enter Try.func17, Try.ntmps17
    go_wp2_with fail
    all_goals refine Gives.on (HI.out ⟨_, by repeat (first | exact ext_refl _ | refine ext_later ?_ _ | refine ext_alloc ?_ _ | refine ext_drew ?_ | refine ext_drewN ?_ _)⟩) ?_
    all_goals intro x
    all_goals go_wp2_with fail
    all_goals
      rw [HV.out]
      exact bodyPost_ret (v := .tuple #[.int .i64 t, .bool true]) (by simp [results, Try.results17, go_sem]) rfl ⟨rfl, Later.ex (by repeat (first | exact ext_refl _ | refine ext_alloc ?_ _ | refine ext_later ?_ _ | refine ext_drew ?_ | refine ext_drewN ?_ _))⟩
end Go.Proofs.Ytcmidomgnbodiaa
