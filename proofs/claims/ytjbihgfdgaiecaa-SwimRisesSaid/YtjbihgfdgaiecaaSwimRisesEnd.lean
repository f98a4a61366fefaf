/- SwimRises for every input: whatever the arguments, the law answers true, and nothing that was there has turned. -/
import Derived.Test.YtjbihgfdgaiecaaPJ
import Derived.Test.YtjbihgfdgaiecaaChecked
import Derived.Test.YtjbihgfdgaiecaaRows
import Derived.Test.YtjbihgfdgaiecaaPI
namespace Go.Proofs.Ytjbihgfdgaiecaa
open Go Go.RowKit Go.BigFrame

theorem compare_d (n1 i1 h1 n2 i2 h2 : Int) : Does Try.prog 23 #[cl3 n1 i1 h1, cl3 n2 i2 h2] [] (.int .i64 (cmpC i1 h1 i2 h2)) [] := Does.of_any fun W => compare_any n1 i1 h1 n2 i2 h2 W
structure RisS (me : Int) (s : DS) (k : Nat) : Prop where
  self : s.self = me
  ok : LOk s
  mine : Mine s
  now : s.now ≤ (k : Int)
structure StepR (s s' : DS) : Prop where
  V : ∀ j, kle (s.V j) (s'.V j)
  inc : s.inc ≤ s'.inc
theorem ris_new {me inc : Int} (h0 : 0 ≤ me ∧ me < 8) (h1 : 0 ≤ inc ∧ inc ≤ 1000000) : RisS me (newD me inc) 0 := ⟨rfl, lok_new h0 h1, mine_newD h0 h1, by show (0 : Int) ≤ ((0 : Nat) : Int); decide⟩
theorem RisS.hear {me : Int} {s : DS} {k : Nat} (h : RisS me s k) (c : Cl) : RisS me (hearCall s c).1 (k + 1) ∧ StepR s (hearCall s c).1 ∧ (hearCall s c).1.left = s.left :=
  ⟨⟨(up_hearCall s c).self.trans h.self, lok_hearCall h.ok c, mine_hearCall h.mine c, by rw [(up_hearCall s c).now]; have := h.now; omega⟩, ⟨(up_hearCall s c).V, (up_hearCall s c).inc⟩, (up_hearCall s c).left⟩
theorem RisS.handle {me : Int} {s : DS} {k : Nat} (h : RisS me s k) (m : InM) (l : List Cl) : RisS me (handleD s (m.mm l)).1 (k + 1) ∧ StepR s (handleD s (m.mm l)).1 ∧ (handleD s (m.mm l)).1.left = s.left :=
  ⟨⟨(up_handleD s _).self.trans h.self, lok_handle h.ok, mine_handleD h.mine _, by rw [(up_handleD s _).now]; have := h.now; omega⟩, ⟨(up_handleD s _).V, (up_handleD s _).inc⟩, (up_handleD s _).left⟩
theorem lok_leave {s : DS} (h : LOk s) : LOk (leaveD s).1 := by
  unfold leaveD
  split
  · exact h
  · exact ⟨h.self, h.inc, h.now, h.seq, h.asked⟩
theorem RisS.leave {me : Int} {s : DS} {k : Nat} (h : RisS me s k) : RisS me (leaveD s).1 (k + 1) ∧ StepR s (leaveD s).1 ∧ (leaveD s).1.left = true := by
  obtain ⟨r1, r2, r3, _⟩ := leaveD_rest s
  exact ⟨⟨r1.trans h.self, lok_leave h.ok, mine_leaveD h.mine, by rw [r3]; have := h.now; omega⟩, ⟨leaveD_V s, by rw [r2]; omega⟩, leaveD_left s⟩
theorem lok_ask {x : DS × List MM} (h : LOk x.1) (peers : List Int) (draw : Int) : LOk (askD peers draw x).1 := by
  unfold askD
  split
  · exact h
  · dsimp only
    have hn := nextOf_in (self := x.1.self) (O := x.1.O) (l := peers) (draw := draw)
    split
    · exact ⟨h.self, h.inc, h.now, h.seq, by dsimp only; omega⟩
    · refine ⟨h.self, h.inc, h.now, ?_, by show -1 ≤ (nextOf x.1.self x.1.O peers draw).1 ∧ (nextOf x.1.self x.1.O peers draw).1 < 8; omega⟩
      have := h.seq
      show 0 ≤ (if 1000000 < x.1.seq + 1 then (1 : Int) else x.1.seq + 1) ∧ (if 1000000 < x.1.seq + 1 then (1 : Int) else x.1.seq + 1) ≤ 1000000
      split <;> omega
theorem lok_dueK {s : DS} (h : LOk s) (hl : s.left = false) (peers : List Int) (draw : Int) (ids : List Int) : ∀ k, LOk (dueK peers draw ids s k).1
  | 0 => by rw [dueK_zero]; exact h
  | k + 1 => by
    cases hk : ids[k]? with
    | none =>
      have : ids.length ≤ k := List.getElem?_eq_none_iff.1 hk
      have e : dueK peers draw ids s (k + 1) = dueK peers draw ids s k := by unfold dueK; rw [List.take_of_length_le (by omega), List.take_of_length_le (by omega)]
      rw [e]
      exact lok_dueK h hl peers draw ids k
    | some y =>
      rw [dueK_succ hk]
      exact lok_due (lok_dueK h hl peers draw ids k) ((dueK_up peers draw ids s k).left.trans hl) peers draw y
theorem lok_tick {s : DS} (h : LOk s) (hn : s.now < 100000) (peers : List Int) (draw : Int) : LOk (tickD s peers draw).1 := by
  have h1 : LOk { s with now := s.now + 1 } := ⟨h.self, h.inc, ⟨by have := h.now; show 0 ≤ s.now + 1; omega, by show s.now + 1 ≤ 100000; omega⟩, h.seq, h.asked⟩
  cases hl : s.left with
  | true => rw [tickD_left peers draw hl]; exact h1
  | false =>
    rw [tickD_go peers draw _ hl rfl (Nat.le_refl _)]
    have h2 : LOk { s with now := s.now + 1, C := restM s.C (s.now + 1) } := ⟨h1.self, h1.inc, h1.now, h1.seq, h1.asked⟩
    exact lok_ask (lok_dueK h2 hl peers draw _ _) peers draw
theorem RisS.tick {me : Int} {s : DS} {k : Nat} (h : RisS me s k) (hk : k < 80) (peers : List Int) (draw : Int) : RisS me (tickD s peers draw).1 (k + 1) ∧ StepR s (tickD s peers draw).1 ∧ (tickD s peers draw).1.left = s.left := by
  have u := up_tickD s peers draw
  have hn := h.now
  exact ⟨⟨u.self.trans h.self, lok_tick h.ok (by omega) peers draw, mine_tickD h.mine peers draw, by rw [u.now]; show s.now + 1 ≤ _; omega⟩, ⟨u.V, u.inc⟩, u.left⟩
/-- What was believed, against what is believed now. -/
theorem ris_said {s s' : DS} (hv : VwOk s.V) (hs : StepR s s') {x : Cl} (hx : x ∈ saidV s.V) : ∃ i h, ofV s'.V x.n = ⟨x.n, i, h⟩ ∧ decide (cmpC i h x.i x.h < 0) = false := by
  obtain ⟨k, hk, hV, _⟩ := (mem_said _ _).1 hx
  have hn : x.n = (k : Int) := by rw [← hV]; exact (hv k hk).1
  refine ⟨_, _, ofV_node (by omega), ?_⟩
  have h1 : cmpC (s.V k).i (s.V k).h (s'.V k).i (s'.V k).h ≤ 0 := hs.V k
  have e : x.n.toNat = k := by omega
  rw [e]
  rw [hV] at h1
  have h2 := cmpC_neg x.i x.h (s'.V k).i (s'.V k).h
  exact decide_eq_false (by omega)
theorem ris_own {me : Int} {s : DS} {k : Nat} (h : RisS me s k) (hl : s.left = false) : ofV s.V me = ⟨me, s.inc, 1⟩ := by rw [← h.self]; exact own_of h.mine hl
theorem ris_gone {me : Int} {s : DS} {k : Nat} (h : RisS me s k) (hl : s.left = true) : ∃ i, ofV s.V me = ⟨me, i, 4⟩ := by
  have h1 := gone_of h.mine hl
  rw [h.self] at h1
  have h0 := h.mine.self
  rw [h.self] at h0
  rw [ofV_node h0] at h1 ⊢
  exact ⟨_, by rw [← h1]⟩
/-- Whom a claim accuses, and what comes of it. -/
def DoubtR (s s2 : DS) (n i h : Int) : Prop := mayK ⟨n, i, h⟩ = false ∨ (mayK ⟨n, i, h⟩ = true ∧ decide (s.inc ≤ i) = false) ∨ (mayK ⟨n, i, h⟩ = true ∧ decide (s.inc ≤ i) = true ∧ (0 ≤ i ∧ i ≤ 1000000) ∧ (s2.inc == i + 1) = true) ∨ (mayK ⟨n, i, h⟩ = true ∧ decide (s.inc ≤ i) = true ∧ (0 ≤ i ∧ i ≤ 1000000) ∧ (s2.inc == i + 1) = false ∧ s2.over = true ∧ ((i : Int) == 1000000) = true)
theorem ris_doubt {me : Int} {s s2 : DS} {k : Nat} (h : RisS me s k) {n i hh : Int} (hn : n = me) (h2 : hh = 2 ∨ hh = 3) (e : (hearCall s ⟨n, i, hh⟩).1 = s2) : DoubtR s s2 n i hh := by
  unfold DoubtR
  subst e
  cases hm : mayK ⟨n, i, hh⟩ with
  | false => exact .inl rfl
  | true =>
    by_cases hi : s.inc ≤ i
    · have hmi : 0 ≤ i ∧ i ≤ 1000000 := by
        have := (mayK_iff _).1 hm
        dsimp only at this
        omega
      have e2 : n = s.self := hn.trans h.self.symm
      subst e2
      have := hear_doubt h.mine h2 hm hi
      by_cases hx : (hearCall s ⟨s.self, i, hh⟩).1.inc = i + 1
      · exact .inr (.inr (.inl ⟨rfl, decide_eq_true hi, hmi, beq_iff_eq.2 hx⟩))
      · exact .inr (.inr (.inr ⟨rfl, decide_eq_true hi, hmi, beq_eq_false_iff_ne.2 hx, by rcases this with h | h; exact absurd h hx; exact h.1, beq_iff_eq.2 (by rcases this with h | h; exact absurd h hx; exact h.2)⟩))
    · exact .inr (.inl ⟨rfl, decide_eq_false hi⟩)
theorem ris_cases {me : Int} {s s2 : DS} {k : Nat} (h : RisS me s k) {n i hh : Int} (e : (hearCall s ⟨n, i, hh⟩).1 = s2) :
    ((n : Int) == me) = false ∨ (((n : Int) == me) = true ∧ ((hh : Int) == 2) = false ∧ ((hh : Int) == 3) = false) ∨ (((n : Int) == me) = true ∧ ((hh : Int) == 2) = true ∧ DoubtR s s2 n i hh) ∨ (((n : Int) == me) = true ∧ ((hh : Int) == 2) = false ∧ ((hh : Int) == 3) = true ∧ DoubtR s s2 n i hh) := by
  by_cases h1 : n = me
  · by_cases h2 : hh = 2
    · exact .inr (.inr (.inl ⟨beq_iff_eq.2 h1, beq_iff_eq.2 h2, ris_doubt h h1 (.inl h2) e⟩))
    · by_cases h3 : hh = 3
      · exact .inr (.inr (.inr ⟨beq_iff_eq.2 h1, beq_eq_false_iff_ne.2 h2, beq_iff_eq.2 h3, ris_doubt h h1 (.inr h3) e⟩))
      · exact .inr (.inl ⟨beq_iff_eq.2 h1, beq_eq_false_iff_ne.2 h2, beq_eq_false_iff_ne.2 h3⟩)
  · exact .inl (beq_eq_false_iff_ne.2 h1)
theorem ris_args (cs : List CallV) (me inc : Int) : lightB cs = false ∨ (lightB cs = true ∧ nodeB me = false) ∨ (lightB cs = true ∧ nodeB me = true ∧ decide (inc < 0) = true) ∨ (lightB cs = true ∧ nodeB me = true ∧ decide (inc < 0) = false ∧ decide ((1000000 : Int) < inc) = true) ∨ (lightB cs = true ∧ nodeB me = true ∧ decide (inc < 0) = false ∧ decide ((1000000 : Int) < inc) = false ∧ (0 ≤ me ∧ me < 8) ∧ (0 ≤ inc ∧ inc ≤ 1000000)) := by
  cases lightB cs with
  | false => exact .inl rfl
  | true =>
    cases hn : nodeB me with
    | false => exact .inr (.inl ⟨rfl, rfl⟩)
    | true =>
      have h0 : 0 ≤ me ∧ me < 8 := by simpa [nodeB] using hn
      by_cases h1 : inc < 0
      · exact .inr (.inr (.inl ⟨rfl, rfl, decide_eq_true h1⟩))
      · by_cases h2 : (1000000 : Int) < inc
        · exact .inr (.inr (.inr (.inl ⟨rfl, rfl, decide_eq_false h1, decide_eq_true h2⟩)))
        · exact .inr (.inr (.inr (.inr ⟨rfl, rfl, decide_eq_false h1, decide_eq_false h2, h0, by omega, by omega⟩)))
set_option maxHeartbeats 4000000 in
set_option maxRecDepth 100000 in
theorem rises_d (me inc : Int) (W0 : World) (v : Value) (cs : List CallV) (hv : RowAt elemCall W0 v cs) (hq : ∀ y ∈ cs, CallQ W0 y) : Does Try.prog 4 #[.int .i64 me, .int .i64 inc, v] [oldT W0] (.bool true) [oldT W0] := by
  intro w H hp
  have HM0 := Lib.hid (mem_refl hp)
  clear hp
  obtain ⟨p, cap, rfl, -⟩ := hv.form
  go_enter Try.func4, Try.ntmps4
  refine wp_seq ?_
  refine wp_region_N [(0, 1)] (by kernel_rfl) ?_
  refine wpS_this [0] rfl (by kernel_rfl) (by simp only [pickL, nthL, List.cons_append, List.nil_append]; rfl) ?_
  repeat (go_big_quiet_step (fail))
  refine wpQuiet_nil ?_
  refine wpS_nil ?_
  refine then_normal ?_
  refine wp_seq ?_
  refine wp_seq ?_
  rcases ris_args cs me inc with hlb | ⟨hlb, hnb⟩ | ⟨hlb, hnb, gi⟩ | ⟨hlb, hnb, gi, gj⟩ | ⟨hlb, hnb, gi, gj, hme, hinc⟩
  · skip
    refine wp_region_N [(0, 1), (1, 3), (2, 1), (3, 1), (4, 1), (5, 3), (6, 1), (7, 1), (8, 1), (9, 1), (10, 1), (11, 1), (12, 1), (13, 1), (14, 1), (15, 1)] (by kernel_rfl) ?_
    refine wpS_this [0] rfl (by kernel_rfl) (by simp only [pickL, nthL, List.cons_append, List.nil_append]; rfl) ?_
    repeat (go_big_quiet_step (fail))
    refine wpQuiet_nil ?_
    refine wpS_does1 (i := 1) (d := some 17) (rem := []) (out := [_]) rfl (by rfl) rfl Try.call19 (light_d (oldT W0) (.slice p cs.length cap) cs (fun W H h => OldA.row h hv)) rfl HM0.out [0] rfl covS_nil rfl rfl ?_
    rintro W2 hm1 -
    rw [hlb]
    have HM3 := Lib.hid hm1
    clear hm1
    simp only [Act.put, List.setIfInBounds_toArray, List.set_cons_succ, List.set_cons_zero]
    refine wpS_this [2, 3, 4] rfl (by kernel_rfl) (by simp only [pickL, nthL, List.cons_append, List.nil_append]; rfl) ?_
    repeat (go_big_quiet_step (fail))
    refine wpQuiet_nil ?_
    refine wpS_skip (i := 5) (d := some 21) rfl (by rfl) rfl ?_
    simp only [Act.put, List.setIfInBounds_toArray, List.set_cons_succ, List.set_cons_zero]
    refine wpS_this [6, 7, 8, 9, 10, 11, 12, 13, 14, 15] rfl (by kernel_rfl) (by simp only [pickL, nthL, List.cons_append, List.nil_append]; rfl) ?_
    repeat (go_big_quiet_step (fail))
    refine wpQuiet_nil ?_
    refine wpS_nil ?_
    refine then_normal ?_
    refine wp_cond_true rfl ?_
    refine wp_seq ?_
    refine wp_region_N [(0, 3), (1, 1)] (by kernel_rfl) ?_
    refine wpS_does0 (i := 0) (d := some 32) (rem := [_]) (out := [_]) rfl (by rfl) rfl Try.call18 (awake_d)  HM3.out [] rfl covS_nil rfl rfl ?_
    rintro W5 hm4 -
    have HM6 := Lib.hid hm4
    clear hm4
    simp only [Act.put, List.setIfInBounds_toArray, List.set_cons_succ, List.set_cons_zero]
    refine wpS_this [1] rfl (by kernel_rfl) (by simp only [pickL, nthL, List.cons_append, List.nil_append]; rfl) ?_
    repeat (go_big_quiet_step (fail))
    refine wpQuiet_nil ?_
    refine wpS_nil ?_
    refine then_normal ?_
    refine wp_ret ?_
    refine then_ret ?_
    refine bodyPost_ret (results_tmp rfl _ _ _) rfl ?_
    exact does_ret (Mem.only (M := [_]) HM6.out [0] rfl) rfl rfl
  · skip
    refine wp_region_N [(0, 1), (1, 3), (2, 1), (3, 1), (4, 1), (5, 3), (6, 1), (7, 1), (8, 1), (9, 1), (10, 1), (11, 1), (12, 1), (13, 1), (14, 1), (15, 1)] (by kernel_rfl) ?_
    refine wpS_this [0] rfl (by kernel_rfl) (by simp only [pickL, nthL, List.cons_append, List.nil_append]; rfl) ?_
    repeat (go_big_quiet_step (fail))
    refine wpQuiet_nil ?_
    refine wpS_does1 (i := 1) (d := some 17) (rem := []) (out := [_]) rfl (by rfl) rfl Try.call19 (light_d (oldT W0) (.slice p cs.length cap) cs (fun W H h => OldA.row h hv)) rfl HM0.out [0] rfl covS_nil rfl rfl ?_
    rintro W8 hm7 -
    rw [hlb]
    have HM9 := Lib.hid hm7
    clear hm7
    simp only [Act.put, List.setIfInBounds_toArray, List.set_cons_succ, List.set_cons_zero]
    refine wpS_this [2, 3, 4] rfl (by kernel_rfl) (by simp only [pickL, nthL, List.cons_append, List.nil_append]; rfl) ?_
    repeat (go_big_quiet_step (fail))
    refine wpQuiet_nil ?_
    refine wpS_does1 (i := 5) (d := some 21) (rem := [_]) (out := [_]) rfl (by rfl) rfl Try.call20 (refNode_d me) rfl HM9.out [] rfl covS_nil rfl rfl ?_
    rintro W11 hm10 -
    rw [hnb]
    have HM12 := Lib.hid hm10
    clear hm10
    simp only [Act.put, List.setIfInBounds_toArray, List.set_cons_succ, List.set_cons_zero]
    refine wpS_this [6, 7, 8, 9, 10, 11, 12, 13, 14, 15] rfl (by kernel_rfl) (by simp only [pickL, nthL, List.cons_append, List.nil_append]; rfl) ?_
    repeat (go_big_quiet_step (fail))
    refine wpQuiet_nil ?_
    refine wpS_nil ?_
    refine then_normal ?_
    refine wp_cond_true rfl ?_
    refine wp_seq ?_
    refine wp_region_N [(0, 3), (1, 1)] (by kernel_rfl) ?_
    refine wpS_does0 (i := 0) (d := some 32) (rem := [_]) (out := [_]) rfl (by rfl) rfl Try.call18 (awake_d)  HM12.out [] rfl covS_nil rfl rfl ?_
    rintro W14 hm13 -
    have HM15 := Lib.hid hm13
    clear hm13
    simp only [Act.put, List.setIfInBounds_toArray, List.set_cons_succ, List.set_cons_zero]
    refine wpS_this [1] rfl (by kernel_rfl) (by simp only [pickL, nthL, List.cons_append, List.nil_append]; rfl) ?_
    repeat (go_big_quiet_step (fail))
    refine wpQuiet_nil ?_
    refine wpS_nil ?_
    refine then_normal ?_
    refine wp_ret ?_
    refine then_ret ?_
    refine bodyPost_ret (results_tmp rfl _ _ _) rfl ?_
    exact does_ret (Mem.only (M := [_]) HM15.out [0] rfl) rfl rfl
  · skip
    refine wp_region_N [(0, 1), (1, 3), (2, 1), (3, 1), (4, 1), (5, 3), (6, 1), (7, 1), (8, 1), (9, 1), (10, 1), (11, 1), (12, 1), (13, 1), (14, 1), (15, 1)] (by kernel_rfl) ?_
    refine wpS_this [0] rfl (by kernel_rfl) (by simp only [pickL, nthL, List.cons_append, List.nil_append]; rfl) ?_
    repeat (go_big_quiet_step (fail))
    refine wpQuiet_nil ?_
    refine wpS_does1 (i := 1) (d := some 17) (rem := []) (out := [_]) rfl (by rfl) rfl Try.call19 (light_d (oldT W0) (.slice p cs.length cap) cs (fun W H h => OldA.row h hv)) rfl HM0.out [0] rfl covS_nil rfl rfl ?_
    rintro W17 hm16 -
    rw [hlb]
    have HM18 := Lib.hid hm16
    clear hm16
    simp only [Act.put, List.setIfInBounds_toArray, List.set_cons_succ, List.set_cons_zero]
    refine wpS_this [2, 3, 4] rfl (by kernel_rfl) (by simp only [pickL, nthL, List.cons_append, List.nil_append]; rfl) ?_
    repeat (go_big_quiet_step (fail))
    refine wpQuiet_nil ?_
    refine wpS_does1 (i := 5) (d := some 21) (rem := [_]) (out := [_]) rfl (by rfl) rfl Try.call20 (refNode_d me) rfl HM18.out [] rfl covS_nil rfl rfl ?_
    rintro W20 hm19 -
    rw [hnb]
    have HM21 := Lib.hid hm19
    clear hm19
    simp only [Act.put, List.setIfInBounds_toArray, List.set_cons_succ, List.set_cons_zero]
    refine wpS_this [6, 7, 8, 9, 10, 11, 12, 13, 14, 15] rfl (by kernel_rfl) (by simp only [pickL, nthL, List.cons_append, List.nil_append]; rfl) ?_
    repeat (go_big_quiet_step (fail))
    refine wpQuiet_nil ?_
    refine wpS_nil ?_
    refine then_normal ?_
    refine wp_cond_true rfl ?_
    refine wp_seq ?_
    refine wp_region_N [(0, 3), (1, 1)] (by kernel_rfl) ?_
    refine wpS_does0 (i := 0) (d := some 32) (rem := [_]) (out := [_]) rfl (by rfl) rfl Try.call18 (awake_d)  HM21.out [] rfl covS_nil rfl rfl ?_
    rintro W23 hm22 -
    have HM24 := Lib.hid hm22
    clear hm22
    simp only [Act.put, List.setIfInBounds_toArray, List.set_cons_succ, List.set_cons_zero]
    refine wpS_this [1] rfl (by kernel_rfl) (by simp only [pickL, nthL, List.cons_append, List.nil_append]; rfl) ?_
    repeat (go_big_quiet_step (fail))
    refine wpQuiet_nil ?_
    refine wpS_nil ?_
    refine then_normal ?_
    refine wp_ret ?_
    refine then_ret ?_
    refine bodyPost_ret (results_tmp rfl _ _ _) rfl ?_
    exact does_ret (Mem.only (M := [_]) HM24.out [0] rfl) rfl rfl
  · skip
    refine wp_region_N [(0, 1), (1, 3), (2, 1), (3, 1), (4, 1), (5, 3), (6, 1), (7, 1), (8, 1), (9, 1), (10, 1), (11, 1), (12, 1), (13, 1), (14, 1), (15, 1)] (by kernel_rfl) ?_
    refine wpS_this [0] rfl (by kernel_rfl) (by simp only [pickL, nthL, List.cons_append, List.nil_append]; rfl) ?_
    repeat (go_big_quiet_step (fail))
    refine wpQuiet_nil ?_
    refine wpS_does1 (i := 1) (d := some 17) (rem := []) (out := [_]) rfl (by rfl) rfl Try.call19 (light_d (oldT W0) (.slice p cs.length cap) cs (fun W H h => OldA.row h hv)) rfl HM0.out [0] rfl covS_nil rfl rfl ?_
    rintro W26 hm25 -
    rw [hlb]
    have HM27 := Lib.hid hm25
    clear hm25
    simp only [Act.put, List.setIfInBounds_toArray, List.set_cons_succ, List.set_cons_zero]
    refine wpS_this [2, 3, 4] rfl (by kernel_rfl) (by simp only [pickL, nthL, List.cons_append, List.nil_append]; rfl) ?_
    repeat (go_big_quiet_step (fail))
    refine wpQuiet_nil ?_
    refine wpS_does1 (i := 5) (d := some 21) (rem := [_]) (out := [_]) rfl (by rfl) rfl Try.call20 (refNode_d me) rfl HM27.out [] rfl covS_nil rfl rfl ?_
    rintro W29 hm28 -
    rw [hnb]
    have HM30 := Lib.hid hm28
    clear hm28
    simp only [Act.put, List.setIfInBounds_toArray, List.set_cons_succ, List.set_cons_zero]
    refine wpS_this [6, 7, 8, 9, 10, 11, 12, 13, 14, 15] rfl (by kernel_rfl) (by simp only [pickL, nthL, List.cons_append, List.nil_append]; rfl) ?_
    repeat (go_big_quiet_step (fail))
    refine wpQuiet_nil ?_
    refine wpS_nil ?_
    refine then_normal ?_
    refine wp_cond_true rfl ?_
    refine wp_seq ?_
    refine wp_region_N [(0, 3), (1, 1)] (by kernel_rfl) ?_
    refine wpS_does0 (i := 0) (d := some 32) (rem := [_]) (out := [_]) rfl (by rfl) rfl Try.call18 (awake_d)  HM30.out [] rfl covS_nil rfl rfl ?_
    rintro W32 hm31 -
    have HM33 := Lib.hid hm31
    clear hm31
    simp only [Act.put, List.setIfInBounds_toArray, List.set_cons_succ, List.set_cons_zero]
    refine wpS_this [1] rfl (by kernel_rfl) (by simp only [pickL, nthL, List.cons_append, List.nil_append]; rfl) ?_
    repeat (go_big_quiet_step (fail))
    refine wpQuiet_nil ?_
    refine wpS_nil ?_
    refine then_normal ?_
    refine wp_ret ?_
    refine then_ret ?_
    refine bodyPost_ret (results_tmp rfl _ _ _) rfl ?_
    exact does_ret (Mem.only (M := [_]) HM33.out [0] rfl) rfl rfl
  · skip
    refine wp_region_N [(0, 1), (1, 3), (2, 1), (3, 1), (4, 1), (5, 3), (6, 1), (7, 1), (8, 1), (9, 1), (10, 1), (11, 1), (12, 1), (13, 1), (14, 1), (15, 1)] (by kernel_rfl) ?_
    refine wpS_this [0] rfl (by kernel_rfl) (by simp only [pickL, nthL, List.cons_append, List.nil_append]; rfl) ?_
    repeat (go_big_quiet_step (fail))
    refine wpQuiet_nil ?_
    refine wpS_does1 (i := 1) (d := some 17) (rem := []) (out := [_]) rfl (by rfl) rfl Try.call19 (light_d (oldT W0) (.slice p cs.length cap) cs (fun W H h => OldA.row h hv)) rfl HM0.out [0] rfl covS_nil rfl rfl ?_
    rintro W35 hm34 -
    rw [hlb]
    have HM36 := Lib.hid hm34
    clear hm34
    simp only [Act.put, List.setIfInBounds_toArray, List.set_cons_succ, List.set_cons_zero]
    refine wpS_this [2, 3, 4] rfl (by kernel_rfl) (by simp only [pickL, nthL, List.cons_append, List.nil_append]; rfl) ?_
    repeat (go_big_quiet_step (fail))
    refine wpQuiet_nil ?_
    refine wpS_does1 (i := 5) (d := some 21) (rem := [_]) (out := [_]) rfl (by rfl) rfl Try.call20 (refNode_d me) rfl HM36.out [] rfl covS_nil rfl rfl ?_
    rintro W38 hm37 -
    rw [hnb]
    have HM39 := Lib.hid hm37
    clear hm37
    simp only [Act.put, List.setIfInBounds_toArray, List.set_cons_succ, List.set_cons_zero]
    refine wpS_this [6, 7, 8, 9, 10, 11, 12, 13, 14, 15] rfl (by kernel_rfl) (by simp only [pickL, nthL, List.cons_append, List.nil_append]; rfl) ?_
    repeat (go_big_quiet_step (fail))
    refine wpQuiet_nil ?_
    refine wpS_nil ?_
    refine then_normal ?_
    refine wp_cond_false rfl ?_
    refine wp_skip ?_
    refine then_normal ?_
    refine wp_seq ?_
    refine wp_region_N [(0, 1), (1, 1), (2, 3), (3, 1)] (by kernel_rfl) ?_
    refine wpS_this [0, 1] rfl (by kernel_rfl) (by simp only [pickL, nthL, List.cons_append, List.nil_append]; rfl) ?_
    repeat (go_big_quiet_step (fail))
    refine wpQuiet_nil ?_
    refine wpS_doesU2 (i := 2) (d := some 35) (rem := [_]) rfl (by rfl) rfl Try.call21 (new_d me inc hme hinc) rfl rfl HM39.out [] rfl covS_nil (fun _ => rfl) rfl ?_
    rintro u42 W41 hm40 -
    obtain ⟨bk, hm40e⟩ := Mem.ex hm40
    clear hm40
    obtain ⟨hm40u, hm40⟩ := Mem.pr hm40e
    clear hm40e
    subst hm40u
    have HM43 := Lib.hid hm40
    clear hm40
    simp only [Act.put, List.setIfInBounds_toArray, List.set_cons_succ, List.set_cons_zero]
    refine wpS_this [3] rfl (by kernel_rfl) (by simp only [pickL, nthL, List.cons_append, List.nil_append]; rfl) ?_
    repeat (go_big_quiet_step (fail))
    refine wpQuiet_nil ?_
    refine wpS_nil ?_
    refine then_normal ?_
    refine wp_seq ?_
    refine wp_region_N [(0, 1)] (by kernel_rfl) ?_
    refine wpS_this [0] rfl (by kernel_rfl) (by simp only [pickL, nthL, List.cons_append, List.nil_append]; rfl) ?_
    repeat (go_big_quiet_step (fail))
    refine wpQuiet_nil ?_
    refine wpS_nil ?_
    refine then_normal ?_
    refine wp_seq ?_
    refine wp_seq ?_
    refine wp_region_N [(0, 1), (1, 1), (2, 1)] (by kernel_rfl) ?_
    refine wpS_this [0, 1, 2] rfl (by kernel_rfl) (by simp only [pickL, nthL, List.cons_append, List.nil_append]; rfl) ?_
    repeat (go_big_quiet_step (fail))
    refine wpQuiet_nil ?_
    refine wpS_nil ?_
    refine then_normal ?_
    refine wp_block ?_
    refine wp_loop_F [6, 8, 10, 11, 12, 14, 15, 38, 39, 40, 41, 42, 43, 44, 45, 46, 47, 48, 49, 50, 51, 52, 53, 54, 55, 56, 57, 58, 59, 60, 61, 62, 63, 64, 65, 66, 67, 68, 69, 70, 71, 72, 73, 74, 75, 76, 77, 78, 79, 80, 81, 82, 83, 84, 85, 86, 87, 88, 89, 90, 91, 92, 93, 94, 95, 96, 97, 98, 99, 100, 101, 102, 103, 104, 105, 106, 107, 108, 109, 110, 111, 112, 113, 114, 115, 116, 117, 118, 119, 120, 121, 122, 123, 124, 125, 126, 127, 128, 129, 130, 131, 132, 133, 134, 135, 136, 137, 138, 139, 140, 141, 142, 143, 144, 145, 146, 147, 148, 149, 150, 151, 152, 153, 154, 155, 156, 157, 158, 159, 160, 161, 162, 163, 164, 165] (fun n vs W' => ∃ (k : Nat) (s : DS), n = cs.length - k ∧ vs 38 = .int .i64 (k : Int) ∧ vs 8 = .bool s.left ∧ k ≤ cs.length ∧ RisS me s k ∧ Mem (oldT W0 :: LP bk.d s bk.pv bk.pq bk.po bk.pc) H w W') (n0 := cs.length) ?_ ?_
    · exact ⟨0, newD me inc, rfl, rfl, rfl, Nat.zero_le _, ris_new hme hinc, (Mem.only (M := [_, _, _, _, _, _]) HM43.out [5, 0, 0, 0, 0, 0] rfl)⟩
    rintro n vs W' ⟨k, s, rfl, e38, e8, hk, hs, hm⟩
    simp only [putAll, List.map_cons, List.map_nil, Act.put, List.setIfInBounds_toArray, List.set_cons_succ, List.set_cons_zero]
    rw [e38, e8]
    clear e38 e8
    have HM44 := Lib.hid hm
    clear hm
    refine wp_seq ?_
    refine wp_region_N [(0, 1)] (by kernel_rfl) ?_
    refine wpS_this [0] rfl (by kernel_rfl) (by simp only [pickL, nthL, List.cons_append, List.nil_append]; rfl) ?_
    repeat (go_big_quiet_step (fail))
    refine wpQuiet_nil ?_
    refine wpS_nil ?_
    refine then_normal ?_
    refine wp_seq ?_
    refine wp_cond_split rfl (fun h45 => ?_) (fun h45 => ?_)
    · have hk1 : k + 1 ≤ cs.length := by have : (k : Int) < (cs.length : Int) := (by simpa using h45); omega
      clear h45
      obtain ⟨y, hy⟩ : ∃ y, cs[k]? = some y := ⟨_, List.getElem?_eq_getElem hk1⟩
      have hfit := Lib.hid (light_at hlb hy)
      have hk80 : k < 80 := hfit.out.1
      obtain ⟨⟨ycl, hycl⟩, yps, hyps⟩ := hq y (List.mem_of_getElem? hy)
      have hycl := Lib.hid hycl.1
      have hyps := Lib.hid hyps.1
      refine wp_skip ?_
      refine then_normal ?_
      refine wp_seq ?_
      refine wp_block ?_
      refine wp_seq ?_
      refine wp_region_N [(0, 1), (1, 1), (2, 3), (3, 3)] (by kernel_rfl) ?_
      refine wpS_index (E := elemCall) (i := 0) (d := some 40) rfl (by rfl) rfl rfl rfl (HM44.out.row 0 rfl (fun W H h => OldA.row h hv)) (hy) rfl ?_
      intro eb46 eo47 hc48
      simp only [Act.put, List.setIfInBounds_toArray, List.set_cons_succ, List.set_cons_zero]
      refine wpS_loadA (i := 1) (d := some 41) (cells := y.enc) rfl (by rfl) rfl rfl hc48 Try.underlying42 rfl (by rw [CallV.len]; kernel_rfl) rfl ?_
      simp only [Act.put, List.setIfInBounds_toArray, List.set_cons_succ, List.set_cons_zero]
      refine wpS_alloc (i := 2) (dd := 10) (z := .agg #[.int .i64 0, .int .i64 0, .int .i64 0, .int .i64 0, .int .i64 0, .int .i64 0, .int .i64 0, .int .i64 0, .int .i64 0, .int .i64 0, .int .i64 0, .int .i64 0, .string ByteArray.empty, .int .i64 0, .int .i64 0, .int .i64 0, .int .i64 0, .int .i64 0, .int .i64 0, .int .i64 0, .int .i64 0, .slice none 0 0, .int .i64 0, .int .i64 0, .int .i64 0, .int .i64 0, .int .i64 0, .int .i64 0, .int .i64 0, .int .i64 0, .int .i64 0, .int .i64 0, .slice none 0 0, .int .i64 0, .int .i64 0, .int .i64 0, .int .i64 0, .int .i64 0, .int .i64 0, .int .i64 0, .int .i64 0, .int .i64 0, .int .i64 0, .int .i64 0, .int .i64 0, .int .i64 0, .int .i64 0, .int .i64 0, .int .i64 0, .int .i64 0, .int .i64 0, .int .i64 0, .int .i64 0, .int .i64 0, .int .i64 0, .int .i64 0, .int .i64 0, .int .i64 0, .int .i64 0, .int .i64 0, .int .i64 0, .int .i64 0, .int .i64 0, .int .i64 0, .int .i64 0, .slice none 0 0, .slice none 0 0, .int .u64 0]) (cs := #[.int .i64 0, .int .i64 0, .int .i64 0, .int .i64 0, .int .i64 0, .int .i64 0, .int .i64 0, .int .i64 0, .int .i64 0, .int .i64 0, .int .i64 0, .int .i64 0, .string ByteArray.empty, .int .i64 0, .int .i64 0, .int .i64 0, .int .i64 0, .int .i64 0, .int .i64 0, .int .i64 0, .int .i64 0, .slice none 0 0, .int .i64 0, .int .i64 0, .int .i64 0, .int .i64 0, .int .i64 0, .int .i64 0, .int .i64 0, .int .i64 0, .int .i64 0, .int .i64 0, .slice none 0 0, .int .i64 0, .int .i64 0, .int .i64 0, .int .i64 0, .int .i64 0, .int .i64 0, .int .i64 0, .int .i64 0, .int .i64 0, .int .i64 0, .int .i64 0, .int .i64 0, .int .i64 0, .int .i64 0, .int .i64 0, .int .i64 0, .int .i64 0, .int .i64 0, .int .i64 0, .int .i64 0, .int .i64 0, .int .i64 0, .int .i64 0, .int .i64 0, .int .i64 0, .int .i64 0, .int .i64 0, .int .i64 0, .int .i64 0, .int .i64 0, .int .i64 0, .int .i64 0, .slice none 0 0, .slice none 0 0, .int .u64 0]) rfl (by rfl) rfl (by kernel_rfl) rfl HM44.out covS_nil rfl ?_
      rintro b51 W50 hm49 -
      have HM52 := Lib.hid hm49
      clear hm49
      simp only [Act.put, List.setIfInBounds_toArray, List.set_cons_succ, List.set_cons_zero]
      refine wpS_storeW (i := 3) (vs := y.enc) (L2 := [_, _, _, _, _, _]) rfl (by rfl) rfl rfl rfl (by kernel_rfl) (by rw [CallV.len]; rfl) (fun u hu => elemCall.one y u hu) HM52.out 0 rfl rfl covS_nil rfl ?_
      rintro W54 hm53 -
      have HM55 := Lib.hid hm53
      clear hm53
      refine wpS_nil ?_
      refine then_normal ?_
      refine wp_seq ?_
      have hvo : Hid (VwOk s.V) := Lib.hid (HM55.out.have 3 rfl (fun _ h => h.1.2))
      refine wp_region_N [(0, 1), (1, 3), (2, 1)] (by kernel_rfl) ?_
      refine wpS_this [0] rfl (by kernel_rfl) (by simp only [pickL, nthL, List.cons_append, List.nil_append]; rfl) ?_
      repeat (go_big_quiet_step (fail))
      refine wpQuiet_nil ?_
      refine wpS_doesU1 (i := 1) (d := some 43) (rem := [_, _, _, _, _]) rfl (by rfl) rfl Try.call14 (all_d bk.d s bk.pv bk.pq bk.po bk.pc) rfl HM55.out [2, 2] rfl covS_nil (fun _ => rfl) rfl ?_
      rintro u58 W57 hm56 -
      obtain ⟨B, hB⟩ : ∃ B, saidV s.V = B := ⟨_, rfl⟩
      rw [hB] at hm56
      obtain ⟨up, uc, rfl⟩ := row_form (Mem.src hm56 0 rfl rowT_reads)
      have hB8 : B.length ≤ 8 := by rw [← hB]; exact saidUp_len _ 8
      have hBv := Lib.hid hB
      clear hB
      have HM59 := Lib.hid hm56
      clear hm56
      simp only [Act.put, List.setIfInBounds_toArray, List.set_cons_succ, List.set_cons_zero]
      refine wpS_this [2] rfl (by kernel_rfl) (by simp only [pickL, nthL, List.cons_append, List.nil_append]; rfl) ?_
      repeat (go_big_quiet_step (fail))
      refine wpQuiet_nil ?_
      refine wpS_nil ?_
      refine then_normal ?_
      refine wp_seq ?_
      refine wp_region_N [(0, 1), (1, 3), (2, 1)] (by kernel_rfl) ?_
      refine wpS_this [0] rfl (by kernel_rfl) (by simp only [pickL, nthL, List.cons_append, List.nil_append]; rfl) ?_
      repeat (go_big_quiet_step (fail))
      refine wpQuiet_nil ?_
      refine wpS_does1 (i := 1) (d := some 45) (rem := [_, _, _, _, _, _, _]) (out := [_, _, _, _, _, _, _, _]) rfl (by rfl) rfl Try.call15 (inc_d bk.d s bk.pv bk.pq bk.po bk.pc) rfl HM59.out [1] rfl covS_nil rfl rfl ?_
      rintro W61 hm60 -
      have HM62 := Lib.hid hm60
      clear hm60
      simp only [Act.put, List.setIfInBounds_toArray, List.set_cons_succ, List.set_cons_zero]
      refine wpS_this [2] rfl (by kernel_rfl) (by simp only [pickL, nthL, List.cons_append, List.nil_append]; rfl) ?_
      repeat (go_big_quiet_step (fail))
      refine wpQuiet_nil ?_
      refine wpS_nil ?_
      refine then_normal ?_
      refine wp_seq ?_
      refine wp_seq ?_
      refine wp_region_N [(0, 1), (1, 1)] (by kernel_rfl) ?_
      refine wpS_this [0] rfl (by kernel_rfl) (by simp only [pickL, nthL, List.cons_append, List.nil_append]; rfl) ?_
      repeat (go_big_quiet_step (fail))
      refine wpQuiet_nil ?_
      refine wpS_load1 (i := 1) (d := some 47) (u := .int .i64 y.o) rfl (by rfl) rfl rfl (HM62.out.cellL 3 rfl 0) Try.underlying3 rfl rfl ?_
      simp only [Act.put, List.setIfInBounds_toArray, List.set_cons_succ, List.set_cons_zero]
      refine wpS_nil ?_
      refine then_normal ?_
      refine wp_cut_F [6, 8, 48, 49, 50, 51, 52, 53, 54, 55, 56, 57, 58, 59, 60, 61, 62, 63, 64, 65, 66, 67, 68, 69, 70, 71, 72, 73, 74, 75, 76, 77, 78, 79, 80, 81, 82, 83, 84, 85, 86, 87, 88, 89, 90, 91, 92, 93, 94, 95, 96, 97, 98, 99, 100, 101, 102, 103, 104, 105, 106, 107, 108, 109, 110, 111, 112, 113, 114, 115, 116, 117, 118, 119] (fun vs W' => ∃ s2 : DS, RisS me s2 (k + 1) ∧ StepR s s2 ∧ vs 8 = .bool s2.left ∧ Mem (rowT elemCl (.slice up B.length uc) B :: oldT W0 :: LP bk.d s2 bk.pv bk.pq bk.po bk.pc) H w W') ?_ ?_
      · refine wp_block ?_
        refine wp_seq ?_
        refine wp_region_N [(0, 1), (1, 1)] (by kernel_rfl) ?_
        refine wpS_this [0, 1] rfl (by kernel_rfl) (by simp only [pickL, nthL, List.cons_append, List.nil_append]; rfl) ?_
        repeat (go_big_quiet_step (fail))
        refine wpQuiet_nil ?_
        refine wpS_nil ?_
        refine then_normal ?_
        refine wp_cond_split rfl (fun h63 => ?_) (fun h63 => ?_)
        · clear h63
          refine wp_seq ?_
          refine wp_region_N [(0, 1), (1, 1), (2, 1), (3, 3)] (by kernel_rfl) ?_
          refine wpS_this [0, 1] rfl (by kernel_rfl) (by simp only [pickL, nthL, List.cons_append, List.nil_append]; rfl) ?_
          repeat (go_big_quiet_step (fail))
          refine wpQuiet_nil ?_
          refine wpS_loadA (i := 2) (d := some 58) (cells := [.int .i64 y.n, .int .i64 y.i, .int .i64 y.h]) rfl (by rfl) rfl rfl (fun k u hu => ((HM62.out.cellL 3 rfl (1 + k)).trans (y.at_c k u hu))) Try.underlying23 rfl (by kernel_rfl) rfl ?_
          simp only [Act.put, List.setIfInBounds_toArray, List.set_cons_succ, List.set_cons_zero]
          refine wpS_does2 (i := 3) (d := some 59) (rem := [_, _, _]) (out := [_, _, _, _, _, _, _, _]) rfl (by rfl) rfl Try.call11 (hearCall_d bk.d s bk.pv bk.pq bk.po bk.pc y.n y.i y.h hs.ok) rfl rfl HM62.out [0, 1, 3, 3, 3] rfl covS_nil rfl rfl ?_
          rintro W65 hm64 -
          obtain ⟨s2, hst⟩ : ∃ x, (hearCall s ⟨y.n, y.i, y.h⟩).1 = x := ⟨_, rfl⟩
          rw [hst] at hm64
          have hh := hs.hear ⟨y.n, y.i, y.h⟩
          rw [hst] at hh
          obtain ⟨hR, hU, hlf⟩ := hh
          have hst := Lib.hid hst
          have HM66 := Lib.hid hm64
          clear hm64
          simp only [Act.put, List.setIfInBounds_toArray, List.set_cons_succ, List.set_cons_zero]
          refine wpS_nil ?_
          refine then_normal ?_
          refine wp_seq ?_
          rcases ris_cases hs hst.out with g1 | ⟨g1, g2, g3⟩ | ⟨g1, g2, (gm | ⟨gm, gi⟩ | ⟨gm, gi, ⟨gl, gh⟩, ge⟩ | ⟨gm, gi, ⟨gl, gh⟩, ge, gov, gx⟩)⟩ | ⟨g1, g2, g3, (gm | ⟨gm, gi⟩ | ⟨gm, gi, ⟨gl, gh⟩, ge⟩ | ⟨gm, gi, ⟨gl, gh⟩, ge, gov, gx⟩)⟩
          · skip
            refine wp_region_M (fun k => k ∈ ([b51] : List Nat)) [(0, 1), (1, 1), (2, 1), (3, 1), (4, 1), (5, 1), (6, 1), (7, 1), (8, 1), (9, 1), (10, 1), (11, 1), (12, 1), (13, 1), (14, 1), (15, 1), (16, 1), (17, 1), (18, 1), (19, 1), (20, 3), (21, 1), (22, 1), (23, 1), (24, 1), (25, 1), (26, 1), (27, 1), (28, 1), (29, 1), (30, 1), (32, 0), (33, 0), (34, 2), (35, 0), (31, 3), (36, 1), (37, 1), (38, 1), (39, 3), (40, 1), (41, 1), (42, 1), (43, 1), (44, 1), (45, 1), (46, 1), (47, 1), (48, 1)] (by kernel_rfl) (by kernel_rfl) HM66.out ?_
            intro W67 hm68
            have HM69 := Lib.hid hm68
            clear hm68
            have cn : World.cell? _ ⟨b51, 1, none⟩ = some (.int .i64 y.n) := HM69.out.cellL 6 rfl 1
            have ch : World.cell? _ ⟨b51, 3, none⟩ = some (.int .i64 y.h) := HM69.out.cellL 6 rfl 3
            have ch : World.cell? _ ⟨b51, 3, none⟩ = some (.int .i64 y.h) := HM69.out.cellL 6 rfl 3
            have cn : World.cell? _ ⟨b51, 1, none⟩ = some (.int .i64 y.n) := HM69.out.cellL 6 rfl 1
            have ci : World.cell? _ ⟨b51, 2, none⟩ = some (.int .i64 y.i) := HM69.out.cellL 6 rfl 2
            have ch : World.cell? _ ⟨b51, 3, none⟩ = some (.int .i64 y.h) := HM69.out.cellL 6 rfl 3
            refine wpS_this [0, 1, 2, 3, 4, 5, 6, 7, 8, 9, 10, 11, 12, 13, 14, 15, 16, 17, 18, 19] rfl (by kernel_rfl) (by simp only [pickL, nthL, List.cons_append, List.nil_append]; rfl) ?_
            repeat (go_big_quiet_step (fail))
            refine wpQuiet_nil ?_
            refine wpS_skip (i := 20) (d := some 80) rfl (by rfl) rfl ?_
            simp only [Act.put, List.setIfInBounds_toArray, List.set_cons_succ, List.set_cons_zero]
            have ci : World.cell? _ ⟨b51, 2, none⟩ = some (.int .i64 y.i) := HM69.out.cellL 6 rfl 2
            refine wpS_this [21, 22, 23, 24, 25, 26, 27, 28, 29, 30] rfl (by kernel_rfl) (by simp only [pickL, nthL, List.cons_append, List.nil_append]; rfl) ?_
            repeat (go_big_quiet_step (fail))
            refine wpQuiet_nil ?_
            refine wpS_all [32, 33] rfl (by kernel_rfl) (by simp only [pickL, nthL, List.cons_append, List.nil_append]; rfl) ?_
            repeat (go_big_quiet_step (fail))
            refine wpQuiet_nil ?_
            have ci : World.cell? _ ⟨b51, 2, none⟩ = some (.int .i64 y.i) := HM69.out.cellL 6 rfl 2
            refine wpS_stay [34] rfl (by kernel_rfl) (by simp only [pickL, nthL, List.cons_append, List.nil_append]; rfl) ?_
            repeat (go_big_quiet_step (fail))
            refine wpQuiet_nil ?_
            refine wpS_all [35] rfl (by kernel_rfl) (by simp only [pickL, nthL, List.cons_append, List.nil_append]; rfl) ?_
            repeat (go_big_quiet_step (fail))
            refine wpQuiet_nil ?_
            refine wpS_skip (i := 31) (d := some 91) rfl (by rfl) rfl ?_
            simp only [Act.put, List.setIfInBounds_toArray, List.set_cons_succ, List.set_cons_zero]
            refine wpS_this [36, 37, 38] rfl (by kernel_rfl) (by simp only [pickL, nthL, List.cons_append, List.nil_append]; rfl) ?_
            repeat (go_big_quiet_step (fail))
            refine wpQuiet_nil ?_
            refine wpS_skip (i := 39) (d := some 99) rfl (by rfl) rfl ?_
            simp only [Act.put, List.setIfInBounds_toArray, List.set_cons_succ, List.set_cons_zero]
            have ci : World.cell? _ ⟨b51, 2, none⟩ = some (.int .i64 y.i) := HM69.out.cellL 6 rfl 2
            refine wpS_this [40, 41, 42, 43, 44, 45, 46, 47, 48] rfl (by kernel_rfl) (by simp only [pickL, nthL, List.cons_append, List.nil_append]; rfl) ?_
            repeat (go_big_quiet_step (fail))
            refine wpQuiet_nil ?_
            refine wpS_nil ?_
            refine then_normal ?_
            refine wp_cond_false rfl ?_
            refine wp_skip ?_
            refine block_normal ?_
            refine then_normal ?_
            refine ⟨by kernel_rfl, ?_⟩
            exact ⟨s2, hR, hU, congrArg Value.bool hlf.symm, (Mem.only (M := [_, _, _, _, _, _, _]) HM69.out [5, 6, 0, 0, 0, 0, 0] rfl)⟩
          · skip
            refine wp_region_M (fun k => k ∈ ([b51] : List Nat)) [(0, 1), (1, 1), (2, 1), (3, 1), (4, 1), (5, 1), (6, 1), (7, 1), (8, 1), (9, 1), (10, 1), (11, 1), (12, 1), (13, 1), (14, 1), (15, 1), (16, 1), (17, 1), (18, 1), (19, 1), (20, 3), (21, 1), (22, 1), (23, 1), (24, 1), (25, 1), (26, 1), (27, 1), (28, 1), (29, 1), (30, 1), (32, 0), (33, 0), (34, 2), (35, 0), (31, 3), (36, 1), (37, 1), (38, 1), (39, 3), (40, 1), (41, 1), (42, 1), (43, 1), (44, 1), (45, 1), (46, 1), (47, 1), (48, 1)] (by kernel_rfl) (by kernel_rfl) HM66.out ?_
            intro W70 hm71
            have HM72 := Lib.hid hm71
            clear hm71
            have cn : World.cell? _ ⟨b51, 1, none⟩ = some (.int .i64 y.n) := HM72.out.cellL 6 rfl 1
            have ch : World.cell? _ ⟨b51, 3, none⟩ = some (.int .i64 y.h) := HM72.out.cellL 6 rfl 3
            have ch : World.cell? _ ⟨b51, 3, none⟩ = some (.int .i64 y.h) := HM72.out.cellL 6 rfl 3
            have cn : World.cell? _ ⟨b51, 1, none⟩ = some (.int .i64 y.n) := HM72.out.cellL 6 rfl 1
            have ci : World.cell? _ ⟨b51, 2, none⟩ = some (.int .i64 y.i) := HM72.out.cellL 6 rfl 2
            have ch : World.cell? _ ⟨b51, 3, none⟩ = some (.int .i64 y.h) := HM72.out.cellL 6 rfl 3
            refine wpS_this [0, 1, 2, 3, 4, 5, 6, 7, 8, 9, 10, 11, 12, 13, 14, 15, 16, 17, 18, 19] rfl (by kernel_rfl) (by simp only [pickL, nthL, List.cons_append, List.nil_append]; rfl) ?_
            repeat (go_big_quiet_step (fail))
            refine wpQuiet_nil ?_
            refine wpS_skip (i := 20) (d := some 80) rfl (by rfl) rfl ?_
            simp only [Act.put, List.setIfInBounds_toArray, List.set_cons_succ, List.set_cons_zero]
            have ci : World.cell? _ ⟨b51, 2, none⟩ = some (.int .i64 y.i) := HM72.out.cellL 6 rfl 2
            refine wpS_this [21, 22, 23, 24, 25, 26, 27, 28, 29, 30] rfl (by kernel_rfl) (by simp only [pickL, nthL, List.cons_append, List.nil_append]; rfl) ?_
            repeat (go_big_quiet_step (fail))
            refine wpQuiet_nil ?_
            refine wpS_all [32, 33] rfl (by kernel_rfl) (by simp only [pickL, nthL, List.cons_append, List.nil_append]; rfl) ?_
            repeat (go_big_quiet_step (fail))
            refine wpQuiet_nil ?_
            have ci : World.cell? _ ⟨b51, 2, none⟩ = some (.int .i64 y.i) := HM72.out.cellL 6 rfl 2
            refine wpS_stay [34] rfl (by kernel_rfl) (by simp only [pickL, nthL, List.cons_append, List.nil_append]; rfl) ?_
            repeat (go_big_quiet_step (fail))
            refine wpQuiet_nil ?_
            refine wpS_all [35] rfl (by kernel_rfl) (by simp only [pickL, nthL, List.cons_append, List.nil_append]; rfl) ?_
            repeat (go_big_quiet_step (fail))
            refine wpQuiet_nil ?_
            refine wpS_skip (i := 31) (d := some 91) rfl (by rfl) rfl ?_
            simp only [Act.put, List.setIfInBounds_toArray, List.set_cons_succ, List.set_cons_zero]
            refine wpS_this [36, 37, 38] rfl (by kernel_rfl) (by simp only [pickL, nthL, List.cons_append, List.nil_append]; rfl) ?_
            repeat (go_big_quiet_step (fail))
            refine wpQuiet_nil ?_
            refine wpS_skip (i := 39) (d := some 99) rfl (by rfl) rfl ?_
            simp only [Act.put, List.setIfInBounds_toArray, List.set_cons_succ, List.set_cons_zero]
            have ci : World.cell? _ ⟨b51, 2, none⟩ = some (.int .i64 y.i) := HM72.out.cellL 6 rfl 2
            refine wpS_this [40, 41, 42, 43, 44, 45, 46, 47, 48] rfl (by kernel_rfl) (by simp only [pickL, nthL, List.cons_append, List.nil_append]; rfl) ?_
            repeat (go_big_quiet_step (fail))
            refine wpQuiet_nil ?_
            refine wpS_nil ?_
            refine then_normal ?_
            refine wp_cond_false rfl ?_
            refine wp_skip ?_
            refine block_normal ?_
            refine then_normal ?_
            refine ⟨by kernel_rfl, ?_⟩
            exact ⟨s2, hR, hU, congrArg Value.bool hlf.symm, (Mem.only (M := [_, _, _, _, _, _, _]) HM72.out [5, 6, 0, 0, 0, 0, 0] rfl)⟩
          · have gm := Lib.hid gm
            refine wp_region_M (fun k => k ∈ ([b51] : List Nat)) [(0, 1), (1, 1), (2, 1), (3, 1), (4, 1), (5, 1), (6, 1), (7, 1), (8, 1), (9, 1), (10, 1), (11, 1), (12, 1), (13, 1), (14, 1), (15, 1), (16, 1), (17, 1), (18, 1), (19, 1), (20, 3), (21, 1), (22, 1), (23, 1), (24, 1), (25, 1), (26, 1), (27, 1), (28, 1), (29, 1), (30, 1), (32, 0), (33, 0), (34, 2), (35, 0), (31, 3), (36, 1), (37, 1), (38, 1), (39, 3), (40, 1), (41, 1), (42, 1), (43, 1), (44, 1), (45, 1), (46, 1), (47, 1), (48, 1)] (by kernel_rfl) (by kernel_rfl) HM66.out ?_
            intro W73 hm74
            have HM75 := Lib.hid hm74
            clear hm74
            have cn : World.cell? _ ⟨b51, 1, none⟩ = some (.int .i64 y.n) := HM75.out.cellL 6 rfl 1
            have ch : World.cell? _ ⟨b51, 3, none⟩ = some (.int .i64 y.h) := HM75.out.cellL 6 rfl 3
            have ch : World.cell? _ ⟨b51, 3, none⟩ = some (.int .i64 y.h) := HM75.out.cellL 6 rfl 3
            have cn : World.cell? _ ⟨b51, 1, none⟩ = some (.int .i64 y.n) := HM75.out.cellL 6 rfl 1
            have ci : World.cell? _ ⟨b51, 2, none⟩ = some (.int .i64 y.i) := HM75.out.cellL 6 rfl 2
            have ch : World.cell? _ ⟨b51, 3, none⟩ = some (.int .i64 y.h) := HM75.out.cellL 6 rfl 3
            refine wpS_this [0, 1, 2, 3, 4, 5, 6, 7, 8, 9, 10, 11, 12, 13, 14, 15, 16, 17, 18, 19] rfl (by kernel_rfl) (by simp only [pickL, nthL, List.cons_append, List.nil_append]; rfl) ?_
            repeat (go_big_quiet_step (fail))
            refine wpQuiet_nil ?_
            refine wpS_does1 (i := 20) (d := some 80) (rem := [_, _, _, _, _, _, _, _]) (out := [_, _, _, _, _, _, _, _]) rfl (by rfl) rfl Try.call22 (may_d y.n y.i y.h) rfl HM75.out [] rfl (covS_box 6 rfl covS_nil) rfl rfl ?_
            rintro W77 hm76 hg78
            rw [gm.out]
            have HM79 := Lib.hid hm76
            clear hm76
            simp only [Act.put, List.setIfInBounds_toArray, List.set_cons_succ, List.set_cons_zero]
            have ci : World.cell? _ ⟨b51, 2, none⟩ = some (.int .i64 y.i) := HM79.out.cellL 6 rfl 2
            refine wpS_this [21, 22, 23, 24, 25, 26, 27, 28, 29, 30] rfl (by kernel_rfl) (by simp only [pickL, nthL, List.cons_append, List.nil_append]; rfl) ?_
            repeat (go_big_quiet_step (fail))
            refine wpQuiet_nil ?_
            refine wpS_all [32, 33] rfl (by kernel_rfl) (by simp only [pickL, nthL, List.cons_append, List.nil_append]; rfl) ?_
            repeat (go_big_quiet_step (fail))
            refine wpQuiet_nil ?_
            have ci : World.cell? _ ⟨b51, 2, none⟩ = some (.int .i64 y.i) := HM79.out.cellL 6 rfl 2
            refine wpS_stay [34] rfl (by kernel_rfl) (by simp only [pickL, nthL, List.cons_append, List.nil_append]; rfl) ?_
            repeat (go_big_quiet_step (fail))
            refine wpQuiet_nil ?_
            refine wpS_all [35] rfl (by kernel_rfl) (by simp only [pickL, nthL, List.cons_append, List.nil_append]; rfl) ?_
            repeat (go_big_quiet_step (fail))
            refine wpQuiet_nil ?_
            refine wpS_skip (i := 31) (d := some 91) rfl (by rfl) rfl ?_
            simp only [Act.put, List.setIfInBounds_toArray, List.set_cons_succ, List.set_cons_zero]
            refine wpS_this [36, 37, 38] rfl (by kernel_rfl) (by simp only [pickL, nthL, List.cons_append, List.nil_append]; rfl) ?_
            repeat (go_big_quiet_step (fail))
            refine wpQuiet_nil ?_
            refine wpS_skip (i := 39) (d := some 99) rfl (by rfl) rfl ?_
            simp only [Act.put, List.setIfInBounds_toArray, List.set_cons_succ, List.set_cons_zero]
            have ci : World.cell? _ ⟨b51, 2, none⟩ = some (.int .i64 y.i) := HM79.out.cellL 6 rfl 2
            refine wpS_this [40, 41, 42, 43, 44, 45, 46, 47, 48] rfl (by kernel_rfl) (by simp only [pickL, nthL, List.cons_append, List.nil_append]; rfl) ?_
            repeat (go_big_quiet_step (fail))
            refine wpQuiet_nil ?_
            refine wpS_nil ?_
            refine then_normal ?_
            refine wp_cond_false rfl ?_
            refine wp_skip ?_
            refine block_normal ?_
            refine then_normal ?_
            refine ⟨by kernel_rfl, ?_⟩
            exact ⟨s2, hR, hU, congrArg Value.bool hlf.symm, (Mem.only (M := [_, _, _, _, _, _, _]) HM79.out [5, 6, 0, 0, 0, 0, 0] rfl)⟩
          · have gm := Lib.hid gm
            refine wp_region_M (fun k => k ∈ ([b51] : List Nat)) [(0, 1), (1, 1), (2, 1), (3, 1), (4, 1), (5, 1), (6, 1), (7, 1), (8, 1), (9, 1), (10, 1), (11, 1), (12, 1), (13, 1), (14, 1), (15, 1), (16, 1), (17, 1), (18, 1), (19, 1), (20, 3), (21, 1), (22, 1), (23, 1), (24, 1), (25, 1), (26, 1), (27, 1), (28, 1), (29, 1), (30, 1), (32, 0), (33, 0), (34, 2), (35, 0), (31, 3), (36, 1), (37, 1), (38, 1), (39, 3), (40, 1), (41, 1), (42, 1), (43, 1), (44, 1), (45, 1), (46, 1), (47, 1), (48, 1)] (by kernel_rfl) (by kernel_rfl) HM66.out ?_
            intro W80 hm81
            have HM82 := Lib.hid hm81
            clear hm81
            have cn : World.cell? _ ⟨b51, 1, none⟩ = some (.int .i64 y.n) := HM82.out.cellL 6 rfl 1
            have ch : World.cell? _ ⟨b51, 3, none⟩ = some (.int .i64 y.h) := HM82.out.cellL 6 rfl 3
            have ch : World.cell? _ ⟨b51, 3, none⟩ = some (.int .i64 y.h) := HM82.out.cellL 6 rfl 3
            have cn : World.cell? _ ⟨b51, 1, none⟩ = some (.int .i64 y.n) := HM82.out.cellL 6 rfl 1
            have ci : World.cell? _ ⟨b51, 2, none⟩ = some (.int .i64 y.i) := HM82.out.cellL 6 rfl 2
            have ch : World.cell? _ ⟨b51, 3, none⟩ = some (.int .i64 y.h) := HM82.out.cellL 6 rfl 3
            refine wpS_this [0, 1, 2, 3, 4, 5, 6, 7, 8, 9, 10, 11, 12, 13, 14, 15, 16, 17, 18, 19] rfl (by kernel_rfl) (by simp only [pickL, nthL, List.cons_append, List.nil_append]; rfl) ?_
            repeat (go_big_quiet_step (fail))
            refine wpQuiet_nil ?_
            refine wpS_does1 (i := 20) (d := some 80) (rem := [_, _, _, _, _, _, _, _]) (out := [_, _, _, _, _, _, _, _]) rfl (by rfl) rfl Try.call22 (may_d y.n y.i y.h) rfl HM82.out [] rfl (covS_box 6 rfl covS_nil) rfl rfl ?_
            rintro W84 hm83 hg85
            rw [gm.out]
            have HM86 := Lib.hid hm83
            clear hm83
            simp only [Act.put, List.setIfInBounds_toArray, List.set_cons_succ, List.set_cons_zero]
            have ci : World.cell? _ ⟨b51, 2, none⟩ = some (.int .i64 y.i) := HM86.out.cellL 6 rfl 2
            refine wpS_this [21, 22, 23, 24, 25, 26, 27, 28, 29, 30] rfl (by kernel_rfl) (by simp only [pickL, nthL, List.cons_append, List.nil_append]; rfl) ?_
            repeat (go_big_quiet_step (fail))
            refine wpQuiet_nil ?_
            refine wpS_all [32, 33] rfl (by kernel_rfl) (by simp only [pickL, nthL, List.cons_append, List.nil_append]; rfl) ?_
            repeat (go_big_quiet_step (fail))
            refine wpQuiet_nil ?_
            have ci : World.cell? _ ⟨b51, 2, none⟩ = some (.int .i64 y.i) := HM86.out.cellL 6 rfl 2
            refine wpS_stay [34] rfl (by kernel_rfl) (by simp only [pickL, nthL, List.cons_append, List.nil_append]; rfl) ?_
            repeat (go_big_quiet_step (fail))
            refine wpQuiet_nil ?_
            refine wpS_all [35] rfl (by kernel_rfl) (by simp only [pickL, nthL, List.cons_append, List.nil_append]; rfl) ?_
            repeat (go_big_quiet_step (fail))
            refine wpQuiet_nil ?_
            refine wpS_skip (i := 31) (d := some 91) rfl (by rfl) rfl ?_
            simp only [Act.put, List.setIfInBounds_toArray, List.set_cons_succ, List.set_cons_zero]
            refine wpS_this [36, 37, 38] rfl (by kernel_rfl) (by simp only [pickL, nthL, List.cons_append, List.nil_append]; rfl) ?_
            repeat (go_big_quiet_step (fail))
            refine wpQuiet_nil ?_
            refine wpS_skip (i := 39) (d := some 99) rfl (by rfl) rfl ?_
            simp only [Act.put, List.setIfInBounds_toArray, List.set_cons_succ, List.set_cons_zero]
            have ci : World.cell? _ ⟨b51, 2, none⟩ = some (.int .i64 y.i) := HM86.out.cellL 6 rfl 2
            refine wpS_this [40, 41, 42, 43, 44, 45, 46, 47, 48] rfl (by kernel_rfl) (by simp only [pickL, nthL, List.cons_append, List.nil_append]; rfl) ?_
            repeat (go_big_quiet_step (fail))
            refine wpQuiet_nil ?_
            refine wpS_nil ?_
            refine then_normal ?_
            refine wp_cond_false rfl ?_
            refine wp_skip ?_
            refine block_normal ?_
            refine then_normal ?_
            refine ⟨by kernel_rfl, ?_⟩
            exact ⟨s2, hR, hU, congrArg Value.bool hlf.symm, (Mem.only (M := [_, _, _, _, _, _, _]) HM86.out [5, 6, 0, 0, 0, 0, 0] rfl)⟩
          · have gm := Lib.hid gm
            refine wp_region_M (fun k => k ∈ ([b51] : List Nat)) [(0, 1), (1, 1), (2, 1), (3, 1), (4, 1), (5, 1), (6, 1), (7, 1), (8, 1), (9, 1), (10, 1), (11, 1), (12, 1), (13, 1), (14, 1), (15, 1), (16, 1), (17, 1), (18, 1), (19, 1), (20, 3), (21, 1), (22, 1), (23, 1), (24, 1), (25, 1), (26, 1), (27, 1), (28, 1), (29, 1), (30, 1), (32, 0), (33, 0), (34, 2), (35, 0), (31, 3), (36, 1), (37, 1), (38, 1), (39, 3), (40, 1), (41, 1), (42, 1), (43, 1), (44, 1), (45, 1), (46, 1), (47, 1), (48, 1)] (by kernel_rfl) (by kernel_rfl) HM66.out ?_
            intro W87 hm88
            have HM89 := Lib.hid hm88
            clear hm88
            have cn : World.cell? _ ⟨b51, 1, none⟩ = some (.int .i64 y.n) := HM89.out.cellL 6 rfl 1
            have ch : World.cell? _ ⟨b51, 3, none⟩ = some (.int .i64 y.h) := HM89.out.cellL 6 rfl 3
            have ch : World.cell? _ ⟨b51, 3, none⟩ = some (.int .i64 y.h) := HM89.out.cellL 6 rfl 3
            have cn : World.cell? _ ⟨b51, 1, none⟩ = some (.int .i64 y.n) := HM89.out.cellL 6 rfl 1
            have ci : World.cell? _ ⟨b51, 2, none⟩ = some (.int .i64 y.i) := HM89.out.cellL 6 rfl 2
            have ch : World.cell? _ ⟨b51, 3, none⟩ = some (.int .i64 y.h) := HM89.out.cellL 6 rfl 3
            refine wpS_this [0, 1, 2, 3, 4, 5, 6, 7, 8, 9, 10, 11, 12, 13, 14, 15, 16, 17, 18, 19] rfl (by kernel_rfl) (by simp only [pickL, nthL, List.cons_append, List.nil_append]; rfl) ?_
            repeat (go_big_quiet_step (fail))
            refine wpQuiet_nil ?_
            refine wpS_does1 (i := 20) (d := some 80) (rem := [_, _, _, _, _, _, _, _]) (out := [_, _, _, _, _, _, _, _]) rfl (by rfl) rfl Try.call22 (may_d y.n y.i y.h) rfl HM89.out [] rfl (covS_box 6 rfl covS_nil) rfl rfl ?_
            rintro W91 hm90 hg92
            rw [gm.out]
            have HM93 := Lib.hid hm90
            clear hm90
            simp only [Act.put, List.setIfInBounds_toArray, List.set_cons_succ, List.set_cons_zero]
            have ci : World.cell? _ ⟨b51, 2, none⟩ = some (.int .i64 y.i) := HM93.out.cellL 6 rfl 2
            refine wpS_this [21, 22, 23, 24, 25, 26, 27, 28, 29, 30] rfl (by kernel_rfl) (by simp only [pickL, nthL, List.cons_append, List.nil_append]; rfl) ?_
            repeat (go_big_quiet_step (fail))
            refine wpQuiet_nil ?_
            refine wpS_all [32, 33] rfl (by kernel_rfl) (by simp only [pickL, nthL, List.cons_append, List.nil_append]; rfl) ?_
            repeat (go_big_quiet_step (fail))
            refine wpQuiet_nil ?_
            have ci : World.cell? _ ⟨b51, 2, none⟩ = some (.int .i64 y.i) := HM93.out.cellL 6 rfl 2
            refine wpS_stay [34] rfl (by kernel_rfl) (by simp only [pickL, nthL, List.cons_append, List.nil_append]; rfl) ?_
            repeat (go_big_quiet_step (fail))
            refine wpQuiet_nil ?_
            refine wpS_all [35] rfl (by kernel_rfl) (by simp only [pickL, nthL, List.cons_append, List.nil_append]; rfl) ?_
            repeat (go_big_quiet_step (fail))
            refine wpQuiet_nil ?_
            refine wpS_does1 (i := 31) (d := some 91) (rem := [_, _, _, _, _, _, _]) (out := [_, _, _, _, _, _, _, _]) rfl (by rfl) rfl Try.call15 (inc_d bk.d s2 bk.pv bk.pq bk.po bk.pc) rfl HM93.out [0] rfl (covS_box 5 rfl covS_nil) rfl rfl ?_
            rintro W95 hm94 hg96
            have HM97 := Lib.hid hm94
            clear hm94
            simp only [Act.put, List.setIfInBounds_toArray, List.set_cons_succ, List.set_cons_zero]
            refine wpS_this [36, 37, 38] rfl (by kernel_rfl) (by simp only [pickL, nthL, List.cons_append, List.nil_append]; rfl) ?_
            repeat (go_big_quiet_step (fail))
            refine wpQuiet_nil ?_
            refine wpS_skip (i := 39) (d := some 99) rfl (by rfl) rfl ?_
            simp only [Act.put, List.setIfInBounds_toArray, List.set_cons_succ, List.set_cons_zero]
            have ci : World.cell? _ ⟨b51, 2, none⟩ = some (.int .i64 y.i) := HM97.out.cellL 6 rfl 2
            refine wpS_this [40, 41, 42, 43, 44, 45, 46, 47, 48] rfl (by kernel_rfl) (by simp only [pickL, nthL, List.cons_append, List.nil_append]; rfl) ?_
            repeat (go_big_quiet_step (fail))
            refine wpQuiet_nil ?_
            refine wpS_nil ?_
            refine then_normal ?_
            refine wp_cond_false rfl ?_
            refine wp_skip ?_
            refine block_normal ?_
            refine then_normal ?_
            refine ⟨by kernel_rfl, ?_⟩
            exact ⟨s2, hR, hU, congrArg Value.bool hlf.symm, (Mem.only (M := [_, _, _, _, _, _, _]) HM97.out [5, 6, 0, 0, 0, 0, 0] rfl)⟩
          · have gm := Lib.hid gm
            have gov := Lib.hid gov
            refine wp_region_M (fun k => k ∈ ([b51] : List Nat)) [(0, 1), (1, 1), (2, 1), (3, 1), (4, 1), (5, 1), (6, 1), (7, 1), (8, 1), (9, 1), (10, 1), (11, 1), (12, 1), (13, 1), (14, 1), (15, 1), (16, 1), (17, 1), (18, 1), (19, 1), (20, 3), (21, 1), (22, 1), (23, 1), (24, 1), (25, 1), (26, 1), (27, 1), (28, 1), (29, 1), (30, 1), (32, 0), (33, 0), (34, 2), (35, 0), (31, 3), (36, 1), (37, 1), (38, 1), (39, 3), (40, 1), (41, 1), (42, 1), (43, 1), (44, 1), (45, 1), (46, 1), (47, 1), (48, 1)] (by kernel_rfl) (by kernel_rfl) HM66.out ?_
            intro W98 hm99
            have HM100 := Lib.hid hm99
            clear hm99
            have cn : World.cell? _ ⟨b51, 1, none⟩ = some (.int .i64 y.n) := HM100.out.cellL 6 rfl 1
            have ch : World.cell? _ ⟨b51, 3, none⟩ = some (.int .i64 y.h) := HM100.out.cellL 6 rfl 3
            have ch : World.cell? _ ⟨b51, 3, none⟩ = some (.int .i64 y.h) := HM100.out.cellL 6 rfl 3
            have cn : World.cell? _ ⟨b51, 1, none⟩ = some (.int .i64 y.n) := HM100.out.cellL 6 rfl 1
            have ci : World.cell? _ ⟨b51, 2, none⟩ = some (.int .i64 y.i) := HM100.out.cellL 6 rfl 2
            have ch : World.cell? _ ⟨b51, 3, none⟩ = some (.int .i64 y.h) := HM100.out.cellL 6 rfl 3
            refine wpS_this [0, 1, 2, 3, 4, 5, 6, 7, 8, 9, 10, 11, 12, 13, 14, 15, 16, 17, 18, 19] rfl (by kernel_rfl) (by simp only [pickL, nthL, List.cons_append, List.nil_append]; rfl) ?_
            repeat (go_big_quiet_step (fail))
            refine wpQuiet_nil ?_
            refine wpS_does1 (i := 20) (d := some 80) (rem := [_, _, _, _, _, _, _, _]) (out := [_, _, _, _, _, _, _, _]) rfl (by rfl) rfl Try.call22 (may_d y.n y.i y.h) rfl HM100.out [] rfl (covS_box 6 rfl covS_nil) rfl rfl ?_
            rintro W102 hm101 hg103
            rw [gm.out]
            have HM104 := Lib.hid hm101
            clear hm101
            simp only [Act.put, List.setIfInBounds_toArray, List.set_cons_succ, List.set_cons_zero]
            have ci : World.cell? _ ⟨b51, 2, none⟩ = some (.int .i64 y.i) := HM104.out.cellL 6 rfl 2
            refine wpS_this [21, 22, 23, 24, 25, 26, 27, 28, 29, 30] rfl (by kernel_rfl) (by simp only [pickL, nthL, List.cons_append, List.nil_append]; rfl) ?_
            repeat (go_big_quiet_step (fail))
            refine wpQuiet_nil ?_
            refine wpS_all [32, 33] rfl (by kernel_rfl) (by simp only [pickL, nthL, List.cons_append, List.nil_append]; rfl) ?_
            repeat (go_big_quiet_step (fail))
            refine wpQuiet_nil ?_
            have ci : World.cell? _ ⟨b51, 2, none⟩ = some (.int .i64 y.i) := HM104.out.cellL 6 rfl 2
            refine wpS_stay [34] rfl (by kernel_rfl) (by simp only [pickL, nthL, List.cons_append, List.nil_append]; rfl) ?_
            repeat (go_big_quiet_step (fail))
            refine wpQuiet_nil ?_
            refine wpS_all [35] rfl (by kernel_rfl) (by simp only [pickL, nthL, List.cons_append, List.nil_append]; rfl) ?_
            repeat (go_big_quiet_step (fail))
            refine wpQuiet_nil ?_
            refine wpS_does1 (i := 31) (d := some 91) (rem := [_, _, _, _, _, _, _]) (out := [_, _, _, _, _, _, _, _]) rfl (by rfl) rfl Try.call15 (inc_d bk.d s2 bk.pv bk.pq bk.po bk.pc) rfl HM104.out [0] rfl (covS_box 5 rfl covS_nil) rfl rfl ?_
            rintro W106 hm105 hg107
            have HM108 := Lib.hid hm105
            clear hm105
            simp only [Act.put, List.setIfInBounds_toArray, List.set_cons_succ, List.set_cons_zero]
            refine wpS_this [36, 37, 38] rfl (by kernel_rfl) (by simp only [pickL, nthL, List.cons_append, List.nil_append]; rfl) ?_
            repeat (go_big_quiet_step (fail))
            refine wpQuiet_nil ?_
            refine wpS_does1 (i := 39) (d := some 99) (rem := [_, _, _, _, _, _, _]) (out := [_, _, _, _, _, _, _, _]) rfl (by rfl) rfl Try.call17 (over_d bk.d s2 bk.pv bk.pq bk.po bk.pc) rfl HM108.out [0] rfl (covS_box 5 rfl covS_nil) rfl rfl ?_
            rintro W110 hm109 hg111
            rw [gov.out]
            have HM112 := Lib.hid hm109
            clear hm109
            simp only [Act.put, List.setIfInBounds_toArray, List.set_cons_succ, List.set_cons_zero]
            have ci : World.cell? _ ⟨b51, 2, none⟩ = some (.int .i64 y.i) := HM112.out.cellL 6 rfl 2
            refine wpS_this [40, 41, 42, 43, 44, 45, 46, 47, 48] rfl (by kernel_rfl) (by simp only [pickL, nthL, List.cons_append, List.nil_append]; rfl) ?_
            repeat (go_big_quiet_step (fail))
            refine wpQuiet_nil ?_
            refine wpS_nil ?_
            refine then_normal ?_
            refine wp_cond_false rfl ?_
            refine wp_skip ?_
            refine block_normal ?_
            refine then_normal ?_
            refine ⟨by kernel_rfl, ?_⟩
            exact ⟨s2, hR, hU, congrArg Value.bool hlf.symm, (Mem.only (M := [_, _, _, _, _, _, _]) HM112.out [5, 6, 0, 0, 0, 0, 0] rfl)⟩
          · have gm := Lib.hid gm
            refine wp_region_M (fun k => k ∈ ([b51] : List Nat)) [(0, 1), (1, 1), (2, 1), (3, 1), (4, 1), (5, 1), (6, 1), (7, 1), (8, 1), (9, 1), (10, 1), (11, 1), (12, 1), (13, 1), (14, 1), (15, 1), (16, 1), (17, 1), (18, 1), (19, 1), (20, 3), (21, 1), (22, 1), (23, 1), (24, 1), (25, 1), (26, 1), (27, 1), (28, 1), (29, 1), (30, 1), (32, 0), (33, 0), (34, 2), (35, 0), (31, 3), (36, 1), (37, 1), (38, 1), (39, 3), (40, 1), (41, 1), (42, 1), (43, 1), (44, 1), (45, 1), (46, 1), (47, 1), (48, 1)] (by kernel_rfl) (by kernel_rfl) HM66.out ?_
            intro W113 hm114
            have HM115 := Lib.hid hm114
            clear hm114
            have cn : World.cell? _ ⟨b51, 1, none⟩ = some (.int .i64 y.n) := HM115.out.cellL 6 rfl 1
            have ch : World.cell? _ ⟨b51, 3, none⟩ = some (.int .i64 y.h) := HM115.out.cellL 6 rfl 3
            have ch : World.cell? _ ⟨b51, 3, none⟩ = some (.int .i64 y.h) := HM115.out.cellL 6 rfl 3
            have cn : World.cell? _ ⟨b51, 1, none⟩ = some (.int .i64 y.n) := HM115.out.cellL 6 rfl 1
            have ci : World.cell? _ ⟨b51, 2, none⟩ = some (.int .i64 y.i) := HM115.out.cellL 6 rfl 2
            have ch : World.cell? _ ⟨b51, 3, none⟩ = some (.int .i64 y.h) := HM115.out.cellL 6 rfl 3
            refine wpS_this [0, 1, 2, 3, 4, 5, 6, 7, 8, 9, 10, 11, 12, 13, 14, 15, 16, 17, 18, 19] rfl (by kernel_rfl) (by simp only [pickL, nthL, List.cons_append, List.nil_append]; rfl) ?_
            repeat (go_big_quiet_step (fail))
            refine wpQuiet_nil ?_
            refine wpS_does1 (i := 20) (d := some 80) (rem := [_, _, _, _, _, _, _, _]) (out := [_, _, _, _, _, _, _, _]) rfl (by rfl) rfl Try.call22 (may_d y.n y.i y.h) rfl HM115.out [] rfl (covS_box 6 rfl covS_nil) rfl rfl ?_
            rintro W117 hm116 hg118
            rw [gm.out]
            have HM119 := Lib.hid hm116
            clear hm116
            simp only [Act.put, List.setIfInBounds_toArray, List.set_cons_succ, List.set_cons_zero]
            have ci : World.cell? _ ⟨b51, 2, none⟩ = some (.int .i64 y.i) := HM119.out.cellL 6 rfl 2
            refine wpS_this [21, 22, 23, 24, 25, 26, 27, 28, 29, 30] rfl (by kernel_rfl) (by simp only [pickL, nthL, List.cons_append, List.nil_append]; rfl) ?_
            repeat (go_big_quiet_step (fail))
            refine wpQuiet_nil ?_
            refine wpS_all [32, 33] rfl (by kernel_rfl) (by simp only [pickL, nthL, List.cons_append, List.nil_append]; rfl) ?_
            repeat (go_big_quiet_step (fail))
            refine wpQuiet_nil ?_
            have ci : World.cell? _ ⟨b51, 2, none⟩ = some (.int .i64 y.i) := HM119.out.cellL 6 rfl 2
            refine wpS_stay [34] rfl (by kernel_rfl) (by simp only [pickL, nthL, List.cons_append, List.nil_append]; rfl) ?_
            repeat (go_big_quiet_step (fail))
            refine wpQuiet_nil ?_
            refine wpS_all [35] rfl (by kernel_rfl) (by simp only [pickL, nthL, List.cons_append, List.nil_append]; rfl) ?_
            repeat (go_big_quiet_step (fail))
            refine wpQuiet_nil ?_
            refine wpS_skip (i := 31) (d := some 91) rfl (by rfl) rfl ?_
            simp only [Act.put, List.setIfInBounds_toArray, List.set_cons_succ, List.set_cons_zero]
            refine wpS_this [36, 37, 38] rfl (by kernel_rfl) (by simp only [pickL, nthL, List.cons_append, List.nil_append]; rfl) ?_
            repeat (go_big_quiet_step (fail))
            refine wpQuiet_nil ?_
            refine wpS_skip (i := 39) (d := some 99) rfl (by rfl) rfl ?_
            simp only [Act.put, List.setIfInBounds_toArray, List.set_cons_succ, List.set_cons_zero]
            have ci : World.cell? _ ⟨b51, 2, none⟩ = some (.int .i64 y.i) := HM119.out.cellL 6 rfl 2
            refine wpS_this [40, 41, 42, 43, 44, 45, 46, 47, 48] rfl (by kernel_rfl) (by simp only [pickL, nthL, List.cons_append, List.nil_append]; rfl) ?_
            repeat (go_big_quiet_step (fail))
            refine wpQuiet_nil ?_
            refine wpS_nil ?_
            refine then_normal ?_
            refine wp_cond_false rfl ?_
            refine wp_skip ?_
            refine block_normal ?_
            refine then_normal ?_
            refine ⟨by kernel_rfl, ?_⟩
            exact ⟨s2, hR, hU, congrArg Value.bool hlf.symm, (Mem.only (M := [_, _, _, _, _, _, _]) HM119.out [5, 6, 0, 0, 0, 0, 0] rfl)⟩
          · have gm := Lib.hid gm
            refine wp_region_M (fun k => k ∈ ([b51] : List Nat)) [(0, 1), (1, 1), (2, 1), (3, 1), (4, 1), (5, 1), (6, 1), (7, 1), (8, 1), (9, 1), (10, 1), (11, 1), (12, 1), (13, 1), (14, 1), (15, 1), (16, 1), (17, 1), (18, 1), (19, 1), (20, 3), (21, 1), (22, 1), (23, 1), (24, 1), (25, 1), (26, 1), (27, 1), (28, 1), (29, 1), (30, 1), (32, 0), (33, 0), (34, 2), (35, 0), (31, 3), (36, 1), (37, 1), (38, 1), (39, 3), (40, 1), (41, 1), (42, 1), (43, 1), (44, 1), (45, 1), (46, 1), (47, 1), (48, 1)] (by kernel_rfl) (by kernel_rfl) HM66.out ?_
            intro W120 hm121
            have HM122 := Lib.hid hm121
            clear hm121
            have cn : World.cell? _ ⟨b51, 1, none⟩ = some (.int .i64 y.n) := HM122.out.cellL 6 rfl 1
            have ch : World.cell? _ ⟨b51, 3, none⟩ = some (.int .i64 y.h) := HM122.out.cellL 6 rfl 3
            have ch : World.cell? _ ⟨b51, 3, none⟩ = some (.int .i64 y.h) := HM122.out.cellL 6 rfl 3
            have cn : World.cell? _ ⟨b51, 1, none⟩ = some (.int .i64 y.n) := HM122.out.cellL 6 rfl 1
            have ci : World.cell? _ ⟨b51, 2, none⟩ = some (.int .i64 y.i) := HM122.out.cellL 6 rfl 2
            have ch : World.cell? _ ⟨b51, 3, none⟩ = some (.int .i64 y.h) := HM122.out.cellL 6 rfl 3
            refine wpS_this [0, 1, 2, 3, 4, 5, 6, 7, 8, 9, 10, 11, 12, 13, 14, 15, 16, 17, 18, 19] rfl (by kernel_rfl) (by simp only [pickL, nthL, List.cons_append, List.nil_append]; rfl) ?_
            repeat (go_big_quiet_step (fail))
            refine wpQuiet_nil ?_
            refine wpS_does1 (i := 20) (d := some 80) (rem := [_, _, _, _, _, _, _, _]) (out := [_, _, _, _, _, _, _, _]) rfl (by rfl) rfl Try.call22 (may_d y.n y.i y.h) rfl HM122.out [] rfl (covS_box 6 rfl covS_nil) rfl rfl ?_
            rintro W124 hm123 hg125
            rw [gm.out]
            have HM126 := Lib.hid hm123
            clear hm123
            simp only [Act.put, List.setIfInBounds_toArray, List.set_cons_succ, List.set_cons_zero]
            have ci : World.cell? _ ⟨b51, 2, none⟩ = some (.int .i64 y.i) := HM126.out.cellL 6 rfl 2
            refine wpS_this [21, 22, 23, 24, 25, 26, 27, 28, 29, 30] rfl (by kernel_rfl) (by simp only [pickL, nthL, List.cons_append, List.nil_append]; rfl) ?_
            repeat (go_big_quiet_step (fail))
            refine wpQuiet_nil ?_
            refine wpS_all [32, 33] rfl (by kernel_rfl) (by simp only [pickL, nthL, List.cons_append, List.nil_append]; rfl) ?_
            repeat (go_big_quiet_step (fail))
            refine wpQuiet_nil ?_
            have ci : World.cell? _ ⟨b51, 2, none⟩ = some (.int .i64 y.i) := HM126.out.cellL 6 rfl 2
            refine wpS_stay [34] rfl (by kernel_rfl) (by simp only [pickL, nthL, List.cons_append, List.nil_append]; rfl) ?_
            repeat (go_big_quiet_step (fail))
            refine wpQuiet_nil ?_
            refine wpS_all [35] rfl (by kernel_rfl) (by simp only [pickL, nthL, List.cons_append, List.nil_append]; rfl) ?_
            repeat (go_big_quiet_step (fail))
            refine wpQuiet_nil ?_
            refine wpS_skip (i := 31) (d := some 91) rfl (by rfl) rfl ?_
            simp only [Act.put, List.setIfInBounds_toArray, List.set_cons_succ, List.set_cons_zero]
            refine wpS_this [36, 37, 38] rfl (by kernel_rfl) (by simp only [pickL, nthL, List.cons_append, List.nil_append]; rfl) ?_
            repeat (go_big_quiet_step (fail))
            refine wpQuiet_nil ?_
            refine wpS_skip (i := 39) (d := some 99) rfl (by rfl) rfl ?_
            simp only [Act.put, List.setIfInBounds_toArray, List.set_cons_succ, List.set_cons_zero]
            have ci : World.cell? _ ⟨b51, 2, none⟩ = some (.int .i64 y.i) := HM126.out.cellL 6 rfl 2
            refine wpS_this [40, 41, 42, 43, 44, 45, 46, 47, 48] rfl (by kernel_rfl) (by simp only [pickL, nthL, List.cons_append, List.nil_append]; rfl) ?_
            repeat (go_big_quiet_step (fail))
            refine wpQuiet_nil ?_
            refine wpS_nil ?_
            refine then_normal ?_
            refine wp_cond_false rfl ?_
            refine wp_skip ?_
            refine block_normal ?_
            refine then_normal ?_
            refine ⟨by kernel_rfl, ?_⟩
            exact ⟨s2, hR, hU, congrArg Value.bool hlf.symm, (Mem.only (M := [_, _, _, _, _, _, _]) HM126.out [5, 6, 0, 0, 0, 0, 0] rfl)⟩
          · have gm := Lib.hid gm
            refine wp_region_M (fun k => k ∈ ([b51] : List Nat)) [(0, 1), (1, 1), (2, 1), (3, 1), (4, 1), (5, 1), (6, 1), (7, 1), (8, 1), (9, 1), (10, 1), (11, 1), (12, 1), (13, 1), (14, 1), (15, 1), (16, 1), (17, 1), (18, 1), (19, 1), (20, 3), (21, 1), (22, 1), (23, 1), (24, 1), (25, 1), (26, 1), (27, 1), (28, 1), (29, 1), (30, 1), (32, 0), (33, 0), (34, 2), (35, 0), (31, 3), (36, 1), (37, 1), (38, 1), (39, 3), (40, 1), (41, 1), (42, 1), (43, 1), (44, 1), (45, 1), (46, 1), (47, 1), (48, 1)] (by kernel_rfl) (by kernel_rfl) HM66.out ?_
            intro W127 hm128
            have HM129 := Lib.hid hm128
            clear hm128
            have cn : World.cell? _ ⟨b51, 1, none⟩ = some (.int .i64 y.n) := HM129.out.cellL 6 rfl 1
            have ch : World.cell? _ ⟨b51, 3, none⟩ = some (.int .i64 y.h) := HM129.out.cellL 6 rfl 3
            have ch : World.cell? _ ⟨b51, 3, none⟩ = some (.int .i64 y.h) := HM129.out.cellL 6 rfl 3
            have cn : World.cell? _ ⟨b51, 1, none⟩ = some (.int .i64 y.n) := HM129.out.cellL 6 rfl 1
            have ci : World.cell? _ ⟨b51, 2, none⟩ = some (.int .i64 y.i) := HM129.out.cellL 6 rfl 2
            have ch : World.cell? _ ⟨b51, 3, none⟩ = some (.int .i64 y.h) := HM129.out.cellL 6 rfl 3
            refine wpS_this [0, 1, 2, 3, 4, 5, 6, 7, 8, 9, 10, 11, 12, 13, 14, 15, 16, 17, 18, 19] rfl (by kernel_rfl) (by simp only [pickL, nthL, List.cons_append, List.nil_append]; rfl) ?_
            repeat (go_big_quiet_step (fail))
            refine wpQuiet_nil ?_
            refine wpS_does1 (i := 20) (d := some 80) (rem := [_, _, _, _, _, _, _, _]) (out := [_, _, _, _, _, _, _, _]) rfl (by rfl) rfl Try.call22 (may_d y.n y.i y.h) rfl HM129.out [] rfl (covS_box 6 rfl covS_nil) rfl rfl ?_
            rintro W131 hm130 hg132
            rw [gm.out]
            have HM133 := Lib.hid hm130
            clear hm130
            simp only [Act.put, List.setIfInBounds_toArray, List.set_cons_succ, List.set_cons_zero]
            have ci : World.cell? _ ⟨b51, 2, none⟩ = some (.int .i64 y.i) := HM133.out.cellL 6 rfl 2
            refine wpS_this [21, 22, 23, 24, 25, 26, 27, 28, 29, 30] rfl (by kernel_rfl) (by simp only [pickL, nthL, List.cons_append, List.nil_append]; rfl) ?_
            repeat (go_big_quiet_step (fail))
            refine wpQuiet_nil ?_
            refine wpS_all [32, 33] rfl (by kernel_rfl) (by simp only [pickL, nthL, List.cons_append, List.nil_append]; rfl) ?_
            repeat (go_big_quiet_step (fail))
            refine wpQuiet_nil ?_
            have ci : World.cell? _ ⟨b51, 2, none⟩ = some (.int .i64 y.i) := HM133.out.cellL 6 rfl 2
            refine wpS_stay [34] rfl (by kernel_rfl) (by simp only [pickL, nthL, List.cons_append, List.nil_append]; rfl) ?_
            repeat (go_big_quiet_step (fail))
            refine wpQuiet_nil ?_
            refine wpS_all [35] rfl (by kernel_rfl) (by simp only [pickL, nthL, List.cons_append, List.nil_append]; rfl) ?_
            repeat (go_big_quiet_step (fail))
            refine wpQuiet_nil ?_
            refine wpS_does1 (i := 31) (d := some 91) (rem := [_, _, _, _, _, _, _]) (out := [_, _, _, _, _, _, _, _]) rfl (by rfl) rfl Try.call15 (inc_d bk.d s2 bk.pv bk.pq bk.po bk.pc) rfl HM133.out [0] rfl (covS_box 5 rfl covS_nil) rfl rfl ?_
            rintro W135 hm134 hg136
            have HM137 := Lib.hid hm134
            clear hm134
            simp only [Act.put, List.setIfInBounds_toArray, List.set_cons_succ, List.set_cons_zero]
            refine wpS_this [36, 37, 38] rfl (by kernel_rfl) (by simp only [pickL, nthL, List.cons_append, List.nil_append]; rfl) ?_
            repeat (go_big_quiet_step (fail))
            refine wpQuiet_nil ?_
            refine wpS_skip (i := 39) (d := some 99) rfl (by rfl) rfl ?_
            simp only [Act.put, List.setIfInBounds_toArray, List.set_cons_succ, List.set_cons_zero]
            have ci : World.cell? _ ⟨b51, 2, none⟩ = some (.int .i64 y.i) := HM137.out.cellL 6 rfl 2
            refine wpS_this [40, 41, 42, 43, 44, 45, 46, 47, 48] rfl (by kernel_rfl) (by simp only [pickL, nthL, List.cons_append, List.nil_append]; rfl) ?_
            repeat (go_big_quiet_step (fail))
            refine wpQuiet_nil ?_
            refine wpS_nil ?_
            refine then_normal ?_
            refine wp_cond_false rfl ?_
            refine wp_skip ?_
            refine block_normal ?_
            refine then_normal ?_
            refine ⟨by kernel_rfl, ?_⟩
            exact ⟨s2, hR, hU, congrArg Value.bool hlf.symm, (Mem.only (M := [_, _, _, _, _, _, _]) HM137.out [5, 6, 0, 0, 0, 0, 0] rfl)⟩
          · have gm := Lib.hid gm
            have gov := Lib.hid gov
            refine wp_region_M (fun k => k ∈ ([b51] : List Nat)) [(0, 1), (1, 1), (2, 1), (3, 1), (4, 1), (5, 1), (6, 1), (7, 1), (8, 1), (9, 1), (10, 1), (11, 1), (12, 1), (13, 1), (14, 1), (15, 1), (16, 1), (17, 1), (18, 1), (19, 1), (20, 3), (21, 1), (22, 1), (23, 1), (24, 1), (25, 1), (26, 1), (27, 1), (28, 1), (29, 1), (30, 1), (32, 0), (33, 0), (34, 2), (35, 0), (31, 3), (36, 1), (37, 1), (38, 1), (39, 3), (40, 1), (41, 1), (42, 1), (43, 1), (44, 1), (45, 1), (46, 1), (47, 1), (48, 1)] (by kernel_rfl) (by kernel_rfl) HM66.out ?_
            intro W138 hm139
            have HM140 := Lib.hid hm139
            clear hm139
            have cn : World.cell? _ ⟨b51, 1, none⟩ = some (.int .i64 y.n) := HM140.out.cellL 6 rfl 1
            have ch : World.cell? _ ⟨b51, 3, none⟩ = some (.int .i64 y.h) := HM140.out.cellL 6 rfl 3
            have ch : World.cell? _ ⟨b51, 3, none⟩ = some (.int .i64 y.h) := HM140.out.cellL 6 rfl 3
            have cn : World.cell? _ ⟨b51, 1, none⟩ = some (.int .i64 y.n) := HM140.out.cellL 6 rfl 1
            have ci : World.cell? _ ⟨b51, 2, none⟩ = some (.int .i64 y.i) := HM140.out.cellL 6 rfl 2
            have ch : World.cell? _ ⟨b51, 3, none⟩ = some (.int .i64 y.h) := HM140.out.cellL 6 rfl 3
            refine wpS_this [0, 1, 2, 3, 4, 5, 6, 7, 8, 9, 10, 11, 12, 13, 14, 15, 16, 17, 18, 19] rfl (by kernel_rfl) (by simp only [pickL, nthL, List.cons_append, List.nil_append]; rfl) ?_
            repeat (go_big_quiet_step (fail))
            refine wpQuiet_nil ?_
            refine wpS_does1 (i := 20) (d := some 80) (rem := [_, _, _, _, _, _, _, _]) (out := [_, _, _, _, _, _, _, _]) rfl (by rfl) rfl Try.call22 (may_d y.n y.i y.h) rfl HM140.out [] rfl (covS_box 6 rfl covS_nil) rfl rfl ?_
            rintro W142 hm141 hg143
            rw [gm.out]
            have HM144 := Lib.hid hm141
            clear hm141
            simp only [Act.put, List.setIfInBounds_toArray, List.set_cons_succ, List.set_cons_zero]
            have ci : World.cell? _ ⟨b51, 2, none⟩ = some (.int .i64 y.i) := HM144.out.cellL 6 rfl 2
            refine wpS_this [21, 22, 23, 24, 25, 26, 27, 28, 29, 30] rfl (by kernel_rfl) (by simp only [pickL, nthL, List.cons_append, List.nil_append]; rfl) ?_
            repeat (go_big_quiet_step (fail))
            refine wpQuiet_nil ?_
            refine wpS_all [32, 33] rfl (by kernel_rfl) (by simp only [pickL, nthL, List.cons_append, List.nil_append]; rfl) ?_
            repeat (go_big_quiet_step (fail))
            refine wpQuiet_nil ?_
            have ci : World.cell? _ ⟨b51, 2, none⟩ = some (.int .i64 y.i) := HM144.out.cellL 6 rfl 2
            refine wpS_stay [34] rfl (by kernel_rfl) (by simp only [pickL, nthL, List.cons_append, List.nil_append]; rfl) ?_
            repeat (go_big_quiet_step (fail))
            refine wpQuiet_nil ?_
            refine wpS_all [35] rfl (by kernel_rfl) (by simp only [pickL, nthL, List.cons_append, List.nil_append]; rfl) ?_
            repeat (go_big_quiet_step (fail))
            refine wpQuiet_nil ?_
            refine wpS_does1 (i := 31) (d := some 91) (rem := [_, _, _, _, _, _, _]) (out := [_, _, _, _, _, _, _, _]) rfl (by rfl) rfl Try.call15 (inc_d bk.d s2 bk.pv bk.pq bk.po bk.pc) rfl HM144.out [0] rfl (covS_box 5 rfl covS_nil) rfl rfl ?_
            rintro W146 hm145 hg147
            have HM148 := Lib.hid hm145
            clear hm145
            simp only [Act.put, List.setIfInBounds_toArray, List.set_cons_succ, List.set_cons_zero]
            refine wpS_this [36, 37, 38] rfl (by kernel_rfl) (by simp only [pickL, nthL, List.cons_append, List.nil_append]; rfl) ?_
            repeat (go_big_quiet_step (fail))
            refine wpQuiet_nil ?_
            refine wpS_does1 (i := 39) (d := some 99) (rem := [_, _, _, _, _, _, _]) (out := [_, _, _, _, _, _, _, _]) rfl (by rfl) rfl Try.call17 (over_d bk.d s2 bk.pv bk.pq bk.po bk.pc) rfl HM148.out [0] rfl (covS_box 5 rfl covS_nil) rfl rfl ?_
            rintro W150 hm149 hg151
            rw [gov.out]
            have HM152 := Lib.hid hm149
            clear hm149
            simp only [Act.put, List.setIfInBounds_toArray, List.set_cons_succ, List.set_cons_zero]
            have ci : World.cell? _ ⟨b51, 2, none⟩ = some (.int .i64 y.i) := HM152.out.cellL 6 rfl 2
            refine wpS_this [40, 41, 42, 43, 44, 45, 46, 47, 48] rfl (by kernel_rfl) (by simp only [pickL, nthL, List.cons_append, List.nil_append]; rfl) ?_
            repeat (go_big_quiet_step (fail))
            refine wpQuiet_nil ?_
            refine wpS_nil ?_
            refine then_normal ?_
            refine wp_cond_false rfl ?_
            refine wp_skip ?_
            refine block_normal ?_
            refine then_normal ?_
            refine ⟨by kernel_rfl, ?_⟩
            exact ⟨s2, hR, hU, congrArg Value.bool hlf.symm, (Mem.only (M := [_, _, _, _, _, _, _]) HM152.out [5, 6, 0, 0, 0, 0, 0] rfl)⟩
        · clear h63
          refine wp_seq ?_
          refine wp_region_N [(0, 1), (1, 1)] (by kernel_rfl) ?_
          refine wpS_this [0, 1] rfl (by kernel_rfl) (by simp only [pickL, nthL, List.cons_append, List.nil_append]; rfl) ?_
          repeat (go_big_quiet_step (fail))
          refine wpQuiet_nil ?_
          refine wpS_nil ?_
          refine then_normal ?_
          refine wp_cond_split rfl (fun h153 => ?_) (fun h153 => ?_)
          · clear h153
            refine wp_seq ?_
            refine wp_region_N [(0, 1), (1, 3)] (by kernel_rfl) ?_
            refine wpS_this [0] rfl (by kernel_rfl) (by simp only [pickL, nthL, List.cons_append, List.nil_append]; rfl) ?_
            repeat (go_big_quiet_step (fail))
            refine wpQuiet_nil ?_
            refine wpS_does1 (i := 1) (d := some 112) (rem := [_, _, _]) (out := [_, _, _, _, _, _, _, _]) rfl (by rfl) rfl Try.call12 (leave_d bk.d s bk.pv bk.pq bk.po bk.pc) rfl HM62.out [0, 1, 3, 3, 3] rfl covS_nil rfl rfl ?_
            rintro W155 hm154 -
            obtain ⟨s2, hst⟩ : ∃ x, (leaveD s).1 = x := ⟨_, rfl⟩
            rw [hst] at hm154
            have hh := hs.leave
            rw [hst] at hh
            obtain ⟨hR, hU, hlf⟩ := hh
            have hst := Lib.hid hst
            have HM156 := Lib.hid hm154
            clear hm154
            simp only [Act.put, List.setIfInBounds_toArray, List.set_cons_succ, List.set_cons_zero]
            refine wpS_nil ?_
            refine then_normal ?_
            refine wp_region_N [(0, 1)] (by kernel_rfl) ?_
            refine wpS_this [0] rfl (by kernel_rfl) (by simp only [pickL, nthL, List.cons_append, List.nil_append]; rfl) ?_
            repeat (go_big_quiet_step (fail))
            refine wpQuiet_nil ?_
            refine wpS_nil ?_
            refine block_normal ?_
            refine then_normal ?_
            refine ⟨by kernel_rfl, ?_⟩
            exact ⟨s2, hR, hU, congrArg Value.bool hlf.symm, (Mem.only (M := [_, _, _, _, _, _, _]) HM156.out [5, 6, 0, 0, 0, 0, 0] rfl)⟩
          · clear h153
            refine wp_seq ?_
            refine wp_seq ?_
            refine wp_region_N [(0, 1), (1, 1)] (by kernel_rfl) ?_
            refine wpS_this [0, 1] rfl (by kernel_rfl) (by simp only [pickL, nthL, List.cons_append, List.nil_append]; rfl) ?_
            repeat (go_big_quiet_step (fail))
            refine wpQuiet_nil ?_
            refine wpS_nil ?_
            refine then_normal ?_
            refine wp_cond_split rfl (fun h157 => ?_) (fun h157 => ?_)
            · clear h157
              refine wp_skip ?_
              refine then_normal ?_
              refine wp_cond_split rfl (fun h158 => ?_) (fun h158 => ?_)
              · clear h158
                refine wp_region_N [(0, 1), (1, 1), (2, 1), (3, 3)] (by kernel_rfl) ?_
                refine wpS_this [0, 1] rfl (by kernel_rfl) (by simp only [pickL, nthL, List.cons_append, List.nil_append]; rfl) ?_
                repeat (go_big_quiet_step (fail))
                refine wpQuiet_nil ?_
                refine wpS_loadA (i := 2) (d := some 118) (cells := y.m.enc) rfl (by rfl) rfl rfl (fun k u hu => ((HM62.out.cellL 3 rfl (4 + k)).trans (y.at_m k u hu))) Try.underlying39 rfl (by rw [InM.enc_len y.hm]; kernel_rfl) rfl ?_
                simp only [Act.put, List.setIfInBounds_toArray, List.set_cons_succ, List.set_cons_zero]
                refine wpS_doesU2 (i := 3) (d := some 119) (rem := [_, _]) rfl (by rfl) rfl Try.call10 (handle_d bk.d s bk.pv bk.pq bk.po bk.pc (oldT W0) y.m ycl (fun W H h => OldA.row h hycl.out) (by have := row_len hycl.out; have := hfit.out.2.1; omega) y.hm hs.ok) rfl rfl HM62.out [4, 0, 1, 2, 2, 2] rfl covS_nil (fun _ => rfl) rfl ?_
                rintro u161 W160 hm159 -
                obtain ⟨s2, hst⟩ : ∃ x, (handleD s (y.m.mm ycl)).1 = x := ⟨_, rfl⟩
                rw [hst] at hm159
                have hh := hs.handle y.m ycl
                rw [hst] at hh
                obtain ⟨hR, hU, hlf⟩ := hh
                have hst := Lib.hid hst
                have HM162 := Lib.hid hm159
                clear hm159
                simp only [Act.put, List.setIfInBounds_toArray, List.set_cons_succ, List.set_cons_zero]
                refine wpS_nil ?_
                refine block_normal ?_
                refine then_normal ?_
                refine ⟨by kernel_rfl, ?_⟩
                exact ⟨s2, hR, hU, congrArg Value.bool hlf.symm, (Mem.only (M := [_, _, _, _, _, _, _]) HM162.out [7, 1, 1, 1, 1, 1, 1] rfl)⟩
              · clear h158
                refine wp_region_N [(0, 1), (1, 1), (2, 1), (3, 1), (4, 1), (5, 3)] (by kernel_rfl) ?_
                refine wpS_this [0, 1] rfl (by kernel_rfl) (by simp only [pickL, nthL, List.cons_append, List.nil_append]; rfl) ?_
                repeat (go_big_quiet_step (fail))
                refine wpQuiet_nil ?_
                refine wpS_load1 (i := 2) (d := some 50) (u := .slice y.pp y.pn y.pc) rfl (by rfl) rfl rfl ((HM62.out.cellL 3 rfl 66).trans y.at_p) Try.underlying29 rfl rfl ?_
                simp only [Act.put, List.setIfInBounds_toArray, List.set_cons_succ, List.set_cons_zero]
                refine wpS_this [3] rfl (by kernel_rfl) (by simp only [pickL, nthL, List.cons_append, List.nil_append]; rfl) ?_
                repeat (go_big_quiet_step (fail))
                refine wpQuiet_nil ?_
                refine wpS_load1 (i := 4) (d := some 52) (u := .int .u64 y.draw) rfl (by rfl) rfl rfl ((HM62.out.cellL 3 rfl 67).trans y.at_d) Try.underlying40 rfl rfl ?_
                simp only [Act.put, List.setIfInBounds_toArray, List.set_cons_succ, List.set_cons_zero]
                refine wpS_doesU3 (i := 5) (d := some 53) (rem := [_, _]) rfl (by rfl) rfl Try.call9 (tick_d bk.d s bk.pv bk.pq bk.po bk.pc (.slice y.pp y.pn y.pc) y.draw (oldT W0) yps (fun W H h => OldA.row h hyps.out) (by have := row_len hyps.out; have := hfit.out.2.2; omega) hs.ok (by have := hs.now; have := hfit.out.1; omega) y.d0 y.d1) rfl rfl rfl HM62.out [4, 0, 1, 2, 2, 2] rfl covS_nil (fun _ => rfl) rfl ?_
                rintro u165 W164 hm163 -
                obtain ⟨s2, hst⟩ : ∃ x, (tickD s yps y.draw).1 = x := ⟨_, rfl⟩
                rw [hst] at hm163
                have hh := hs.tick hfit.out.1 yps y.draw
                rw [hst] at hh
                obtain ⟨hR, hU, hlf⟩ := hh
                have hst := Lib.hid hst
                have HM166 := Lib.hid hm163
                clear hm163
                simp only [Act.put, List.setIfInBounds_toArray, List.set_cons_succ, List.set_cons_zero]
                refine wpS_nil ?_
                refine block_normal ?_
                refine then_normal ?_
                refine ⟨by kernel_rfl, ?_⟩
                exact ⟨s2, hR, hU, congrArg Value.bool hlf.symm, (Mem.only (M := [_, _, _, _, _, _, _]) HM166.out [7, 1, 1, 1, 1, 1, 1] rfl)⟩
            · clear h157
              refine wp_region_N [(0, 1), (1, 1)] (by kernel_rfl) ?_
              refine wpS_this [0, 1] rfl (by kernel_rfl) (by simp only [pickL, nthL, List.cons_append, List.nil_append]; rfl) ?_
              repeat (go_big_quiet_step (fail))
              refine wpQuiet_nil ?_
              refine wpS_nil ?_
              refine then_normal ?_
              refine wp_cond_split rfl (fun h167 => ?_) (fun h167 => ?_)
              · clear h167
                refine wp_region_N [(0, 1), (1, 1), (2, 1), (3, 3)] (by kernel_rfl) ?_
                refine wpS_this [0, 1] rfl (by kernel_rfl) (by simp only [pickL, nthL, List.cons_append, List.nil_append]; rfl) ?_
                repeat (go_big_quiet_step (fail))
                refine wpQuiet_nil ?_
                refine wpS_loadA (i := 2) (d := some 118) (cells := y.m.enc) rfl (by rfl) rfl rfl (fun k u hu => ((HM62.out.cellL 3 rfl (4 + k)).trans (y.at_m k u hu))) Try.underlying39 rfl (by rw [InM.enc_len y.hm]; kernel_rfl) rfl ?_
                simp only [Act.put, List.setIfInBounds_toArray, List.set_cons_succ, List.set_cons_zero]
                refine wpS_doesU2 (i := 3) (d := some 119) (rem := [_, _]) rfl (by rfl) rfl Try.call10 (handle_d bk.d s bk.pv bk.pq bk.po bk.pc (oldT W0) y.m ycl (fun W H h => OldA.row h hycl.out) (by have := row_len hycl.out; have := hfit.out.2.1; omega) y.hm hs.ok) rfl rfl HM62.out [4, 0, 1, 2, 2, 2] rfl covS_nil (fun _ => rfl) rfl ?_
                rintro u170 W169 hm168 -
                obtain ⟨s2, hst⟩ : ∃ x, (handleD s (y.m.mm ycl)).1 = x := ⟨_, rfl⟩
                rw [hst] at hm168
                have hh := hs.handle y.m ycl
                rw [hst] at hh
                obtain ⟨hR, hU, hlf⟩ := hh
                have hst := Lib.hid hst
                have HM171 := Lib.hid hm168
                clear hm168
                simp only [Act.put, List.setIfInBounds_toArray, List.set_cons_succ, List.set_cons_zero]
                refine wpS_nil ?_
                refine block_normal ?_
                refine then_normal ?_
                refine ⟨by kernel_rfl, ?_⟩
                exact ⟨s2, hR, hU, congrArg Value.bool hlf.symm, (Mem.only (M := [_, _, _, _, _, _, _]) HM171.out [7, 1, 1, 1, 1, 1, 1] rfl)⟩
              · clear h167
                refine wp_region_N [(0, 1), (1, 1), (2, 1), (3, 1), (4, 1), (5, 3)] (by kernel_rfl) ?_
                refine wpS_this [0, 1] rfl (by kernel_rfl) (by simp only [pickL, nthL, List.cons_append, List.nil_append]; rfl) ?_
                repeat (go_big_quiet_step (fail))
                refine wpQuiet_nil ?_
                refine wpS_load1 (i := 2) (d := some 50) (u := .slice y.pp y.pn y.pc) rfl (by rfl) rfl rfl ((HM62.out.cellL 3 rfl 66).trans y.at_p) Try.underlying29 rfl rfl ?_
                simp only [Act.put, List.setIfInBounds_toArray, List.set_cons_succ, List.set_cons_zero]
                refine wpS_this [3] rfl (by kernel_rfl) (by simp only [pickL, nthL, List.cons_append, List.nil_append]; rfl) ?_
                repeat (go_big_quiet_step (fail))
                refine wpQuiet_nil ?_
                refine wpS_load1 (i := 4) (d := some 52) (u := .int .u64 y.draw) rfl (by rfl) rfl rfl ((HM62.out.cellL 3 rfl 67).trans y.at_d) Try.underlying40 rfl rfl ?_
                simp only [Act.put, List.setIfInBounds_toArray, List.set_cons_succ, List.set_cons_zero]
                refine wpS_doesU3 (i := 5) (d := some 53) (rem := [_, _]) rfl (by rfl) rfl Try.call9 (tick_d bk.d s bk.pv bk.pq bk.po bk.pc (.slice y.pp y.pn y.pc) y.draw (oldT W0) yps (fun W H h => OldA.row h hyps.out) (by have := row_len hyps.out; have := hfit.out.2.2; omega) hs.ok (by have := hs.now; have := hfit.out.1; omega) y.d0 y.d1) rfl rfl rfl HM62.out [4, 0, 1, 2, 2, 2] rfl covS_nil (fun _ => rfl) rfl ?_
                rintro u174 W173 hm172 -
                obtain ⟨s2, hst⟩ : ∃ x, (tickD s yps y.draw).1 = x := ⟨_, rfl⟩
                rw [hst] at hm172
                have hh := hs.tick hfit.out.1 yps y.draw
                rw [hst] at hh
                obtain ⟨hR, hU, hlf⟩ := hh
                have hst := Lib.hid hst
                have HM175 := Lib.hid hm172
                clear hm172
                simp only [Act.put, List.setIfInBounds_toArray, List.set_cons_succ, List.set_cons_zero]
                refine wpS_nil ?_
                refine block_normal ?_
                refine then_normal ?_
                refine ⟨by kernel_rfl, ?_⟩
                exact ⟨s2, hR, hU, congrArg Value.bool hlf.symm, (Mem.only (M := [_, _, _, _, _, _, _]) HM175.out [7, 1, 1, 1, 1, 1, 1] rfl)⟩
      · rintro vs2 W2' ⟨s2, hR, hU, e8, hm⟩
        simp only [putAll, List.map_cons, List.map_nil, Act.put, List.setIfInBounds_toArray, List.set_cons_succ, List.set_cons_zero]
        rw [e8]
        clear e8
        have HM176 := Lib.hid hm
        clear hm
        refine then_normal ?_
        refine wp_seq ?_
        refine wp_seq ?_
        refine wp_region_N [(0, 1), (1, 1), (2, 1)] (by kernel_rfl) ?_
        refine wpS_this [0, 1, 2] rfl (by kernel_rfl) (by simp only [pickL, nthL, List.cons_append, List.nil_append]; rfl) ?_
        repeat (go_big_quiet_step (fail))
        refine wpQuiet_nil ?_
        refine wpS_nil ?_
        refine then_normal ?_
        refine wp_block ?_
        refine wp_loop_F [6, 14, 122, 123, 124, 125, 126, 127, 128, 129, 130, 131, 132, 133] (fun n us W' => ∃ j : Nat, n = B.length - j ∧ us 122 = .int .i64 (j : Int) ∧ j ≤ B.length ∧ Mem (rowT elemCl (.slice up B.length uc) B :: oldT W0 :: LP bk.d s2 bk.pv bk.pq bk.po bk.pc) H w W') (n0 := B.length) ?_ ?_
        · exact ⟨0, rfl, rfl, Nat.zero_le _, (Mem.only (M := [_, _, _, _, _, _, _]) HM176.out [0, 0, 0, 0, 0, 0, 0] rfl)⟩
        rintro n us W' ⟨j, rfl, e122, hj, hm⟩
        simp only [putAll, List.map_cons, List.map_nil, Act.put, List.setIfInBounds_toArray, List.set_cons_succ, List.set_cons_zero]
        rw [e122]
        clear e122
        have HM177 := Lib.hid hm
        clear hm
        refine wp_seq ?_
        refine wp_region_N [(0, 1)] (by kernel_rfl) ?_
        refine wpS_this [0] rfl (by kernel_rfl) (by simp only [pickL, nthL, List.cons_append, List.nil_append]; rfl) ?_
        repeat (go_big_quiet_step (fail))
        refine wpQuiet_nil ?_
        refine wpS_nil ?_
        refine then_normal ?_
        refine wp_seq ?_
        refine wp_cond_split rfl (fun h178 => ?_) (fun h178 => ?_)
        · have hj1 : j + 1 ≤ B.length := by have : (j : Int) < (B.length : Int) := (by simpa using h178); omega
          clear h178
          obtain ⟨x, hx⟩ : ∃ x, B[j]? = some x := ⟨_, List.getElem?_eq_getElem hj1⟩
          obtain ⟨xi, xh, hxo, hxc⟩ := ris_said hvo.out hU (by rw [hBv.out]; exact List.mem_of_getElem? hx)
          have hxo := Lib.hid hxo
          refine wp_skip ?_
          refine then_normal ?_
          refine wp_seq ?_
          refine wp_block ?_
          refine wp_seq ?_
          refine wp_region_N [(0, 1), (1, 1), (2, 3), (3, 3)] (by kernel_rfl) ?_
          refine wpS_index (E := elemCl) (i := 0) (d := some 124) rfl (by rfl) rfl rfl rfl (rowAt_src (HM177.out.src 0 rfl rowT_reads)) (hx) rfl ?_
          intro eb179 eo180 hc181
          simp only [Act.put, List.setIfInBounds_toArray, List.set_cons_succ, List.set_cons_zero]
          refine wpS_loadA (i := 1) (d := some 125) (cells := [.int .i64 x.n, .int .i64 x.i, .int .i64 x.h]) rfl (by rfl) rfl rfl hc181 Try.underlying23 rfl (by kernel_rfl) rfl ?_
          simp only [Act.put, List.setIfInBounds_toArray, List.set_cons_succ, List.set_cons_zero]
          refine wpS_alloc (i := 2) (dd := 14) (z := .agg #[.int .i64 0, .int .i64 0, .int .i64 0]) (cs := #[.int .i64 0, .int .i64 0, .int .i64 0]) rfl (by rfl) rfl (by kernel_rfl) rfl HM177.out covS_nil rfl ?_
          rintro b184 W183 hm182 -
          have HM185 := Lib.hid hm182
          clear hm182
          simp only [Act.put, List.setIfInBounds_toArray, List.set_cons_succ, List.set_cons_zero]
          refine wpS_storeA (i := 3) (L2 := [_, _, _, _, _, _, _]) (cs' := [_, _, _]) rfl (by rfl) rfl rfl rfl (by kernel_rfl) (by rfl) HM185.out 0 rfl rfl rfl rfl covS_nil rfl ?_
          rintro W187 hm186 -
          have HM188 := Lib.hid hm186
          clear hm186
          refine wpS_nil ?_
          refine then_normal ?_
          refine wp_seq ?_
          refine wp_region_M (fun k => k ∈ ([b184] : List Nat)) [(0, 1), (1, 1), (2, 1), (4, 2), (3, 3), (5, 3), (6, 1)] (by kernel_rfl) (by kernel_rfl) HM188.out ?_
          intro W189 hm190
          have HM191 := Lib.hid hm190
          clear hm190
          have Cb14 := Mem.cell HM191.out 0 rfl
          refine wpS_this [0, 1, 2] rfl (by kernel_rfl) (by simp only [pickL, nthL, List.cons_append, List.nil_append]; rfl) ?_
          repeat (go_big_quiet_step (fail))
          refine wpQuiet_nil ?_
          clear Cb14
          have Cb14 := Mem.cell HM191.out 0 rfl
          refine wpS_stay [4] rfl (by kernel_rfl) (by simp only [pickL, nthL, List.cons_append, List.nil_append]; rfl) ?_
          repeat (go_big_quiet_step (fail))
          refine wpQuiet_nil ?_
          clear Cb14
          refine wpS_does2 (i := 3) (d := some 129) (rem := [_, _, _, _, _, _]) (out := [_, _, _, _, _, _, _, _]) rfl (by rfl) rfl Try.call13 (of_d bk.d s2 bk.pv bk.pq bk.po bk.pc x.n) rfl rfl HM191.out [3, 3] rfl (covS_box 0 rfl covS_nil) rfl rfl ?_
          rintro W193 hm192 hg194
          rw [hxo.out]
          simp only [cl3]
          have HM195 := Lib.hid hm192
          clear hm192
          simp only [Act.put, List.setIfInBounds_toArray, List.set_cons_succ, List.set_cons_zero]
          refine wpS_does2 (i := 5) (d := some 131) (rem := [_, _, _, _, _, _, _, _]) (out := [_, _, _, _, _, _, _, _]) rfl (by rfl) rfl Try.call23 (compare_d x.n xi xh x.n x.i x.h) rfl rfl HM195.out [] rfl (covS_box 2 rfl covS_nil) rfl rfl ?_
          rintro W197 hm196 hg198
          have HM199 := Lib.hid hm196
          clear hm196
          simp only [Act.put, List.setIfInBounds_toArray, List.set_cons_succ, List.set_cons_zero]
          refine wpS_this [6] rfl (by kernel_rfl) (by simp only [pickL, nthL, List.cons_append, List.nil_append]; rfl) ?_
          repeat (go_big_quiet_step (fail))
          refine wpQuiet_nil ?_
          refine wpS_nil ?_
          refine then_normal ?_
          refine wp_cond_false rfl ?_
          refine wp_skip ?_
          refine block_normal ?_
          refine then_normal ?_
          refine wp_region_N [(0, 1), (1, 1)] (by kernel_rfl) ?_
          refine wpS_this [0, 1] rfl (by kernel_rfl) (by simp only [pickL, nthL, List.cons_append, List.nil_append]; rfl) ?_
          repeat (go_big_quiet_step (fail))
          refine wpQuiet_nil ?_
          refine wpS_nil ?_
          refine then_normal ?_
          refine ⟨by kernel_rfl, ?_⟩
          exact ⟨B.length - (j + 1), by omega, j + 1, rfl, rfl, hj1, (Mem.only (M := [_, _, _, _, _, _, _]) HM199.out [3, 3, 0, 0, 1, 1, 1] rfl)⟩
        · clear h178
          refine wp_exit ?_
          refine then_exit (then_exit (block_exit ?_))
          refine then_normal ?_
          refine wp_seq ?_
          cases hl2 : s2.left
          · have hgi := Lib.hid (ris_own hR hl2)
            refine wp_region_N [(0, 1), (1, 1), (2, 3), (3, 3), (4, 3)] (by kernel_rfl) ?_
            refine wpS_this [0, 1] rfl (by kernel_rfl) (by simp only [pickL, nthL, List.cons_append, List.nil_append]; rfl) ?_
            repeat (go_big_quiet_step (fail))
            refine wpQuiet_nil ?_
            refine wpS_does2 (i := 2) (d := some 136) (rem := [_, _, _, _, _]) (out := [_, _, _, _, _, _, _]) rfl (by rfl) rfl Try.call13 (of_d bk.d s2 bk.pv bk.pq bk.po bk.pc me) rfl rfl HM177.out [2, 2] rfl covS_nil rfl rfl ?_
            rintro W201 hm200 -
            rw [hgi.out]
            simp only [cl3]
            have HM202 := Lib.hid hm200
            clear hm200
            simp only [Act.put, List.setIfInBounds_toArray, List.set_cons_succ, List.set_cons_zero]
            refine wpS_alloc (i := 3) (dd := 15) (z := .agg #[.int .i64 0, .int .i64 0, .int .i64 0]) (cs := #[.int .i64 0, .int .i64 0, .int .i64 0]) rfl (by rfl) rfl (by kernel_rfl) rfl HM202.out covS_nil rfl ?_
            rintro b205 W204 hm203 -
            have HM206 := Lib.hid hm203
            clear hm203
            simp only [Act.put, List.setIfInBounds_toArray, List.set_cons_succ, List.set_cons_zero]
            refine wpS_storeA (i := 4) (L2 := [_, _, _, _, _, _, _]) (cs' := [_, _, _]) rfl (by rfl) rfl rfl rfl (by kernel_rfl) (by rfl) HM206.out 0 rfl rfl rfl rfl covS_nil rfl ?_
            rintro W208 hm207 -
            have HM209 := Lib.hid hm207
            clear hm207
            refine wpS_nil ?_
            refine then_normal ?_
            refine wp_seq ?_
            have gin : decide (s2.inc < s.inc) = false := decide_eq_false (by have := hU.inc; omega)
            refine wp_region_M (fun k => k ∈ ([b205] : List Nat)) [(0, 1), (2, 0), (1, 3), (3, 1), (4, 1), (5, 1), (6, 1), (7, 1), (8, 1), (9, 1), (10, 1), (11, 1), (12, 0), (13, 2), (14, 1), (15, 3), (16, 1), (17, 1), (18, 1), (19, 1), (20, 1), (21, 1), (22, 1), (23, 1), (24, 1), (25, 1), (26, 1), (27, 1)] (by kernel_rfl) (by kernel_rfl) HM209.out ?_
            intro W210 hm211
            have HM212 := Lib.hid hm211
            clear hm211
            refine wpS_this [0] rfl (by kernel_rfl) (by simp only [pickL, nthL, List.cons_append, List.nil_append]; rfl) ?_
            repeat (go_big_quiet_step (fail))
            refine wpQuiet_nil ?_
            refine wpS_all [2] rfl (by kernel_rfl) (by simp only [pickL, nthL, List.cons_append, List.nil_append]; rfl) ?_
            repeat (go_big_quiet_step (fail))
            refine wpQuiet_nil ?_
            refine wpS_does1 (i := 1) (d := some 138) (rem := [_, _, _, _, _, _, _]) (out := [_, _, _, _, _, _, _, _]) rfl (by rfl) rfl Try.call15 (inc_d bk.d s2 bk.pv bk.pq bk.po bk.pc) rfl HM212.out [1] rfl (covS_box 0 rfl covS_nil) rfl rfl ?_
            rintro W214 hm213 hg215
            have HM216 := Lib.hid hm213
            clear hm213
            simp only [Act.put, List.setIfInBounds_toArray, List.set_cons_succ, List.set_cons_zero]
            have Cb15 := Mem.cell HM216.out 1 rfl
            refine wpS_this [3, 4, 5, 6, 7, 8, 9, 10, 11] rfl (by kernel_rfl) (by simp only [pickL, nthL, List.cons_append, List.nil_append]; rfl) ?_
            repeat (go_big_quiet_step (fail))
            refine wpQuiet_nil ?_
            clear Cb15
            refine wpS_all [12] rfl (by kernel_rfl) (by simp only [pickL, nthL, List.cons_append, List.nil_append]; rfl) ?_
            repeat (go_big_quiet_step (fail))
            refine wpQuiet_nil ?_
            have Cb15 := Mem.cell HM216.out 1 rfl
            refine wpS_stay [13] rfl (by kernel_rfl) (by simp only [pickL, nthL, List.cons_append, List.nil_append]; rfl) ?_
            repeat (go_big_quiet_step (fail))
            refine wpQuiet_nil ?_
            clear Cb15
            refine wpS_this [14] rfl (by kernel_rfl) (by simp only [pickL, nthL, List.cons_append, List.nil_append]; rfl) ?_
            repeat (go_big_quiet_step (fail))
            refine wpQuiet_nil ?_
            refine wpS_does1 (i := 15) (d := some 152) (rem := [_, _, _, _, _, _, _]) (out := [_, _, _, _, _, _, _, _]) rfl (by rfl) rfl Try.call15 (inc_d bk.d s2 bk.pv bk.pq bk.po bk.pc) rfl HM216.out [0] rfl (covS_box 0 rfl covS_nil) rfl rfl ?_
            rintro W218 hm217 hg219
            have HM220 := Lib.hid hm217
            clear hm217
            simp only [Act.put, List.setIfInBounds_toArray, List.set_cons_succ, List.set_cons_zero]
            have Cb15 := Mem.cell HM220.out 1 rfl
            refine wpS_this [16, 17, 18, 19, 20, 21, 22, 23, 24, 25, 26, 27] rfl (by kernel_rfl) (by simp only [pickL, nthL, List.cons_append, List.nil_append]; rfl) ?_
            repeat (go_big_quiet_step (fail))
            refine wpQuiet_nil ?_
            clear Cb15
            refine wpS_nil ?_
            refine then_normal ?_
            refine wp_cond_false rfl ?_
            refine wp_skip ?_
            refine block_normal ?_
            refine then_normal ?_
            refine wp_region_N [(0, 1), (1, 1)] (by kernel_rfl) ?_
            refine wpS_this [0, 1] rfl (by kernel_rfl) (by simp only [pickL, nthL, List.cons_append, List.nil_append]; rfl) ?_
            repeat (go_big_quiet_step (fail))
            refine wpQuiet_nil ?_
            refine wpS_nil ?_
            refine then_normal ?_
            refine ⟨by kernel_rfl, ?_⟩
            exact ⟨cs.length - (k + 1), by omega, k + 1, s2, rfl, rfl, congrArg Value.bool hl2.symm, hk1, hR, (Mem.only (M := [_, _, _, _, _, _]) HM220.out [4, 0, 1, 2, 2, 2] rfl)⟩
          · obtain ⟨gi, hgi⟩ := ris_gone hR hl2
            have hgi := Lib.hid hgi
            refine wp_region_N [(0, 1), (1, 1), (2, 3), (3, 3), (4, 3)] (by kernel_rfl) ?_
            refine wpS_this [0, 1] rfl (by kernel_rfl) (by simp only [pickL, nthL, List.cons_append, List.nil_append]; rfl) ?_
            repeat (go_big_quiet_step (fail))
            refine wpQuiet_nil ?_
            refine wpS_does2 (i := 2) (d := some 136) (rem := [_, _, _, _, _]) (out := [_, _, _, _, _, _, _]) rfl (by rfl) rfl Try.call13 (of_d bk.d s2 bk.pv bk.pq bk.po bk.pc me) rfl rfl HM177.out [2, 2] rfl covS_nil rfl rfl ?_
            rintro W222 hm221 -
            rw [hgi.out]
            simp only [cl3]
            have HM223 := Lib.hid hm221
            clear hm221
            simp only [Act.put, List.setIfInBounds_toArray, List.set_cons_succ, List.set_cons_zero]
            refine wpS_alloc (i := 3) (dd := 15) (z := .agg #[.int .i64 0, .int .i64 0, .int .i64 0]) (cs := #[.int .i64 0, .int .i64 0, .int .i64 0]) rfl (by rfl) rfl (by kernel_rfl) rfl HM223.out covS_nil rfl ?_
            rintro b226 W225 hm224 -
            have HM227 := Lib.hid hm224
            clear hm224
            simp only [Act.put, List.setIfInBounds_toArray, List.set_cons_succ, List.set_cons_zero]
            refine wpS_storeA (i := 4) (L2 := [_, _, _, _, _, _, _]) (cs' := [_, _, _]) rfl (by rfl) rfl rfl rfl (by kernel_rfl) (by rfl) HM227.out 0 rfl rfl rfl rfl covS_nil rfl ?_
            rintro W229 hm228 -
            have HM230 := Lib.hid hm228
            clear hm228
            refine wpS_nil ?_
            refine then_normal ?_
            refine wp_seq ?_
            have gin : decide (s2.inc < s.inc) = false := decide_eq_false (by have := hU.inc; omega)
            refine wp_region_M (fun k => k ∈ ([b226] : List Nat)) [(0, 1), (2, 0), (1, 3), (3, 1), (4, 1), (5, 1), (6, 1), (7, 1), (8, 1), (9, 1), (10, 1), (11, 1), (12, 0), (13, 2), (14, 1), (15, 3), (16, 1), (17, 1), (18, 1), (19, 1), (20, 1), (21, 1), (22, 1), (23, 1), (24, 1), (25, 1), (26, 1), (27, 1)] (by kernel_rfl) (by kernel_rfl) HM230.out ?_
            intro W231 hm232
            have HM233 := Lib.hid hm232
            clear hm232
            refine wpS_this [0] rfl (by kernel_rfl) (by simp only [pickL, nthL, List.cons_append, List.nil_append]; rfl) ?_
            repeat (go_big_quiet_step (fail))
            refine wpQuiet_nil ?_
            refine wpS_all [2] rfl (by kernel_rfl) (by simp only [pickL, nthL, List.cons_append, List.nil_append]; rfl) ?_
            repeat (go_big_quiet_step (fail))
            refine wpQuiet_nil ?_
            refine wpS_does1 (i := 1) (d := some 138) (rem := [_, _, _, _, _, _, _]) (out := [_, _, _, _, _, _, _, _]) rfl (by rfl) rfl Try.call15 (inc_d bk.d s2 bk.pv bk.pq bk.po bk.pc) rfl HM233.out [1] rfl (covS_box 0 rfl covS_nil) rfl rfl ?_
            rintro W235 hm234 hg236
            have HM237 := Lib.hid hm234
            clear hm234
            simp only [Act.put, List.setIfInBounds_toArray, List.set_cons_succ, List.set_cons_zero]
            have Cb15 := Mem.cell HM237.out 1 rfl
            refine wpS_this [3, 4, 5, 6, 7, 8, 9, 10, 11] rfl (by kernel_rfl) (by simp only [pickL, nthL, List.cons_append, List.nil_append]; rfl) ?_
            repeat (go_big_quiet_step (fail))
            refine wpQuiet_nil ?_
            clear Cb15
            refine wpS_all [12] rfl (by kernel_rfl) (by simp only [pickL, nthL, List.cons_append, List.nil_append]; rfl) ?_
            repeat (go_big_quiet_step (fail))
            refine wpQuiet_nil ?_
            have Cb15 := Mem.cell HM237.out 1 rfl
            refine wpS_stay [13] rfl (by kernel_rfl) (by simp only [pickL, nthL, List.cons_append, List.nil_append]; rfl) ?_
            repeat (go_big_quiet_step (fail))
            refine wpQuiet_nil ?_
            clear Cb15
            refine wpS_this [14] rfl (by kernel_rfl) (by simp only [pickL, nthL, List.cons_append, List.nil_append]; rfl) ?_
            repeat (go_big_quiet_step (fail))
            refine wpQuiet_nil ?_
            refine wpS_skip (i := 15) (d := some 152) rfl (by rfl) rfl ?_
            simp only [Act.put, List.setIfInBounds_toArray, List.set_cons_succ, List.set_cons_zero]
            have Cb15 := Mem.cell HM237.out 1 rfl
            refine wpS_this [16, 17, 18, 19, 20, 21, 22, 23, 24, 25, 26, 27] rfl (by kernel_rfl) (by simp only [pickL, nthL, List.cons_append, List.nil_append]; rfl) ?_
            repeat (go_big_quiet_step (fail))
            refine wpQuiet_nil ?_
            clear Cb15
            refine wpS_nil ?_
            refine then_normal ?_
            refine wp_cond_false rfl ?_
            refine wp_skip ?_
            refine block_normal ?_
            refine then_normal ?_
            refine wp_region_N [(0, 1), (1, 1)] (by kernel_rfl) ?_
            refine wpS_this [0, 1] rfl (by kernel_rfl) (by simp only [pickL, nthL, List.cons_append, List.nil_append]; rfl) ?_
            repeat (go_big_quiet_step (fail))
            refine wpQuiet_nil ?_
            refine wpS_nil ?_
            refine then_normal ?_
            refine ⟨by kernel_rfl, ?_⟩
            exact ⟨cs.length - (k + 1), by omega, k + 1, s2, rfl, rfl, congrArg Value.bool hl2.symm, hk1, hR, (Mem.only (M := [_, _, _, _, _, _]) HM237.out [4, 0, 1, 2, 2, 2] rfl)⟩
    · clear h45
      refine wp_exit ?_
      refine then_exit (then_exit (block_exit ?_))
      refine then_normal ?_
      refine wp_seq ?_
      refine wp_region_N [(0, 3), (1, 1)] (by kernel_rfl) ?_
      refine wpS_does0 (i := 0) (d := some 166) (rem := [_, _, _, _, _, _]) (out := [_, _, _, _, _, _]) rfl (by rfl) rfl Try.call18 (awake_d)  HM44.out [] rfl covS_nil rfl rfl ?_
      rintro W239 hm238 -
      have HM240 := Lib.hid hm238
      clear hm238
      simp only [Act.put, List.setIfInBounds_toArray, List.set_cons_succ, List.set_cons_zero]
      refine wpS_this [1] rfl (by kernel_rfl) (by simp only [pickL, nthL, List.cons_append, List.nil_append]; rfl) ?_
      repeat (go_big_quiet_step (fail))
      refine wpQuiet_nil ?_
      refine wpS_nil ?_
      refine then_normal ?_
      refine wp_ret ?_
      refine bodyPost_ret (results_tmp rfl _ _ _) rfl ?_
      exact does_ret (Mem.only (M := [_]) HM240.out [0] rfl) rfl rfl

theorem risesLaw (me inc : Int) (v : Value) (cs : List CallV) (W : World) (hv : RowAt elemCall W v cs) (hq : ∀ y ∈ cs, CallQ W y) : Gives Try.prog 4 #[.int .i64 me, .int .i64 inc, v] W (.bool true) := (rises_d me inc W v cs hv hq).givesOld
end Go.Proofs.Ytjbihgfdgaiecaa

namespace Go.Proofs.Ytjbihgfdgaiecaa.lawRises
open Go Go.ChangeShapes Go.WideShapes Go.ChangeAt Go.RowKit Go.Joins

set_option maxRecDepth 100000 in
theorem contract (H : Type) (enc : TypeId × Value → H) (W : World) (base : Nat) (args : Array Value) (ds gs : List (DataW H)) (before : List MemPlace)
    (hval : ∀ (j : Nat) t v, Try.f4.params[j]? = some t → args[j]? = some v → Value.okWide Try.prog W .any base t v)
    (hW : DataW.Whole enc Try.prog Try.f4.params.toList Rows.swimRisesSpec.vars false W args.toList ds gs before)
    (hsz : (DataW.weightsEach Try.prog (Try.f4.params.toList ++ (OpenSpec.ofChange Rows.swimRisesSpec).bare.plain.varTypes Try.prog) (ds ++ gs)).all (· ≤ reachBytes) = true) :
    Calls Try.prog 4 args W fun e W' => ∃ v, e = .returned v ∧ Rows.swimRisesSpec.post enc Try.prog Try.f4 false true false false W args v W' := by
  have hW' := hW
  obtain ⟨p, q, hA0, hV, rfl, hfz, hnd⟩ := hW
  have hA : DataW.TrodAll enc Try.prog W 0 (fun _ => true) true Try.f4.params.toList args.toList ds p := hA0
  have hA' := hA
  rw [Try.params4] at hA hval
  obtain ⟨v0, vs0, d0, ds0, p0, q0, e0, rfl, rfl, g0, r0⟩ := trodAll_cons hA
  obtain ⟨v1, vs1, d1, ds1, p1, q1, e1, rfl, rfl, g1, r1⟩ := trodAll_cons r0
  obtain ⟨v2, vs2, d2, ds2, p2, q2, e2, rfl, rfl, g2, r2⟩ := trodAll_cons r1
  obtain ⟨e3, rfl, rfl⟩ := trodAll_nil r2
  obtain rfl : args = #[v0, v1, v2] := by
    apply Array.toList_inj.1
    rw [e0, e1, e2, e3]
  obtain ⟨rfl, rfl⟩ := trodVars_none hV
  obtain ⟨n0, rfl, _, _, _⟩ := open_int Try.underlying3 (hval 0 _ v0 rfl rfl) g0
  obtain ⟨n1, rfl, _, _, _⟩ := open_int Try.underlying3 (hval 1 _ v1 rfl rfl) g1
  obtain ⟨l2, hl2, hq2, hd2⟩ := open_srcQ readCallQ (hval 2 _ v2 rfl rfl) g2
  have hm2 := reach_srcE readCall (j := 2) hsz (by kernel_rfl) rfl hd2
  have hlt := fun (x : MemPlace) hx => hW'.lt x hx
  simp only [List.append_nil] at hW' hlt hA'
  refine Calls.mono (risesLaw n0 n1 v2 l2 W hl2.1 hq2) fun e W' ⟨he, x, hx⟩ => ?_
  subst he
  subst hx
  exact ⟨_, rfl, post_law (pv := []) hW' x.below (trodAll_cons_mk (shut_bool Try.underlying4 _) trodAll_mk0) (below_trodAll laidOut x.below (by kernel_rfl) hA' hlt) rfl (by simp only [List.append_nil])⟩

theorem reads (os : Os) {H : Type} (enc : TypeId × Value → H) : ∃ places, DataW.whole enc Try.prog ((World.laidAll Try.prog os Rows.swimRisesRow.laid).forCall (fun _ _ => 0) ⟨#[], #[.int .i64 0, .int .i64 0, .slice none 0 0], []⟩).memory Try.f4.params.toList Rows.swimRisesSpec.vars false (#[.int .i64 0, .int .i64 0, .slice none 0 0] : Array Value).toList 8 = some ([.lit (.int .i64 0), .lit (.int .i64 0), .nil], [], places) :=
  ⟨[], by kernel_rfl⟩

set_option maxRecDepth 100000 in
theorem lifted (os : Os) (started : os.Started) (H : Type) (enc : TypeId × Value → H) (F : Stop.Interp) :
    ReturnsInHanded {} Try.checked os 4 .any ((OpenSpec.ofChange Rows.swimRisesSpec).preRow enc Try.prog Try.f4 Rows.swimRisesRow.domain false Rows.swimRisesRow.laid) (((OpenSpec.ofChange Rows.swimRisesSpec).at F).post enc Try.prog Try.f4 false true false false) := by
  obtain ⟨places, hx⟩ := reads os enc
  refine returnsInHanded_of_row (C := Try.checked) (s := OpenSpec.ofChange Rows.swimRisesSpec) own started (by kernel_rfl) Try.func4
    (witness_row_at (enc := enc) (C := Try.checked) false (World.laidAll Try.prog os Rows.swimRisesRow.laid) #[.int .i64 0, .int .i64 0, .slice none 0 0] (World.laidAll_os _ _ _) (by kernel_rfl) (by kernel_rfl) (by kernel_rfl)
      (OpenSpec.preRow_of_cond 8 hx (by kernel_rfl) (fun k hk => by cases hk) (by kernel_rfl) (laidMet_laidAll _ (by kernel_rfl) (by kernel_rfl)))) ?_
  intro W base args ds gs before hval hW _ _ hsz _ _ _
  exact contract H enc W base args ds gs before hval hW hsz

theorem said : Rows.SwimRisesSaid :=
  OpenClaim.holds_of_cond 4 Try.f4 rfl rfl rfl rfl rfl rfl rfl ⟨rfl, rfl, rfl, rfl, rfl⟩ rfl rfl rfl rfl rfl (by kernel_rfl) Try.func4 (by kernel_rfl)
    (of_decide_eq_true (by kernel_rfl)) (by unfold Func.isWrapper; first | (rw [if_pos (by decide +kernel)]; kernel_rfl) | (rw [if_neg (by decide +kernel)]; exact ⟨rfl, rfl⟩))
    (fun os started H enc _ F => by rw [OpenClaim.pre_eq_preRow]; exact lifted os started H enc F)
end Go.Proofs.Ytjbihgfdgaiecaa.lawRises
