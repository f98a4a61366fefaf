/- The laws' light. -/
import Derived.Test.YtnkchmafofpimaaGsC
namespace Go.Proofs.Ytnkchmafofpimaa
open Go Go.RowKit Go.BigFrame

def goodG (c : CallG) : Bool := decide (c.n ≤ 100) && decide (c.pn ≤ 20)
def litB (l : List CallG) : Bool := decide (l.length ≤ 60) && l.all goodG
def litK (l : List CallG) (k : Nat) : Prop := k ≤ 60 ∧ ∀ c ∈ l.take k, goodG c = true
theorem lit_zero (l : List CallG) : litK l 0 := ⟨Nat.zero_le _, fun c h => by simp at h⟩
theorem lit_next {l : List CallG} {k : Nat} {y : CallG} (h : litK l k) (hy : l[k]? = some y) (hk : ¬ 60 ≤ k) (hg : goodG y = true) : litK l (k + 1) := by
  refine ⟨by omega, fun c hc => ?_⟩
  have hlt := (List.getElem?_eq_some_iff.1 hy).1
  have he := (List.getElem?_eq_some_iff.1 hy).2
  rw [List.take_succ_eq_append_getElem hlt, he, List.mem_append, List.mem_singleton] at hc
  rcases hc with hc | rfl
  · exact h.2 c hc
  · exact hg
theorem lit_end {l : List CallG} {k : Nat} (h : litK l k) (hk : l.length ≤ k) : litB l = true := by
  have h2 := h.2
  rw [List.take_of_length_le hk] at h2
  unfold litB
  rw [Bool.and_eq_true]
  exact ⟨decide_eq_true (Nat.le_trans hk h.1), List.all_eq_true.2 h2⟩
theorem lit_long {l : List CallG} {k : Nat} (hk : 60 ≤ k) (h1 : k + 1 ≤ l.length) : litB l = false := by
  unfold litB
  rw [show decide (l.length ≤ 60) = false from decide_eq_false (by omega)]
  rfl
theorem lit_bad {l : List CallG} {k : Nat} {y : CallG} (hy : l[k]? = some y) (hg : goodG y = false) : litB l = false := by
  unfold litB
  rw [show l.all goodG = false from by
    rw [Bool.eq_false_iff]
    intro q
    rw [List.all_eq_true] at q
    have := q y (List.mem_of_getElem? hy)
    rw [hg] at this
    cases this]
  rw [Bool.and_false]
theorem lit_of {l : List CallG} (h : litB l = true) : l.length ≤ 60 ∧ ∀ c ∈ l, c.n ≤ 100 ∧ c.pn ≤ 20 := by
  unfold litB at h
  rw [Bool.and_eq_true, List.all_eq_true] at h
  refine ⟨of_decide_eq_true h.1, fun c hc => ?_⟩
  have := h.2 c hc
  unfold goodG at this
  rw [Bool.and_eq_true, decide_eq_true_iff, decide_eq_true_iff] at this
  exact this
set_option maxHeartbeats 4000000 in
set_option maxRecDepth 100000 in
theorem light_d (R : At) (v : Value) (l : List CallG) (hR : ∀ W H, R.p W H → RowAt elemG W v l) : Does Try.prog 8 #[v] [R] (.bool (litB l)) [R] := by
  intro w H hp
  have HM0 := Lib.hid (mem_refl hp)
  clear hp
  obtain ⟨p, cap, rfl, -⟩ := (HM0.out.row 0 rfl hR).form
  go_enter Try.func8, Try.ntmps8
  refine wp_seq ?_
  refine wp_region_N [(0, 1)] (by kernel_rfl) ?_
  refine wpS_this [0] rfl (by kernel_rfl) (by simp only [pickL, nthL, List.cons_append, List.nil_append]; rfl) ?_
  repeat (go_big_quiet_step (fail))
  refine wpQuiet_nil ?_
  refine wpS_nil ?_
  refine then_normal ?_
  refine wp_seq ?_
  refine wp_seq ?_
  refine wp_region_N [(0, 1), (1, 1), (2, 1)] (by kernel_rfl) ?_
  refine wpS_this [0, 1, 2] rfl (by kernel_rfl) (by simp only [pickL, nthL, List.cons_append, List.nil_append]; rfl) ?_
  repeat (go_big_quiet_step (fail))
  refine wpQuiet_nil ?_
  refine wpS_nil ?_
  refine then_normal ?_
  refine wp_block ?_
  refine wp_loop_F [2, 3, 4, 7, 8, 9, 10, 11, 12, 13, 14, 15, 16, 17, 18, 19, 20, 21, 22, 23, 24, 25, 26, 27] (fun n vs W' => ∃ k : Nat, n = l.length - k ∧ vs 7 = .int .i64 (k : Int) ∧ k ≤ l.length ∧ litK l k ∧ Mem [R] H w W') (n0 := l.length) ?_ ?_
  · exact ⟨0, rfl, rfl, Nat.zero_le _, lit_zero l, (Mem.only (M := [_]) HM0.out [0] rfl)⟩
  rintro n vs W' ⟨k, rfl, e7, hk, hf, hm⟩
  simp only [putAll, List.map_cons, List.map_nil, Act.put, List.setIfInBounds_toArray, List.set_cons_succ, List.set_cons_zero]
  rw [e7]
  clear e7
  have hf := Lib.hid hf
  have HM1 := Lib.hid hm
  clear hm
  refine wp_seq ?_
  refine wp_region_N [(0, 1)] (by kernel_rfl) ?_
  refine wpS_this [0] rfl (by kernel_rfl) (by simp only [pickL, nthL, List.cons_append, List.nil_append]; rfl) ?_
  repeat (go_big_quiet_step (fail))
  refine wpQuiet_nil ?_
  refine wpS_nil ?_
  refine then_normal ?_
  refine wp_seq ?_
  refine wp_cond_split rfl (fun h2 => ?_) (fun h2 => ?_)
  · have hk1 : k + 1 ≤ l.length := by have : (k : Int) < ((l.length : Nat) : Int) := (by simpa using h2); omega
    clear h2
    obtain ⟨y, hy'⟩ : ∃ y, l[k]? = some y := ⟨_, List.getElem?_eq_getElem (hk1)⟩
    have hy := Lib.hid hy'
    clear hy'
    refine wp_skip ?_
    refine then_normal ?_
    refine wp_seq ?_
    refine wp_block ?_
    refine wp_seq ?_
    refine wp_region_N [(0, 1), (1, 1), (2, 1), (3, 3), (4, 1), (5, 3)] (by kernel_rfl) ?_
    refine wpS_this [0] rfl (by kernel_rfl) (by simp only [pickL, nthL, List.cons_append, List.nil_append]; rfl) ?_
    repeat (go_big_quiet_step (fail))
    refine wpQuiet_nil ?_
    refine wpS_index (E := elemG) (i := 1) (d := some 10) rfl (by rfl) rfl rfl rfl (HM1.out.row 0 rfl hR) (hy.out) rfl ?_
    intro eb3 eo4 hc5
    simp only [Act.put, List.setIfInBounds_toArray, List.set_cons_succ, List.set_cons_zero]
    refine wpS_loadA (i := 2) (d := some 11) (cells := CallG.enc y) rfl (by rfl) rfl rfl hc5 Try.underlying40 rfl (by kernel_rfl) rfl ?_
    simp only [Act.put, List.setIfInBounds_toArray, List.set_cons_succ, List.set_cons_zero]
    refine wpS_alloc (i := 3) (dd := 4) (z := .agg (default : CallG).enc.toArray) (cs := (default : CallG).enc.toArray) rfl (by rfl) rfl (by kernel_rfl) rfl HM1.out covS_nil rfl ?_
    rintro b8 W7 hm6 -
    have HM9 := Lib.hid hm6
    clear hm6
    simp only [Act.put, List.setIfInBounds_toArray, List.set_cons_succ, List.set_cons_zero]
    refine wpS_this [4] rfl (by kernel_rfl) (by simp only [pickL, nthL, List.cons_append, List.nil_append]; rfl) ?_
    repeat (go_big_quiet_step (fail))
    refine wpQuiet_nil ?_
    refine wpS_storeA (i := 5) (L2 := [_]) (cs' := CallG.enc y) rfl (by rfl) rfl rfl rfl (by kernel_rfl) (show (CallG.enc y).all Value.oneCell' = true by kernel_rfl) HM9.out 0 rfl rfl (by kernel_rfl) (by kernel_rfl) covS_nil rfl ?_
    rintro W11 hm10 -
    have HM12 := Lib.hid hm10
    clear hm10
    refine wpS_nil ?_
    refine then_normal ?_
    refine wp_seq ?_
    rcases (show 60 ≤ k ∨ (¬ 60 ≤ k ∧ ¬ y.n ≤ 100) ∨ (¬ 60 ≤ k ∧ y.n ≤ 100 ∧ ¬ y.pn ≤ 20) ∨ (¬ 60 ≤ k ∧ y.n ≤ 100 ∧ y.pn ≤ 20) from by omega) with h1 | ⟨h1, h2⟩ | ⟨h1, h2, h3⟩ | ⟨h1, h2, h3⟩
    · have g6 : decide ((60 : Int) ≤ (k : Int)) = true := decide_eq_true (by omega)
      have hc : Hid (litB l = false) := Lib.hid (lit_long h1 hk1)
      replace h1 := Lib.hid h1
      refine wp_region_N [(0, 1), (1, 1), (2, 1), (3, 1), (4, 1), (5, 3), (6, 3), (7, 1), (8, 1), (9, 1), (10, 1), (11, 1), (12, 1), (13, 1), (14, 1)] (by kernel_rfl) ?_
      refine wpS_this [0, 1, 2, 3] rfl (by kernel_rfl) (by simp only [pickL, nthL, List.cons_append, List.nil_append]; rfl) ?_
      repeat (go_big_quiet_step (fail))
      refine wpQuiet_nil ?_
      refine wpS_skip (i := 4) (d := some 16) rfl (by rfl) rfl ?_
      simp only [Act.put, List.setIfInBounds_toArray, List.set_cons_succ, List.set_cons_zero]
      refine wpS_skip (i := 5) (d := some 17) rfl (by rfl) rfl ?_
      simp only [Act.put, List.setIfInBounds_toArray, List.set_cons_succ, List.set_cons_zero]
      refine wpS_skip (i := 6) (d := some 18) rfl (by rfl) rfl ?_
      simp only [Act.put, List.setIfInBounds_toArray, List.set_cons_succ, List.set_cons_zero]
      refine wpS_this [7, 8, 9, 10] rfl (by kernel_rfl) (by simp only [pickL, nthL, List.cons_append, List.nil_append]; rfl) ?_
      repeat (go_big_quiet_step (fail))
      refine wpQuiet_nil ?_
      refine wpS_skip (i := 11) (d := some 23) rfl (by rfl) rfl ?_
      simp only [Act.put, List.setIfInBounds_toArray, List.set_cons_succ, List.set_cons_zero]
      refine wpS_this [12, 13, 14] rfl (by kernel_rfl) (by simp only [pickL, nthL, List.cons_append, List.nil_append]; rfl) ?_
      repeat (go_big_quiet_step (fail))
      refine wpQuiet_nil ?_
      refine wpS_nil ?_
      refine then_normal ?_
      refine wp_cond_true rfl ?_
      refine wp_seq ?_
      refine wp_region_N [(0, 1)] (by kernel_rfl) ?_
      refine wpS_this [0] rfl (by kernel_rfl) (by simp only [pickL, nthL, List.cons_append, List.nil_append]; rfl) ?_
      repeat (go_big_quiet_step (fail))
      refine wpQuiet_nil ?_
      refine wpS_nil ?_
      refine then_normal ?_
      refine wp_ret ?_
      refine block_ret (then_ret (then_ret (block_ret (then_ret ?_))))
      refine bodyPost_ret (results_tmp rfl _ _ _) rfl ?_
      rw [hc.out]
      exact does_ret (Mem.only (M := [_]) HM12.out [1] rfl) rfl rfl
    · have g6 : decide ((60 : Int) ≤ (k : Int)) = false := decide_eq_false (by omega)
      have hk6 : Hid (¬ 60 ≤ k) := Lib.hid h1
      obtain ⟨m, hm'⟩ := int_letter (hvy 0 [(⟨y.r, y.p, y.n, y.c⟩ : Hc)])
      have gm : decide (0 < m) = true := decide_eq_true (by rcases hvy1 ⟨y.r, y.p, y.n, y.c⟩ with ⟨q, _⟩ | ⟨_, q⟩; exact absurd q h2; rw [← hm']; exact q)
      have hfw : Hid (hvy 0 [(⟨y.r, y.p, y.n, y.c⟩ : Hc)] = m) := Lib.hid hm'
      have hc : Hid (litB l = false) := Lib.hid (lit_bad hy.out (by unfold goodG; rw [decide_eq_false h2]; rfl))
      clear hm' h1 h2
      refine wp_region_N [(0, 1), (1, 1), (2, 1), (3, 1), (4, 1), (5, 3), (6, 3), (7, 1), (8, 1), (9, 1), (10, 1), (11, 1), (12, 1), (13, 1), (14, 1)] (by kernel_rfl) ?_
      refine wpS_this [0, 1, 2, 3] rfl (by kernel_rfl) (by simp only [pickL, nthL, List.cons_append, List.nil_append]; rfl) ?_
      repeat (go_big_quiet_step (fail))
      refine wpQuiet_nil ?_
      refine wpS_loadA (i := 4) (d := some 16) (cells := rgC y.r (.slice y.p y.n y.c)) rfl (by rfl) rfl rfl (HM12.out.sub 0 rfl (fun _ _ h => sub_app [_, _] _ [_, _] h)) Try.underlying37 rfl (by kernel_rfl) rfl ?_
      simp only [Act.put, List.setIfInBounds_toArray, List.set_cons_succ, List.set_cons_zero]
      refine wpS_buildN elemR (i := 5) (dd := 17) (n := 1) (xs := [⟨y.r, y.p, y.n, y.c⟩]) (cs := (rgC y.r (.slice y.p y.n y.c) ++ []).toArray) rfl (by rfl) (fun _ => by kernel_rfl) rfl rfl HM12.out covS_nil rfl ?_
      rintro b15 W16 hm17 -
      have HM18 := Lib.hid hm17
      clear hm17
      simp only [Act.put, List.setIfInBounds_toArray, List.set_cons_succ, List.set_cons_zero]
      refine wpS_does1 (i := 6) (d := some 18) (rem := [_, _]) (out := [_, _, _]) rfl (by rfl) rfl Try.call19 (heavy_d (rowT elemR _ _) _ _ rowOwnE (Nat.le_of_ble_eq_true rfl)) rfl HM18.out [0] rfl covS_nil rfl rfl ?_
      rintro W20 hm19 -
      rw [hfw.out]
      have HM21 := Lib.hid hm19
      clear hm19
      simp only [Act.put, List.setIfInBounds_toArray, List.set_cons_succ, List.set_cons_zero]
      refine wpS_this [7, 8, 9, 10] rfl (by kernel_rfl) (by simp only [pickL, nthL, List.cons_append, List.nil_append]; rfl) ?_
      repeat (go_big_quiet_step (fail))
      refine wpQuiet_nil ?_
      refine wpS_skip (i := 11) (d := some 23) rfl (by rfl) rfl ?_
      simp only [Act.put, List.setIfInBounds_toArray, List.set_cons_succ, List.set_cons_zero]
      refine wpS_this [12, 13, 14] rfl (by kernel_rfl) (by simp only [pickL, nthL, List.cons_append, List.nil_append]; rfl) ?_
      repeat (go_big_quiet_step (fail))
      refine wpQuiet_nil ?_
      refine wpS_nil ?_
      refine then_normal ?_
      refine wp_cond_true rfl ?_
      refine wp_seq ?_
      refine wp_region_N [(0, 1)] (by kernel_rfl) ?_
      refine wpS_this [0] rfl (by kernel_rfl) (by simp only [pickL, nthL, List.cons_append, List.nil_append]; rfl) ?_
      repeat (go_big_quiet_step (fail))
      refine wpQuiet_nil ?_
      refine wpS_nil ?_
      refine then_normal ?_
      refine wp_ret ?_
      refine block_ret (then_ret (then_ret (block_ret (then_ret ?_))))
      refine bodyPost_ret (results_tmp rfl _ _ _) rfl ?_
      rw [hc.out]
      exact does_ret (Mem.only (M := [_]) HM21.out [2] rfl) rfl rfl
    · have g6 : decide ((60 : Int) ≤ (k : Int)) = false := decide_eq_false (by omega)
      have hk6 : Hid (¬ 60 ≤ k) := Lib.hid h1
      obtain ⟨m, hm'⟩ := int_letter (hvy 0 [(⟨y.r, y.p, y.n, y.c⟩ : Hc)])
      have gm : decide (0 < m) = false := decide_eq_false (by rcases hvy1 ⟨y.r, y.p, y.n, y.c⟩ with ⟨_, q⟩ | ⟨q, _⟩; rw [← hm', q]; decide; exact absurd h2 q)
      have hfw : Hid (hvy 0 [(⟨y.r, y.p, y.n, y.c⟩ : Hc)] = m) := Lib.hid hm'
      have gp : decide (20 < y.pn) = true := decide_eq_true (by omega)
      have gp' : decide ((20 : Int) < (y.pn : Int)) = true := decide_eq_true (by omega)
      have hc : Hid (litB l = false) := Lib.hid (lit_bad hy.out (by unfold goodG; rw [decide_eq_false h3, Bool.and_false]))
      clear hm' h1 h2 h3
      refine wp_region_N [(0, 1), (1, 1), (2, 1), (3, 1), (4, 1), (5, 3), (6, 3), (7, 1), (8, 1), (9, 1), (10, 1), (11, 1), (12, 1), (13, 1), (14, 1)] (by kernel_rfl) ?_
      refine wpS_this [0, 1, 2, 3] rfl (by kernel_rfl) (by simp only [pickL, nthL, List.cons_append, List.nil_append]; rfl) ?_
      repeat (go_big_quiet_step (fail))
      refine wpQuiet_nil ?_
      refine wpS_loadA (i := 4) (d := some 16) (cells := rgC y.r (.slice y.p y.n y.c)) rfl (by rfl) rfl rfl (HM12.out.sub 0 rfl (fun _ _ h => sub_app [_, _] _ [_, _] h)) Try.underlying37 rfl (by kernel_rfl) rfl ?_
      simp only [Act.put, List.setIfInBounds_toArray, List.set_cons_succ, List.set_cons_zero]
      refine wpS_buildN elemR (i := 5) (dd := 17) (n := 1) (xs := [⟨y.r, y.p, y.n, y.c⟩]) (cs := (rgC y.r (.slice y.p y.n y.c) ++ []).toArray) rfl (by rfl) (fun _ => by kernel_rfl) rfl rfl HM12.out covS_nil rfl ?_
      rintro b24 W25 hm26 -
      have HM27 := Lib.hid hm26
      clear hm26
      simp only [Act.put, List.setIfInBounds_toArray, List.set_cons_succ, List.set_cons_zero]
      refine wpS_does1 (i := 6) (d := some 18) (rem := [_, _]) (out := [_, _, _]) rfl (by rfl) rfl Try.call19 (heavy_d (rowT elemR _ _) _ _ rowOwnE (Nat.le_of_ble_eq_true rfl)) rfl HM27.out [0] rfl covS_nil rfl rfl ?_
      rintro W29 hm28 -
      rw [hfw.out]
      have HM30 := Lib.hid hm28
      clear hm28
      simp only [Act.put, List.setIfInBounds_toArray, List.set_cons_succ, List.set_cons_zero]
      refine wpS_this [7, 8, 9, 10] rfl (by kernel_rfl) (by simp only [pickL, nthL, List.cons_append, List.nil_append]; rfl) ?_
      repeat (go_big_quiet_step (fail))
      refine wpQuiet_nil ?_
      refine wpS_load1 (i := 11) (d := some 23) (u := .slice y.pp y.pn y.pc) rfl (by rfl) rfl rfl (HM30.out.sub1 1 rfl rfl) Try.underlying30 rfl rfl ?_
      simp only [Act.put, List.setIfInBounds_toArray, List.set_cons_succ, List.set_cons_zero]
      refine wpS_this [12, 13, 14] rfl (by kernel_rfl) (by simp only [pickL, nthL, List.cons_append, List.nil_append]; rfl) ?_
      repeat (go_big_quiet_step (fail))
      refine wpQuiet_nil ?_
      refine wpS_nil ?_
      refine then_normal ?_
      refine wp_cond_true rfl ?_
      refine wp_seq ?_
      refine wp_region_N [(0, 1)] (by kernel_rfl) ?_
      refine wpS_this [0] rfl (by kernel_rfl) (by simp only [pickL, nthL, List.cons_append, List.nil_append]; rfl) ?_
      repeat (go_big_quiet_step (fail))
      refine wpQuiet_nil ?_
      refine wpS_nil ?_
      refine then_normal ?_
      refine wp_ret ?_
      refine block_ret (then_ret (then_ret (block_ret (then_ret ?_))))
      refine bodyPost_ret (results_tmp rfl _ _ _) rfl ?_
      rw [hc.out]
      exact does_ret (Mem.only (M := [_]) HM30.out [2] rfl) rfl rfl
    · have g6 : decide ((60 : Int) ≤ (k : Int)) = false := decide_eq_false (by omega)
      have hk6 : Hid (¬ 60 ≤ k) := Lib.hid h1
      obtain ⟨m, hm'⟩ := int_letter (hvy 0 [(⟨y.r, y.p, y.n, y.c⟩ : Hc)])
      have gm : decide (0 < m) = false := decide_eq_false (by rcases hvy1 ⟨y.r, y.p, y.n, y.c⟩ with ⟨_, q⟩ | ⟨q, _⟩; rw [← hm', q]; decide; exact absurd h2 q)
      have hfw : Hid (hvy 0 [(⟨y.r, y.p, y.n, y.c⟩ : Hc)] = m) := Lib.hid hm'
      have gp : decide (20 < y.pn) = false := decide_eq_false (by omega)
      have gp' : decide ((20 : Int) < (y.pn : Int)) = false := decide_eq_false (by omega)
      have hg : Hid (goodG y = true) := Lib.hid (by unfold goodG; rw [decide_eq_true h2, decide_eq_true h3]; rfl)
      have hk9 : k ≤ 60 := hf.out.1
      clear hm' h1 h2 h3
      refine wp_region_N [(0, 1), (1, 1), (2, 1), (3, 1), (4, 1), (5, 3), (6, 3), (7, 1), (8, 1), (9, 1), (10, 1), (11, 1), (12, 1), (13, 1), (14, 1)] (by kernel_rfl) ?_
      refine wpS_this [0, 1, 2, 3] rfl (by kernel_rfl) (by simp only [pickL, nthL, List.cons_append, List.nil_append]; rfl) ?_
      repeat (go_big_quiet_step (fail))
      refine wpQuiet_nil ?_
      refine wpS_loadA (i := 4) (d := some 16) (cells := rgC y.r (.slice y.p y.n y.c)) rfl (by rfl) rfl rfl (HM12.out.sub 0 rfl (fun _ _ h => sub_app [_, _] _ [_, _] h)) Try.underlying37 rfl (by kernel_rfl) rfl ?_
      simp only [Act.put, List.setIfInBounds_toArray, List.set_cons_succ, List.set_cons_zero]
      refine wpS_buildN elemR (i := 5) (dd := 17) (n := 1) (xs := [⟨y.r, y.p, y.n, y.c⟩]) (cs := (rgC y.r (.slice y.p y.n y.c) ++ []).toArray) rfl (by rfl) (fun _ => by kernel_rfl) rfl rfl HM12.out covS_nil rfl ?_
      rintro b33 W34 hm35 -
      have HM36 := Lib.hid hm35
      clear hm35
      simp only [Act.put, List.setIfInBounds_toArray, List.set_cons_succ, List.set_cons_zero]
      refine wpS_does1 (i := 6) (d := some 18) (rem := [_, _]) (out := [_, _, _]) rfl (by rfl) rfl Try.call19 (heavy_d (rowT elemR _ _) _ _ rowOwnE (Nat.le_of_ble_eq_true rfl)) rfl HM36.out [0] rfl covS_nil rfl rfl ?_
      rintro W38 hm37 -
      rw [hfw.out]
      have HM39 := Lib.hid hm37
      clear hm37
      simp only [Act.put, List.setIfInBounds_toArray, List.set_cons_succ, List.set_cons_zero]
      refine wpS_this [7, 8, 9, 10] rfl (by kernel_rfl) (by simp only [pickL, nthL, List.cons_append, List.nil_append]; rfl) ?_
      repeat (go_big_quiet_step (fail))
      refine wpQuiet_nil ?_
      refine wpS_load1 (i := 11) (d := some 23) (u := .slice y.pp y.pn y.pc) rfl (by rfl) rfl rfl (HM39.out.sub1 1 rfl rfl) Try.underlying30 rfl rfl ?_
      simp only [Act.put, List.setIfInBounds_toArray, List.set_cons_succ, List.set_cons_zero]
      refine wpS_this [12, 13, 14] rfl (by kernel_rfl) (by simp only [pickL, nthL, List.cons_append, List.nil_append]; rfl) ?_
      repeat (go_big_quiet_step (fail))
      refine wpQuiet_nil ?_
      refine wpS_nil ?_
      refine then_normal ?_
      refine wp_cond_false rfl ?_
      refine wp_skip ?_
      refine block_normal ?_
      refine then_normal ?_
      refine wp_region_N [(0, 1), (1, 1)] (by kernel_rfl) ?_
      refine wpS_this [0, 1] rfl (by kernel_rfl) (by simp only [pickL, nthL, List.cons_append, List.nil_append]; rfl) ?_
      repeat (go_big_quiet_step (fail))
      refine wpQuiet_nil ?_
      refine wpS_nil ?_
      refine then_normal ?_
      refine ⟨by kernel_rfl, ?_⟩
      refine ⟨l.length - (k + 1), by omega, k + 1, rfl, rfl, hk1, ?_, (Mem.only (M := [_]) HM39.out [2] rfl)⟩
      exact lit_next hf.out hy.out hk6.out hg.out
  · have hge : Hid (l.length ≤ k) := Lib.hid (by have : ¬ (k : Int) < ((l.length : Nat) : Int) := (by simpa using h2); omega)
    clear h2
    refine wp_exit ?_
    refine then_exit (then_exit (block_exit ?_))
    refine then_normal ?_
    refine wp_seq ?_
    refine wp_region_N [(0, 1)] (by kernel_rfl) ?_
    refine wpS_this [0] rfl (by kernel_rfl) (by simp only [pickL, nthL, List.cons_append, List.nil_append]; rfl) ?_
    repeat (go_big_quiet_step (fail))
    refine wpQuiet_nil ?_
    refine wpS_nil ?_
    refine then_normal ?_
    refine wp_ret ?_
    refine bodyPost_ret (results_tmp rfl _ _ _) rfl ?_
    rw [lit_end hf.out hge.out]
    exact does_ret (Mem.only (M := [_]) HM1.out [0] rfl) rfl rfl

end Go.Proofs.Ytnkchmafofpimaa
