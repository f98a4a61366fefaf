/- Ledgers: the laws' light, and rows that are the same. -/
import Derived.Test.YtnahhbpaijfpbaaLgC
import Derived.Test.YtnahhbpaijfpbaaLgH
import Derived.Test.YtnahhbpaijfpbaaLgS
namespace Go.Proofs.Ytnahhbpaijfpbaa
open Go Go.RowKit Go.BigFrame

def goodL (c : CallL) : Bool := !badX c.x
def litL (l : List CallL) : Bool := decide (l.length ≤ 80) && l.all goodL
def litK (l : List CallL) (k : Nat) : Prop := k ≤ 80 ∧ ∀ c ∈ l.take k, goodL c = true
theorem lit_zero (l : List CallL) : litK l 0 := ⟨Nat.zero_le _, fun c h => by simp at h⟩
theorem lit_next {l : List CallL} {k : Nat} {y : CallL} (h : litK l k) (hy : l[k]? = some y) (hk : ¬ 80 ≤ k) (hg : goodL y = true) : litK l (k + 1) := by
  refine ⟨by omega, fun c hc => ?_⟩
  have hlt := (List.getElem?_eq_some_iff.1 hy).1
  have he := (List.getElem?_eq_some_iff.1 hy).2
  rw [List.take_succ_eq_append_getElem hlt, he, List.mem_append, List.mem_singleton] at hc
  rcases hc with hc | rfl
  · exact h.2 c hc
  · exact hg
theorem lit_end {l : List CallL} {k : Nat} (h : litK l k) (hk : l.length ≤ k) : litL l = true := by
  have h2 := h.2
  rw [List.take_of_length_le hk] at h2
  unfold litL
  rw [Bool.and_eq_true]
  exact ⟨decide_eq_true (Nat.le_trans hk h.1), List.all_eq_true.2 h2⟩
theorem lit_long {l : List CallL} {k : Nat} (hk : 80 ≤ k) (h1 : k + 1 ≤ l.length) : litL l = false := by
  unfold litL
  rw [show decide (l.length ≤ 80) = false from decide_eq_false (by omega)]
  rfl
theorem lit_bad {l : List CallL} {k : Nat} {y : CallL} (hy : l[k]? = some y) (hg : goodL y = false) : litL l = false := by
  unfold litL
  rw [show l.all goodL = false from by
    rw [Bool.eq_false_iff]
    intro q
    rw [List.all_eq_true] at q
    have := q y (List.mem_of_getElem? hy)
    rw [hg] at this
    cases this]
  rw [Bool.and_false]
theorem lit_of {l : List CallL} (h : litL l = true) : l.length ≤ 80 ∧ ∀ c ∈ l, badX c.x = false := by
  unfold litL at h
  rw [Bool.and_eq_true, List.all_eq_true] at h
  refine ⟨of_decide_eq_true h.1, fun c hc => ?_⟩
  have := h.2 c hc
  unfold goodL at this
  simpa using this
theorem DxL.one {R A : At} {x : Dx} (h : DxL R x) : ∀ y ∈ [x], DxL (listT [A, R]) y := fun y hy => by
  rw [List.mem_singleton] at hy
  subst hy
  exact ⟨vL 1 rfl h.v, h.lv, vL 1 rfl h.r⟩
set_option maxHeartbeats 4000000 in
set_option maxRecDepth 100000 in
theorem light_d (R : At) (v : Value) (l : List CallL) (hR : ∀ W H, R.p W H → RowAt elemL W v l) (hl : ∀ y ∈ l, DxL R y.x) : Does Try.prog 8 #[v] [R] (.bool (litL l)) [R] := by
  intro w H hp
  have HM0 := Lib.hid (mem_refl hp)
  clear hp
  obtain ⟨p, cap, rfl, -⟩ := (HM0.out.row 0 rfl hR).form
  go_enter Try.func8, Try.ntmps8
  refine wp_seq ?_
  refine wp_region_N [(0, 1)] (by kernel_rfl) ?_
  refine wpS_this [0] rfl (by kernel_rfl) (by simp only [pickL, nthL, List.cons_append, List.nil_append]; rfl) ?_
  repeat (go_big_quiet_step (fail))
  refine wpQuiet_nil ?_
  refine wpS_nil ?_
  refine then_normal ?_
  refine wp_seq ?_
  refine wp_seq ?_
  refine wp_region_N [(0, 1), (1, 1), (2, 1)] (by kernel_rfl) ?_
  refine wpS_this [0, 1, 2] rfl (by kernel_rfl) (by simp only [pickL, nthL, List.cons_append, List.nil_append]; rfl) ?_
  repeat (go_big_quiet_step (fail))
  refine wpQuiet_nil ?_
  refine wpS_nil ?_
  refine then_normal ?_
  refine wp_block ?_
  refine wp_loop_F [2, 3, 4, 7, 8, 9, 10, 11, 12, 13, 14, 15, 16, 17, 18, 19, 20, 21] (fun n vs W' => ∃ k : Nat, n = l.length - k ∧ vs 7 = .int .i64 (k : Int) ∧ k ≤ l.length ∧ litK l k ∧ Mem [R] H w W') (n0 := l.length) ?_ ?_
  · exact ⟨0, rfl, rfl, Nat.zero_le _, lit_zero l, (Mem.only (M := [_]) HM0.out [0] rfl)⟩
  rintro n vs W' ⟨k, rfl, e7, hk, hf, hm⟩
  simp only [putAll, List.map_cons, List.map_nil, Act.put, List.setIfInBounds_toArray, List.set_cons_succ, List.set_cons_zero]
  rw [e7]
  clear e7
  have hf := Lib.hid hf
  have hk80 := hf.out.1
  have HM1 := Lib.hid hm
  clear hm
  refine wp_seq ?_
  refine wp_region_N [(0, 1)] (by kernel_rfl) ?_
  refine wpS_this [0] rfl (by kernel_rfl) (by simp only [pickL, nthL, List.cons_append, List.nil_append]; rfl) ?_
  repeat (go_big_quiet_step (fail))
  refine wpQuiet_nil ?_
  refine wpS_nil ?_
  refine then_normal ?_
  refine wp_seq ?_
  refine wp_cond_split rfl (fun h2 => ?_) (fun h2 => ?_)
  · have hk1 : k + 1 ≤ l.length := by have : (k : Int) < ((l.length : Nat) : Int) := (by simpa using h2); omega
    clear h2
    obtain ⟨y, hy'⟩ : ∃ y, l[k]? = some y := ⟨_, List.getElem?_eq_getElem (hk1)⟩
    have hy := Lib.hid hy'
    clear hy'
    have hyl := Lib.hid (hl y (List.mem_of_getElem? hy.out))
    refine wp_skip ?_
    refine then_normal ?_
    refine wp_seq ?_
    refine wp_block ?_
    refine wp_seq ?_
    refine wp_region_N [(0, 1), (1, 1), (2, 1), (3, 3), (4, 1), (5, 3)] (by kernel_rfl) ?_
    refine wpS_this [0] rfl (by kernel_rfl) (by simp only [pickL, nthL, List.cons_append, List.nil_append]; rfl) ?_
    repeat (go_big_quiet_step (fail))
    refine wpQuiet_nil ?_
    refine wpS_index (E := elemL) (i := 1) (d := some 10) rfl (by rfl) rfl rfl rfl (HM1.out.row 0 rfl hR) (hy.out) rfl ?_
    intro eb3 eo4 hc5
    simp only [Act.put, List.setIfInBounds_toArray, List.set_cons_succ, List.set_cons_zero]
    refine wpS_loadA (i := 2) (d := some 11) (cells := CallL.enc y) rfl (by rfl) rfl rfl hc5 Try.underlying45 rfl (by kernel_rfl) rfl ?_
    simp only [Act.put, List.setIfInBounds_toArray, List.set_cons_succ, List.set_cons_zero]
    refine wpS_alloc (i := 3) (dd := 4) (z := .agg (default : CallL).enc.toArray) (cs := (default : CallL).enc.toArray) rfl (by rfl) rfl (by kernel_rfl) rfl HM1.out covS_nil rfl ?_
    rintro b8 W7 hm6 -
    have HM9 := Lib.hid hm6
    clear hm6
    simp only [Act.put, List.setIfInBounds_toArray, List.set_cons_succ, List.set_cons_zero]
    refine wpS_this [4] rfl (by kernel_rfl) (by simp only [pickL, nthL, List.cons_append, List.nil_append]; rfl) ?_
    repeat (go_big_quiet_step (fail))
    refine wpQuiet_nil ?_
    refine wpS_storeA (i := 5) (L2 := [_]) (cs' := CallL.enc y) rfl (by rfl) rfl rfl rfl (by kernel_rfl) (show (CallL.enc y).all Value.oneCell' = true by kernel_rfl) HM9.out 0 rfl rfl (by kernel_rfl) (by kernel_rfl) covS_nil rfl ?_
    rintro W11 hm10 -
    have HM12 := Lib.hid hm10
    clear hm10
    refine wpS_nil ?_
    refine then_normal ?_
    refine wp_seq ?_
    rcases (show 80 ≤ k ∨ (¬ 80 ≤ k ∧ badX y.x = true) ∨ (¬ 80 ≤ k ∧ badX y.x = false) from by cases badX y.x <;> simp <;> omega) with h1 | ⟨h1, h2⟩ | ⟨h1, h2⟩
    · have g6 : decide ((80 : Int) ≤ (k : Int)) = true := decide_eq_true (by omega)
      have g6' : decide (80 ≤ k) = true := decide_eq_true h1
      have hc := Lib.hid (lit_long h1 hk1)
      replace h1 := Lib.hid h1
      refine wp_region_N [(0, 1), (1, 1), (2, 1), (3, 1), (4, 1), (5, 3), (6, 3), (7, 1), (8, 1)] (by kernel_rfl) ?_
      refine wpS_this [0, 1, 2, 3] rfl (by kernel_rfl) (by simp only [pickL, nthL, List.cons_append, List.nil_append]; rfl) ?_
      repeat (go_big_quiet_step (fail))
      refine wpQuiet_nil ?_
      refine wpS_skip (i := 4) (d := some 16) rfl (by rfl) rfl ?_
      simp only [Act.put, List.setIfInBounds_toArray, List.set_cons_succ, List.set_cons_zero]
      refine wpS_skip (i := 5) (d := some 17) rfl (by rfl) rfl ?_
      simp only [Act.put, List.setIfInBounds_toArray, List.set_cons_succ, List.set_cons_zero]
      refine wpS_skip (i := 6) (d := some 18) rfl (by rfl) rfl ?_
      simp only [Act.put, List.setIfInBounds_toArray, List.set_cons_succ, List.set_cons_zero]
      refine wpS_this [7, 8] rfl (by kernel_rfl) (by simp only [pickL, nthL, List.cons_append, List.nil_append]; rfl) ?_
      repeat (go_big_quiet_step (fail))
      refine wpQuiet_nil ?_
      refine wpS_nil ?_
      refine then_normal ?_
      refine wp_cond_true rfl ?_
      refine wp_seq ?_
      refine wp_region_N [(0, 1)] (by kernel_rfl) ?_
      refine wpS_this [0] rfl (by kernel_rfl) (by simp only [pickL, nthL, List.cons_append, List.nil_append]; rfl) ?_
      repeat (go_big_quiet_step (fail))
      refine wpQuiet_nil ?_
      refine wpS_nil ?_
      refine then_normal ?_
      refine wp_ret ?_
      refine block_ret (then_ret (then_ret (block_ret (then_ret ?_))))
      refine bodyPost_ret (results_tmp rfl _ _ _) rfl ?_
      rw [hc.out]
      exact does_ret (Mem.only (M := [_]) HM12.out [1] rfl) rfl rfl
    · have g6 : decide ((80 : Int) ≤ (k : Int)) = false := decide_eq_false (by omega)
      have g6' : decide (80 ≤ k) = false := decide_eq_false h1
      have hv : Hid (hvyX 0 [y.x] = 1) := Lib.hid (by rw [hvyX_one, if_pos h2])
      have hc := Lib.hid (lit_bad hy.out (show goodL y = false by unfold goodL; rw [h2]; rfl))
      replace h1 := Lib.hid h1
      replace h2 := Lib.hid h2
      refine wp_region_N [(0, 1), (1, 1), (2, 1), (3, 1), (4, 1), (5, 3), (6, 3), (7, 1), (8, 1)] (by kernel_rfl) ?_
      refine wpS_this [0, 1, 2, 3] rfl (by kernel_rfl) (by simp only [pickL, nthL, List.cons_append, List.nil_append]; rfl) ?_
      repeat (go_big_quiet_step (fail))
      refine wpQuiet_nil ?_
      refine wpS_loadA (i := 4) (d := some 16) (cells := y.x.enc) rfl (by rfl) rfl rfl (HM12.out.part 0 rfl (fun _ _ h => sub_app [_, _] _ [] h)) Try.underlying43 rfl (by kernel_rfl) rfl ?_
      simp only [Act.put, List.setIfInBounds_toArray, List.set_cons_succ, List.set_cons_zero]
      refine wpS_buildN elemDx (i := 5) (dd := 17) (n := 1) (xs := [y.x]) (cs := (y.x.enc ++ []).toArray) rfl (by rfl) (fun _ => by kernel_rfl) rfl rfl HM12.out covS_nil rfl ?_
      rintro b15 W16 hm17 -
      have HM18 := Lib.hid hm17
      clear hm17
      simp only [Act.put, List.setIfInBounds_toArray, List.set_cons_succ, List.set_cons_zero]
      refine wpS_does1 (i := 6) (d := some 18) (rem := [_]) (out := [_, _, _]) rfl (by rfl) rfl Try.call29 (Does.ofList (heavyD_d (listT [_, _]) _ [y.x] (vRowE 0 rfl rowT_reads) hyl.out.one)) rfl HM18.out [0, 1] rfl covS_nil rfl rfl ?_
      rintro W20 hm19 -
      rw [hv.out]
      have HM21 := Lib.hid hm19
      clear hm19
      simp only [Act.put, List.setIfInBounds_toArray, List.set_cons_succ, List.set_cons_zero]
      refine wpS_this [7, 8] rfl (by kernel_rfl) (by simp only [pickL, nthL, List.cons_append, List.nil_append]; rfl) ?_
      repeat (go_big_quiet_step (fail))
      refine wpQuiet_nil ?_
      refine wpS_nil ?_
      refine then_normal ?_
      refine wp_cond_true rfl ?_
      refine wp_seq ?_
      refine wp_region_N [(0, 1)] (by kernel_rfl) ?_
      refine wpS_this [0] rfl (by kernel_rfl) (by simp only [pickL, nthL, List.cons_append, List.nil_append]; rfl) ?_
      repeat (go_big_quiet_step (fail))
      refine wpQuiet_nil ?_
      refine wpS_nil ?_
      refine then_normal ?_
      refine wp_ret ?_
      refine block_ret (then_ret (then_ret (block_ret (then_ret ?_))))
      refine bodyPost_ret (results_tmp rfl _ _ _) rfl ?_
      rw [hc.out]
      exact does_ret (Mem.only (M := [_]) HM21.out [1] rfl) rfl rfl
    · have g6 : decide ((80 : Int) ≤ (k : Int)) = false := decide_eq_false (by omega)
      have g6' : decide (80 ≤ k) = false := decide_eq_false h1
      have hv : Hid (hvyX 0 [y.x] = 0) := Lib.hid (by rw [hvyX_one, if_neg (by rw [h2]; simp)])
      have hg := Lib.hid (show goodL y = true by unfold goodL; rw [h2]; rfl)
      replace h1 := Lib.hid h1
      replace h2 := Lib.hid h2
      refine wp_region_N [(0, 1), (1, 1), (2, 1), (3, 1), (4, 1), (5, 3), (6, 3), (7, 1), (8, 1)] (by kernel_rfl) ?_
      refine wpS_this [0, 1, 2, 3] rfl (by kernel_rfl) (by simp only [pickL, nthL, List.cons_append, List.nil_append]; rfl) ?_
      repeat (go_big_quiet_step (fail))
      refine wpQuiet_nil ?_
      refine wpS_loadA (i := 4) (d := some 16) (cells := y.x.enc) rfl (by rfl) rfl rfl (HM12.out.part 0 rfl (fun _ _ h => sub_app [_, _] _ [] h)) Try.underlying43 rfl (by kernel_rfl) rfl ?_
      simp only [Act.put, List.setIfInBounds_toArray, List.set_cons_succ, List.set_cons_zero]
      refine wpS_buildN elemDx (i := 5) (dd := 17) (n := 1) (xs := [y.x]) (cs := (y.x.enc ++ []).toArray) rfl (by rfl) (fun _ => by kernel_rfl) rfl rfl HM12.out covS_nil rfl ?_
      rintro b24 W25 hm26 -
      have HM27 := Lib.hid hm26
      clear hm26
      simp only [Act.put, List.setIfInBounds_toArray, List.set_cons_succ, List.set_cons_zero]
      refine wpS_does1 (i := 6) (d := some 18) (rem := [_]) (out := [_, _, _]) rfl (by rfl) rfl Try.call29 (Does.ofList (heavyD_d (listT [_, _]) _ [y.x] (vRowE 0 rfl rowT_reads) hyl.out.one)) rfl HM27.out [0, 1] rfl covS_nil rfl rfl ?_
      rintro W29 hm28 -
      rw [hv.out]
      have HM30 := Lib.hid hm28
      clear hm28
      simp only [Act.put, List.setIfInBounds_toArray, List.set_cons_succ, List.set_cons_zero]
      refine wpS_this [7, 8] rfl (by kernel_rfl) (by simp only [pickL, nthL, List.cons_append, List.nil_append]; rfl) ?_
      repeat (go_big_quiet_step (fail))
      refine wpQuiet_nil ?_
      refine wpS_nil ?_
      refine then_normal ?_
      refine wp_cond_false rfl ?_
      refine wp_skip ?_
      refine block_normal ?_
      refine then_normal ?_
      refine wp_region_N [(0, 1), (1, 1)] (by kernel_rfl) ?_
      refine wpS_this [0, 1] rfl (by kernel_rfl) (by simp only [pickL, nthL, List.cons_append, List.nil_append]; rfl) ?_
      repeat (go_big_quiet_step (fail))
      refine wpQuiet_nil ?_
      refine wpS_nil ?_
      refine then_normal ?_
      refine ⟨by kernel_rfl, ?_⟩
      refine ⟨l.length - (k + 1), by omega, k + 1, rfl, rfl, hk1, ?_, (Mem.only (M := [_]) HM30.out [1] rfl)⟩
      exact lit_next hf.out hy.out h1.out hg.out
  · have hge : Hid (l.length ≤ k) := Lib.hid (by have : ¬ (k : Int) < ((l.length : Nat) : Int) := (by simpa using h2); omega)
    clear h2
    refine wp_exit ?_
    refine then_exit (then_exit (block_exit ?_))
    refine then_normal ?_
    refine wp_seq ?_
    refine wp_region_N [(0, 1)] (by kernel_rfl) ?_
    refine wpS_this [0] rfl (by kernel_rfl) (by simp only [pickL, nthL, List.cons_append, List.nil_append]; rfl) ?_
    repeat (go_big_quiet_step (fail))
    refine wpQuiet_nil ?_
    refine wpS_nil ?_
    refine then_normal ?_
    refine wp_ret ?_
    refine bodyPost_ret (results_tmp rfl _ _ _) rfl ?_
    rw [lit_end hf.out hge.out]
    exact does_ret (Mem.only (M := [_]) HM1.out [0] rfl) rfl rfl

set_option maxHeartbeats 4000000 in
set_option maxRecDepth 100000 in
theorem sameL_d (R : At) (va vb : Value) (a b : List Dx) (ha : ∀ W H, R.p W H → RowAt elemDx W va a) (hb : ∀ W H, R.p W H → RowAt elemDx W vb b) (hra : ∀ x ∈ a, DxR R x) (hrb : ∀ x ∈ b, DxR R x) (la : a.length ≤ 100000) : Does Try.prog 25 #[va, vb] [R] (.bool (sameL (a.map fun x => x.d) (b.map fun x => x.d))) [R] := by
  intro w H hp
  have HM0 := Lib.hid (mem_refl hp)
  clear hp
  obtain ⟨pa, ca, rfl, -⟩ := (HM0.out.row 0 rfl ha).form
  obtain ⟨pb, cb, rfl, -⟩ := (HM0.out.row 0 rfl hb).form
  go_enter Try.func25, Try.ntmps25
  refine wp_seq ?_
  refine wp_region_N [(0, 1)] (by kernel_rfl) ?_
  refine wpS_this [0] rfl (by kernel_rfl) (by simp only [pickL, nthL, List.cons_append, List.nil_append]; rfl) ?_
  repeat (go_big_quiet_step (fail))
  refine wpQuiet_nil ?_
  refine wpS_nil ?_
  refine then_normal ?_
  refine wp_seq ?_
  refine wp_seq ?_
  by_cases hl0 : a.length = b.length
  · have g1 : ((a.length : Int) != (b.length : Int)) = false := by rw [hl0]; exact bne_self_eq_false _
    have g1' : (a.length != b.length) = false := by rw [hl0]; exact bne_self_eq_false _
    have hlen := Lib.hid hl0
    clear hl0
    refine wp_region_N [(0, 1), (1, 1), (2, 1), (3, 1), (4, 1)] (by kernel_rfl) ?_
    refine wpS_this [0, 1, 2, 3, 4] rfl (by kernel_rfl) (by simp only [pickL, nthL, List.cons_append, List.nil_append]; rfl) ?_
    repeat (go_big_quiet_step (fail))
    refine wpQuiet_nil ?_
    refine wpS_nil ?_
    refine then_normal ?_
    refine wp_cond_false rfl ?_
    refine wp_skip ?_
    refine then_normal ?_
    refine wp_seq ?_
    refine wp_seq ?_
    refine wp_region_N [(0, 1), (1, 1), (2, 1)] (by kernel_rfl) ?_
    refine wpS_this [0, 1, 2] rfl (by kernel_rfl) (by simp only [pickL, nthL, List.cons_append, List.nil_append]; rfl) ?_
    repeat (go_big_quiet_step (fail))
    refine wpQuiet_nil ?_
    refine wpS_nil ?_
    refine then_normal ?_
    refine wp_block ?_
    refine wp_loop_F [4, 5, 13, 14, 15, 16, 17, 18, 19, 20, 21, 22, 23, 24, 25, 26] (fun n vs W' => ∃ k : Nat, n = a.length - k ∧ vs 13 = .int .i64 (k : Int) ∧ k ≤ a.length ∧ (∀ (i : Nat) (x y : Dx), i < k → a[i]? = some x → b[i]? = some y → sameD x.d y.d = true) ∧ Mem [R] H w W') (n0 := a.length) ?_ ?_
    · exact ⟨0, rfl, rfl, Nat.zero_le _, fun i x y h => by omega, (Mem.only (M := [_]) HM0.out [0] rfl)⟩
    rintro n vs W' ⟨k, rfl, e13, hk, hf, hm⟩
    simp only [putAll, List.map_cons, List.map_nil, Act.put, List.setIfInBounds_toArray, List.set_cons_succ, List.set_cons_zero]
    rw [e13]
    clear e13
    have hf := Lib.hid hf
    have HM1 := Lib.hid hm
    clear hm
    refine wp_seq ?_
    refine wp_region_N [(0, 1)] (by kernel_rfl) ?_
    refine wpS_this [0] rfl (by kernel_rfl) (by simp only [pickL, nthL, List.cons_append, List.nil_append]; rfl) ?_
    repeat (go_big_quiet_step (fail))
    refine wpQuiet_nil ?_
    refine wpS_nil ?_
    refine then_normal ?_
    refine wp_seq ?_
    refine wp_cond_split rfl (fun h2 => ?_) (fun h2 => ?_)
    · have hk1 : k + 1 ≤ a.length := by have : (k : Int) < ((a.length : Nat) : Int) := (by simpa using h2); omega
      clear h2
      obtain ⟨x, hx'⟩ : ∃ y, a[k]? = some y := ⟨_, List.getElem?_eq_getElem (hk1)⟩
      have hx := Lib.hid hx'
      clear hx'
      obtain ⟨y, hy'⟩ : ∃ y, b[k]? = some y := ⟨_, List.getElem?_eq_getElem (by have := hlen.out; omega)⟩
      have hy := Lib.hid hy'
      clear hy'
      refine wp_skip ?_
      refine then_normal ?_
      refine wp_seq ?_
      refine wp_block ?_
      refine wp_seq ?_
      refine wp_region_N [(0, 1), (1, 1)] (by kernel_rfl) ?_
      refine wpS_this [0, 1] rfl (by kernel_rfl) (by simp only [pickL, nthL, List.cons_append, List.nil_append]; rfl) ?_
      repeat (go_big_quiet_step (fail))
      refine wpQuiet_nil ?_
      refine wpS_nil ?_
      refine then_normal ?_
      refine wp_seq ?_
      cases hs' : sameD x.d y.d
      · have hc := Lib.hid (sameL_differ (a := (a.map fun x => x.d)) (b := (b.map fun x => x.d)) (k := k) (by rw [List.getElem?_map, hx.out]; rfl) (by rw [List.getElem?_map, hy.out]; rfl) hs')
        have hs := Lib.hid hs'
        clear hs'
        refine wp_region_M (fun k => k ∈ ([] : List Nat)) [(0, 1), (1, 1), (2, 1), (3, 1), (4, 1), (5, 1), (6, 1), (7, 1), (8, 3), (9, 1)] (by kernel_rfl) (by kernel_rfl) HM1.out ?_
        intro W3 hm4
        have HM5 := Lib.hid hm4
        clear hm4
        refine wpS_this [0, 1] rfl (by kernel_rfl) (by simp only [pickL, nthL, List.cons_append, List.nil_append]; rfl) ?_
        repeat (go_big_quiet_step (fail))
        refine wpQuiet_nil ?_
        refine wpS_index (E := elemDx) (i := 2) (d := some 18) rfl (by rfl) rfl rfl rfl (HM5.out.row 0 rfl ha) (hx.out) rfl ?_
        intro eb6 eo7 hc8
        simp only [Act.put, List.setIfInBounds_toArray, List.set_cons_succ, List.set_cons_zero]
        refine wpS_loadA (i := 3) (d := some 19) (cells := Dx.enc x) rfl (by rfl) rfl rfl hc8 Try.underlying43 rfl (by kernel_rfl) rfl ?_
        simp only [Act.put, List.setIfInBounds_toArray, List.set_cons_succ, List.set_cons_zero]
        refine wpS_this [4, 5] rfl (by kernel_rfl) (by simp only [pickL, nthL, List.cons_append, List.nil_append]; rfl) ?_
        repeat (go_big_quiet_step (fail))
        refine wpQuiet_nil ?_
        refine wpS_index (E := elemDx) (i := 6) (d := some 22) rfl (by rfl) rfl rfl rfl (HM5.out.row 0 rfl hb) (hy.out) rfl ?_
        intro eb9 eo10 hc11
        simp only [Act.put, List.setIfInBounds_toArray, List.set_cons_succ, List.set_cons_zero]
        refine wpS_loadA (i := 7) (d := some 23) (cells := Dx.enc y) rfl (by rfl) rfl rfl hc11 Try.underlying43 rfl (by kernel_rfl) rfl ?_
        simp only [Act.put, List.setIfInBounds_toArray, List.set_cons_succ, List.set_cons_zero]
        refine wpS_does2 (i := 8) (d := some 24) (rem := []) (out := [_]) rfl (by rfl) rfl Try.call15 (rsameD_d R _ _ x.d (hra x (List.mem_of_getElem? hx.out)) _ _ y.d (hrb y (List.mem_of_getElem? hy.out))) rfl rfl HM5.out [0] rfl covS_nil rfl rfl ?_
        rintro W13 hm12 -
        rw [hs.out]
        have HM14 := Lib.hid hm12
        clear hm12
        simp only [Act.put, List.setIfInBounds_toArray, List.set_cons_succ, List.set_cons_zero]
        refine wpS_this [9] rfl (by kernel_rfl) (by simp only [pickL, nthL, List.cons_append, List.nil_append]; rfl) ?_
        repeat (go_big_quiet_step (fail))
        refine wpQuiet_nil ?_
        refine wpS_nil ?_
        refine then_normal ?_
        refine wp_cond_true rfl ?_
        refine wp_seq ?_
        refine wp_region_N [(0, 1)] (by kernel_rfl) ?_
        refine wpS_this [0] rfl (by kernel_rfl) (by simp only [pickL, nthL, List.cons_append, List.nil_append]; rfl) ?_
        repeat (go_big_quiet_step (fail))
        refine wpQuiet_nil ?_
        refine wpS_nil ?_
        refine then_normal ?_
        refine wp_ret ?_
        refine block_ret (then_ret (then_ret (block_ret (then_ret ?_))))
        refine bodyPost_ret (results_tmp rfl _ _ _) rfl ?_
        rw [hc.out]
        exact does_ret (Mem.only (M := [_]) HM14.out [0] rfl) rfl rfl
      · have hs := Lib.hid hs'
        clear hs'
        refine wp_region_M (fun k => k ∈ ([] : List Nat)) [(0, 1), (1, 1), (2, 1), (3, 1), (4, 1), (5, 1), (6, 1), (7, 1), (8, 3), (9, 1)] (by kernel_rfl) (by kernel_rfl) HM1.out ?_
        intro W15 hm16
        have HM17 := Lib.hid hm16
        clear hm16
        refine wpS_this [0, 1] rfl (by kernel_rfl) (by simp only [pickL, nthL, List.cons_append, List.nil_append]; rfl) ?_
        repeat (go_big_quiet_step (fail))
        refine wpQuiet_nil ?_
        refine wpS_index (E := elemDx) (i := 2) (d := some 18) rfl (by rfl) rfl rfl rfl (HM17.out.row 0 rfl ha) (hx.out) rfl ?_
        intro eb18 eo19 hc20
        simp only [Act.put, List.setIfInBounds_toArray, List.set_cons_succ, List.set_cons_zero]
        refine wpS_loadA (i := 3) (d := some 19) (cells := Dx.enc x) rfl (by rfl) rfl rfl hc20 Try.underlying43 rfl (by kernel_rfl) rfl ?_
        simp only [Act.put, List.setIfInBounds_toArray, List.set_cons_succ, List.set_cons_zero]
        refine wpS_this [4, 5] rfl (by kernel_rfl) (by simp only [pickL, nthL, List.cons_append, List.nil_append]; rfl) ?_
        repeat (go_big_quiet_step (fail))
        refine wpQuiet_nil ?_
        refine wpS_index (E := elemDx) (i := 6) (d := some 22) rfl (by rfl) rfl rfl rfl (HM17.out.row 0 rfl hb) (hy.out) rfl ?_
        intro eb21 eo22 hc23
        simp only [Act.put, List.setIfInBounds_toArray, List.set_cons_succ, List.set_cons_zero]
        refine wpS_loadA (i := 7) (d := some 23) (cells := Dx.enc y) rfl (by rfl) rfl rfl hc23 Try.underlying43 rfl (by kernel_rfl) rfl ?_
        simp only [Act.put, List.setIfInBounds_toArray, List.set_cons_succ, List.set_cons_zero]
        refine wpS_does2 (i := 8) (d := some 24) (rem := []) (out := [_]) rfl (by rfl) rfl Try.call15 (rsameD_d R _ _ x.d (hra x (List.mem_of_getElem? hx.out)) _ _ y.d (hrb y (List.mem_of_getElem? hy.out))) rfl rfl HM17.out [0] rfl covS_nil rfl rfl ?_
        rintro W25 hm24 -
        rw [hs.out]
        have HM26 := Lib.hid hm24
        clear hm24
        simp only [Act.put, List.setIfInBounds_toArray, List.set_cons_succ, List.set_cons_zero]
        refine wpS_this [9] rfl (by kernel_rfl) (by simp only [pickL, nthL, List.cons_append, List.nil_append]; rfl) ?_
        repeat (go_big_quiet_step (fail))
        refine wpQuiet_nil ?_
        refine wpS_nil ?_
        refine then_normal ?_
        refine wp_cond_false rfl ?_
        refine wp_skip ?_
        refine block_normal ?_
        refine then_normal ?_
        refine wp_region_N [(0, 1), (1, 1)] (by kernel_rfl) ?_
        refine wpS_this [0, 1] rfl (by kernel_rfl) (by simp only [pickL, nthL, List.cons_append, List.nil_append]; rfl) ?_
        repeat (go_big_quiet_step (fail))
        refine wpQuiet_nil ?_
        refine wpS_nil ?_
        refine then_normal ?_
        refine ⟨by kernel_rfl, ?_⟩
        refine ⟨a.length - (k + 1), by omega, k + 1, rfl, rfl, hk1, ?_, (Mem.only (M := [_]) HM26.out [0] rfl)⟩
        intro i u v hi hu hv
        rcases Nat.lt_or_eq_of_le (Nat.le_of_lt_succ hi) with h3 | rfl
        · exact hf.out i u v h3 hu hv
        · rw [hx.out] at hu
          rw [hy.out] at hv
          cases hu
          cases hv
          exact hs.out
    · have hge : Hid (a.length ≤ k) := Lib.hid (by have : ¬ (k : Int) < ((a.length : Nat) : Int) := (by simpa using h2); omega)
      clear h2
      refine wp_exit ?_
      refine then_exit (then_exit (block_exit ?_))
      refine then_normal ?_
      refine wp_seq ?_
      refine wp_region_N [(0, 1)] (by kernel_rfl) ?_
      refine wpS_this [0] rfl (by kernel_rfl) (by simp only [pickL, nthL, List.cons_append, List.nil_append]; rfl) ?_
      repeat (go_big_quiet_step (fail))
      refine wpQuiet_nil ?_
      refine wpS_nil ?_
      refine then_normal ?_
      refine wp_ret ?_
      refine bodyPost_ret (results_tmp rfl _ _ _) rfl ?_
      rw [sameL_of (a := (a.map fun x => x.d)) (b := (b.map fun x => x.d)) (by rw [List.length_map, List.length_map]; exact hlen.out) (fun i u v hu hv => by
          rw [List.getElem?_map] at hu hv
          obtain ⟨x, hx, rfl⟩ := Option.map_eq_some_iff.1 hu
          obtain ⟨y, hy, rfl⟩ := Option.map_eq_some_iff.1 hv
          exact hf.out i x y (Nat.lt_of_lt_of_le (List.getElem?_eq_some_iff.1 hx).1 hge.out) hx hy)]
      exact does_ret (Mem.only (M := [_]) HM1.out [0] rfl) rfl rfl
  · have g1 : ((a.length : Int) != (b.length : Int)) = true := bne_iff_ne.2 (by omega)
    have g1' : (a.length != b.length) = true := bne_iff_ne.2 hl0
    have hc := Lib.hid (sameL_no (a := (a.map fun x => x.d)) (b := (b.map fun x => x.d)) (by rw [List.length_map, List.length_map]; exact hl0))
    clear hl0
    refine wp_region_N [(0, 1), (1, 1), (2, 1), (3, 1), (4, 1)] (by kernel_rfl) ?_
    refine wpS_this [0, 1, 2, 3, 4] rfl (by kernel_rfl) (by simp only [pickL, nthL, List.cons_append, List.nil_append]; rfl) ?_
    repeat (go_big_quiet_step (fail))
    refine wpQuiet_nil ?_
    refine wpS_nil ?_
    refine then_normal ?_
    refine wp_cond_true rfl ?_
    refine wp_seq ?_
    refine wp_region_N [(0, 1)] (by kernel_rfl) ?_
    refine wpS_this [0] rfl (by kernel_rfl) (by simp only [pickL, nthL, List.cons_append, List.nil_append]; rfl) ?_
    repeat (go_big_quiet_step (fail))
    refine wpQuiet_nil ?_
    refine wpS_nil ?_
    refine then_normal ?_
    refine wp_ret ?_
    refine then_ret ?_
    refine bodyPost_ret (results_tmp rfl _ _ _) rfl ?_
    rw [hc.out]
    exact does_ret (Mem.only (M := [_]) HM0.out [0] rfl) rfl rfl

end Go.Proofs.Ytnahhbpaijfpbaa
