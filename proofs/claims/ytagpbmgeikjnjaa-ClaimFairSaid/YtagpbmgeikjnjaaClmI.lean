/- The laws' helpers. -/
import Derived.Test.YtagpbmgeikjnjaaClmH
import Derived.Test.YtagpbmgeikjnjaaClmC
import Derived.Test.YtagpbmgeikjnjaaOld
namespace Go.Proofs.Ytagpbmgeikjnjaa
open Go Go.RowKit Go.BigFrame

/-- A slice, as an element. -/
structure SlV where
  p : Option Addr
  n : Nat
  c : Nat
def elemS : Elem Try.prog SlV where
  enc x := [.slice x.p x.n x.c]
  k := 1
  pos := by decide
  len _ := rfl
  one _ u hu := by
    simp only [List.mem_singleton] at hu
    subst hu
    rfl
  t := 22
  sl := 35
  under := Try.underlying35
  z := .slice none 0 0
  bytes := 24
  bpos := by decide
  info := by kernel_rfl
  zs := by kernel_rfl
def fewB (l : List SlV) : Bool := l.all fun y => decide (y.n ≤ 100)
theorem few_end {l : List SlV} (h : l.take l.length = l) (hk : fewB (l.take l.length) = true) : fewB l = true := by rwa [h] at hk
theorem few_step {l : List SlV} {k : Nat} {y : SlV} (h : l[k]? = some y) : fewB (l.take (k + 1)) = (fewB (l.take k) && decide (y.n ≤ 100)) := by
  unfold fewB
  rw [List.take_add_one, h]
  simp
theorem few_no {l : List SlV} {k : Nat} {y : SlV} (h : l[k]? = some y) (hy : ¬ y.n ≤ 100) : fewB l = false := by
  unfold fewB
  rw [List.all_eq_false]
  exact ⟨y, List.mem_of_getElem? h, by simpa using hy⟩
/-- Objects as one, read: a row that one of them holds. -/
theorem rowL {v : Value} {xs : List Int} : ∀ {l : List At} (i : Nat) {A : At}, l[i]? = some A → (∀ W H, A.p W H → RowAt elemI W v xs) → ∀ W H, (listT l).p W H → RowAt elemI W v xs := fun {l} i A hi hA W H h => by
  obtain ⟨H1, H2, h1, _⟩ := stars_pick l i A hi h
  exact hA W H1 h1
theorem rowOwn {v : Value} {xs : List Int} : ∀ W H, (rowT elemI v xs).p W H → RowAt elemI W v xs := fun W H h => rowAt_src (rowT_reads W H h)
theorem rowNil (R : At) : ∀ W H, R.p W H → RowAt elemI W (.slice none 0 0) [] := fun _ _ _ => .inl ⟨rfl, _, _, rfl⟩
theorem rd_form {W : World} {v : Value} {l : List Int} (h : RowAt elemI W v l) : ∃ p c, v = .slice p l.length c := by
  obtain ⟨p, c, h, _⟩ := h.form
  exact ⟨p, c, h⟩
def oldT (W : World) : At := ⟨OldA W, oldA_owns W⟩
theorem rowOld {W0 : World} {v : Value} {xs : List Int} (hv : RowAt elemI W0 v xs) : ∀ W H, (oldT W0).p W H → RowAt elemI W v xs := fun _ _ h => OldA.row h hv
theorem Does.givesOld {pr : Program} {f : FuncId} {args : Array Value} {v : Value} {W : World} (h : Does pr f args [oldT W] v [oldT W]) : Gives pr f args W v :=
  (h W (fun k => k < W.heap.size) ⟨_, fun _ => False, oldA_self W, fun _ h => h, fun _ _ h => h, fun k => by simp⟩).mono fun _ W' ⟨he, hs⟩ => ⟨he, ⟨W', SEnd.ended (SEnd.noOld hs)⟩, rfl⟩
theorem OldA.src {w W : World} {H : Nat → Prop} {v : Value} {l : List Int} (h : OldA w W H) (hv : SrcE elemI w v l) : SrcE elemI W v l := ⟨h.row hv.1, hv.2⟩
set_option maxHeartbeats 4000000 in
set_option maxRecDepth 100000 in
theorem few_d (R : At) (v : Value) (l : List SlV) (hR : ∀ W H, R.p W H → RowAt elemS W v l) (hll : l.length ≤ 1000) : Does Try.prog 10 #[v] [R] (.bool (fewB l)) [R] := by
  intro w H hp
  have HM0 := Lib.hid (mem_refl hp)
  clear hp
  obtain ⟨p, cap, rfl, -⟩ := (HM0.out.row 0 rfl hR).form
  go_enter Try.func10, Try.ntmps10
  refine wp_seq ?_
  refine wp_region_N [(0, 1)] (by kernel_rfl) ?_
  refine wpS_this [0] rfl (by kernel_rfl) (by simp only [pickL, nthL, List.cons_append, List.nil_append]; rfl) ?_
  repeat (go_big_quiet_step (fail))
  refine wpQuiet_nil ?_
  refine wpS_nil ?_
  refine then_normal ?_
  refine wp_seq ?_
  refine wp_seq ?_
  refine wp_region_N [(0, 1), (1, 1), (2, 1)] (by kernel_rfl) ?_
  refine wpS_this [0, 1, 2] rfl (by kernel_rfl) (by simp only [pickL, nthL, List.cons_append, List.nil_append]; rfl) ?_
  repeat (go_big_quiet_step (fail))
  refine wpQuiet_nil ?_
  refine wpS_nil ?_
  refine then_normal ?_
  refine wp_block ?_
  refine wp_loop_F [2, 4, 7, 8, 9, 10, 11, 12, 13, 14] (fun n vs W' => ∃ k : Nat, n = l.length - k ∧ vs 7 = .int .i64 (k : Int) ∧ k ≤ l.length ∧ fewB (l.take k) = true ∧ Mem [R] H w W') (n0 := l.length) ?_ ?_
  · exact ⟨0, rfl, rfl, Nat.zero_le _, rfl, (Mem.only (M := [_]) HM0.out [0] rfl)⟩
  rintro n vs W' ⟨k, rfl, e7, hk, hf, hm⟩
  simp only [putAll, List.map_cons, List.map_nil, Act.put, List.setIfInBounds_toArray, List.set_cons_succ, List.set_cons_zero]
  rw [e7]
  clear e7
  have hf := Lib.hid hf
  have HM1 := Lib.hid hm
  clear hm
  refine wp_seq ?_
  refine wp_region_N [(0, 1)] (by kernel_rfl) ?_
  refine wpS_this [0] rfl (by kernel_rfl) (by simp only [pickL, nthL, List.cons_append, List.nil_append]; rfl) ?_
  repeat (go_big_quiet_step (fail))
  refine wpQuiet_nil ?_
  refine wpS_nil ?_
  refine then_normal ?_
  refine wp_seq ?_
  refine wp_cond_split rfl (fun h2 => ?_) (fun h2 => ?_)
  · have hk1 : k + 1 ≤ l.length := by have : (k : Int) < ((l.length : Nat) : Int) := (by simpa using h2); omega
    clear h2
    obtain ⟨y, hy'⟩ : ∃ y, l[k]? = some y := ⟨_, List.getElem?_eq_getElem hk1⟩
    have hy := Lib.hid hy'
    clear hy'
    refine wp_skip ?_
    refine then_normal ?_
    refine wp_seq ?_
    refine wp_block ?_
    refine wp_seq ?_
    refine wp_region_N [(0, 1), (1, 1), (2, 1)] (by kernel_rfl) ?_
    refine wpS_index (E := elemS) (i := 0) (d := some 9) rfl (by rfl) rfl rfl rfl (HM1.out.row 0 rfl hR) (hy.out) rfl ?_
    intro eb3 eo4 hc5
    simp only [Act.put, List.setIfInBounds_toArray, List.set_cons_succ, List.set_cons_zero]
    refine wpS_load1 (i := 1) (d := some 10) (u := .slice y.p y.n y.c) rfl (by rfl) rfl rfl (hc5 0 _ rfl) Try.underlying22 rfl rfl ?_
    simp only [Act.put, List.setIfInBounds_toArray, List.set_cons_succ, List.set_cons_zero]
    refine wpS_this [2] rfl (by kernel_rfl) (by simp only [pickL, nthL, List.cons_append, List.nil_append]; rfl) ?_
    repeat (go_big_quiet_step (fail))
    refine wpQuiet_nil ?_
    refine wpS_nil ?_
    refine then_normal ?_
    refine wp_seq ?_
    by_cases hy1 : y.n ≤ 100
    · have g1 : decide (100 < y.n) = false := decide_eq_false (by omega)
      have g1' : decide ((100 : Int) < (y.n : Int)) = false := decide_eq_false (by omega)
      have hy1 : Hid (decide (y.n ≤ 100) = true) := Lib.hid (decide_eq_true hy1)
      refine wp_region_N [(0, 1), (1, 1), (2, 1)] (by kernel_rfl) ?_
      refine wpS_this [0, 1, 2] rfl (by kernel_rfl) (by simp only [pickL, nthL, List.cons_append, List.nil_append]; rfl) ?_
      repeat (go_big_quiet_step (fail))
      refine wpQuiet_nil ?_
      refine wpS_nil ?_
      refine then_normal ?_
      refine wp_cond_false rfl ?_
      refine wp_skip ?_
      refine block_normal ?_
      refine then_normal ?_
      refine wp_region_N [(0, 1), (1, 1)] (by kernel_rfl) ?_
      refine wpS_this [0, 1] rfl (by kernel_rfl) (by simp only [pickL, nthL, List.cons_append, List.nil_append]; rfl) ?_
      repeat (go_big_quiet_step (fail))
      refine wpQuiet_nil ?_
      refine wpS_nil ?_
      refine then_normal ?_
      refine ⟨by kernel_rfl, ?_⟩
      refine ⟨l.length - (k + 1), by omega, k + 1, rfl, rfl, hk1, ?_, (Mem.only (M := [_]) HM1.out [0] rfl)⟩
      rw [few_step hy.out, hf.out, hy1.out]
      rfl
    · have g1 : decide (100 < y.n) = true := decide_eq_true (by omega)
      have g1' : decide ((100 : Int) < (y.n : Int)) = true := decide_eq_true (by omega)
      have hy1 := Lib.hid hy1
      refine wp_region_N [(0, 1), (1, 1), (2, 1)] (by kernel_rfl) ?_
      refine wpS_this [0, 1, 2] rfl (by kernel_rfl) (by simp only [pickL, nthL, List.cons_append, List.nil_append]; rfl) ?_
      repeat (go_big_quiet_step (fail))
      refine wpQuiet_nil ?_
      refine wpS_nil ?_
      refine then_normal ?_
      refine wp_cond_true rfl ?_
      refine wp_seq ?_
      refine wp_region_N [(0, 1)] (by kernel_rfl) ?_
      refine wpS_this [0] rfl (by kernel_rfl) (by simp only [pickL, nthL, List.cons_append, List.nil_append]; rfl) ?_
      repeat (go_big_quiet_step (fail))
      refine wpQuiet_nil ?_
      refine wpS_nil ?_
      refine then_normal ?_
      refine wp_ret ?_
      refine block_ret (then_ret (then_ret (block_ret (then_ret ?_))))
      refine bodyPost_ret (results_tmp rfl _ _ _) rfl ?_
      rw [few_no hy.out hy1.out]
      exact does_ret (Mem.only (M := [_]) HM1.out [0] rfl) rfl rfl
  · have hge : Hid (l.length ≤ k) := Lib.hid (by have : ¬ (k : Int) < (l.length : Int) := (by simpa using h2); omega)
    clear h2
    refine wp_exit ?_
    refine then_exit (then_exit (block_exit ?_))
    refine then_normal ?_
    refine wp_seq ?_
    refine wp_region_N [(0, 1)] (by kernel_rfl) ?_
    refine wpS_this [0] rfl (by kernel_rfl) (by simp only [pickL, nthL, List.cons_append, List.nil_append]; rfl) ?_
    repeat (go_big_quiet_step (fail))
    refine wpQuiet_nil ?_
    refine wpS_nil ?_
    refine then_normal ?_
    refine wp_ret ?_
    refine bodyPost_ret (results_tmp rfl _ _ _) rfl ?_
    have hkl : k = l.length := by have := hge.out; omega
    subst hkl
    rw [few_end (List.take_length) hf.out]
    exact does_ret (Mem.only (M := [_]) HM1.out [0] rfl) rfl rfl

set_option maxHeartbeats 4000000 in
set_option maxRecDepth 100000 in
theorem same_d (R : At) (va vb : Value) (x y : List Int) (hA : ∀ W H, R.p W H → RowAt elemI W va x) (hB : ∀ W H, R.p W H → RowAt elemI W vb y) (hxl : x.length ≤ 1000) : Does Try.prog 12 #[va, vb] [R] (.bool (decide (x = y))) [R] := by
  intro w H hp
  have HM0 := Lib.hid (mem_refl hp)
  clear hp
  obtain ⟨p, cap, rfl, -⟩ := (HM0.out.row 0 rfl hA).form
  obtain ⟨p2, cap2, rfl, -⟩ := (HM0.out.row 0 rfl hB).form
  go_enter Try.func12, Try.ntmps12
  refine wp_seq ?_
  refine wp_region_N [(0, 1)] (by kernel_rfl) ?_
  refine wpS_this [0] rfl (by kernel_rfl) (by simp only [pickL, nthL, List.cons_append, List.nil_append]; rfl) ?_
  repeat (go_big_quiet_step (fail))
  refine wpQuiet_nil ?_
  refine wpS_nil ?_
  refine then_normal ?_
  refine wp_seq ?_
  refine wp_seq ?_
  by_cases hl : x.length = y.length
  · have g1 : (x.length != y.length) = false := by simp [hl]
    have g1' : ((x.length : Int) != (y.length : Int)) = false := by simp [hl]
    replace hl := Lib.hid hl
    refine wp_region_N [(0, 1), (1, 1), (2, 1), (3, 1), (4, 1)] (by kernel_rfl) ?_
    refine wpS_this [0, 1, 2, 3, 4] rfl (by kernel_rfl) (by simp only [pickL, nthL, List.cons_append, List.nil_append]; rfl) ?_
    repeat (go_big_quiet_step (fail))
    refine wpQuiet_nil ?_
    refine wpS_nil ?_
    refine then_normal ?_
    refine wp_cond_false rfl ?_
    refine wp_skip ?_
    refine then_normal ?_
    refine wp_seq ?_
    refine wp_seq ?_
    refine wp_region_N [(0, 1), (1, 1), (2, 1)] (by kernel_rfl) ?_
    refine wpS_this [0, 1, 2] rfl (by kernel_rfl) (by simp only [pickL, nthL, List.cons_append, List.nil_append]; rfl) ?_
    repeat (go_big_quiet_step (fail))
    refine wpQuiet_nil ?_
    refine wpS_nil ?_
    refine then_normal ?_
    refine wp_block ?_
    refine wp_loop_F [4, 5, 13, 14, 15, 16, 17, 18, 19, 20, 21, 22, 23, 24, 25] (fun n vs W' => ∃ k : Nat, n = x.length - k ∧ vs 13 = .int .i64 (k : Int) ∧ k ≤ x.length ∧ x.take k = y.take k ∧ Mem [R] H w W') (n0 := x.length) ?_ ?_
    · exact ⟨0, rfl, rfl, Nat.zero_le _, rfl, (Mem.only (M := [_]) HM0.out [0] rfl)⟩
    rintro n vs W' ⟨k, rfl, e13, hk, hf, hm⟩
    simp only [putAll, List.map_cons, List.map_nil, Act.put, List.setIfInBounds_toArray, List.set_cons_succ, List.set_cons_zero]
    rw [e13]
    clear e13
    have hf := Lib.hid hf
    have HM1 := Lib.hid hm
    clear hm
    refine wp_seq ?_
    refine wp_region_N [(0, 1)] (by kernel_rfl) ?_
    refine wpS_this [0] rfl (by kernel_rfl) (by simp only [pickL, nthL, List.cons_append, List.nil_append]; rfl) ?_
    repeat (go_big_quiet_step (fail))
    refine wpQuiet_nil ?_
    refine wpS_nil ?_
    refine then_normal ?_
    refine wp_seq ?_
    refine wp_cond_split rfl (fun h2 => ?_) (fun h2 => ?_)
    · have hk1 : k + 1 ≤ x.length := by have : (k : Int) < ((x.length : Nat) : Int) := (by simpa using h2); omega
      clear h2
      obtain ⟨a, hx'⟩ : ∃ a, x[k]? = some a := ⟨_, List.getElem?_eq_getElem hk1⟩
      obtain ⟨b, hy'⟩ : ∃ a, y[k]? = some a := ⟨_, List.getElem?_eq_getElem (by have := hl.out; omega)⟩
      have hx := Lib.hid hx'
      clear hx'
      have hy := Lib.hid hy'
      clear hy'
      refine wp_skip ?_
      refine then_normal ?_
      refine wp_seq ?_
      refine wp_block ?_
      refine wp_seq ?_
      refine wp_region_N [(0, 1), (1, 1)] (by kernel_rfl) ?_
      refine wpS_this [0, 1] rfl (by kernel_rfl) (by simp only [pickL, nthL, List.cons_append, List.nil_append]; rfl) ?_
      repeat (go_big_quiet_step (fail))
      refine wpQuiet_nil ?_
      refine wpS_nil ?_
      refine then_normal ?_
      refine wp_seq ?_
      by_cases hxy : a = b
      · have g2 : (a != b) = false := by simp [hxy]
        replace hxy := Lib.hid hxy
        refine wp_region_M (fun k => k ∈ ([] : List Nat)) [(0, 1), (1, 1), (2, 1), (3, 1), (4, 1), (5, 1), (6, 1), (7, 1), (8, 1)] (by kernel_rfl) (by kernel_rfl) HM1.out ?_
        intro W3 hm4
        have HM5 := Lib.hid hm4
        clear hm4
        refine wpS_this [0, 1] rfl (by kernel_rfl) (by simp only [pickL, nthL, List.cons_append, List.nil_append]; rfl) ?_
        repeat (go_big_quiet_step (fail))
        refine wpQuiet_nil ?_
        refine wpS_index (E := elemI) (i := 2) (d := some 18) rfl (by rfl) rfl rfl rfl (HM5.out.row 0 rfl hA) (hx.out) rfl ?_
        intro eb6 eo7 hc8
        simp only [Act.put, List.setIfInBounds_toArray, List.set_cons_succ, List.set_cons_zero]
        refine wpS_load1 (i := 3) (d := some 19) (u := .int .i64 a) rfl (by rfl) rfl rfl (hc8 0 _ rfl) Try.underlying3 rfl rfl ?_
        simp only [Act.put, List.setIfInBounds_toArray, List.set_cons_succ, List.set_cons_zero]
        refine wpS_this [4, 5] rfl (by kernel_rfl) (by simp only [pickL, nthL, List.cons_append, List.nil_append]; rfl) ?_
        repeat (go_big_quiet_step (fail))
        refine wpQuiet_nil ?_
        refine wpS_index (E := elemI) (i := 6) (d := some 22) rfl (by rfl) rfl rfl rfl (HM5.out.row 0 rfl hB) (hy.out) rfl ?_
        intro eb9 eo10 hc11
        simp only [Act.put, List.setIfInBounds_toArray, List.set_cons_succ, List.set_cons_zero]
        refine wpS_load1 (i := 7) (d := some 23) (u := .int .i64 b) rfl (by rfl) rfl rfl (hc11 0 _ rfl) Try.underlying3 rfl rfl ?_
        simp only [Act.put, List.setIfInBounds_toArray, List.set_cons_succ, List.set_cons_zero]
        refine wpS_this [8] rfl (by kernel_rfl) (by simp only [pickL, nthL, List.cons_append, List.nil_append]; rfl) ?_
        repeat (go_big_quiet_step (fail))
        refine wpQuiet_nil ?_
        refine wpS_nil ?_
        refine then_normal ?_
        refine wp_cond_false rfl ?_
        refine wp_skip ?_
        refine block_normal ?_
        refine then_normal ?_
        refine wp_region_N [(0, 1), (1, 1)] (by kernel_rfl) ?_
        refine wpS_this [0, 1] rfl (by kernel_rfl) (by simp only [pickL, nthL, List.cons_append, List.nil_append]; rfl) ?_
        repeat (go_big_quiet_step (fail))
        refine wpQuiet_nil ?_
        refine wpS_nil ?_
        refine then_normal ?_
        refine ⟨by kernel_rfl, ?_⟩
        refine ⟨x.length - (k + 1), by omega, k + 1, rfl, rfl, hk1, ?_, (Mem.only (M := [_]) HM5.out [0] rfl)⟩
        rw [List.take_add_one, List.take_add_one, hf.out, hx.out, hy.out, hxy.out]
      · have g2 : (a != b) = true := by simp [hxy]
        replace hxy := Lib.hid hxy
        refine wp_region_M (fun k => k ∈ ([] : List Nat)) [(0, 1), (1, 1), (2, 1), (3, 1), (4, 1), (5, 1), (6, 1), (7, 1), (8, 1)] (by kernel_rfl) (by kernel_rfl) HM1.out ?_
        intro W12 hm13
        have HM14 := Lib.hid hm13
        clear hm13
        refine wpS_this [0, 1] rfl (by kernel_rfl) (by simp only [pickL, nthL, List.cons_append, List.nil_append]; rfl) ?_
        repeat (go_big_quiet_step (fail))
        refine wpQuiet_nil ?_
        refine wpS_index (E := elemI) (i := 2) (d := some 18) rfl (by rfl) rfl rfl rfl (HM14.out.row 0 rfl hA) (hx.out) rfl ?_
        intro eb15 eo16 hc17
        simp only [Act.put, List.setIfInBounds_toArray, List.set_cons_succ, List.set_cons_zero]
        refine wpS_load1 (i := 3) (d := some 19) (u := .int .i64 a) rfl (by rfl) rfl rfl (hc17 0 _ rfl) Try.underlying3 rfl rfl ?_
        simp only [Act.put, List.setIfInBounds_toArray, List.set_cons_succ, List.set_cons_zero]
        refine wpS_this [4, 5] rfl (by kernel_rfl) (by simp only [pickL, nthL, List.cons_append, List.nil_append]; rfl) ?_
        repeat (go_big_quiet_step (fail))
        refine wpQuiet_nil ?_
        refine wpS_index (E := elemI) (i := 6) (d := some 22) rfl (by rfl) rfl rfl rfl (HM14.out.row 0 rfl hB) (hy.out) rfl ?_
        intro eb18 eo19 hc20
        simp only [Act.put, List.setIfInBounds_toArray, List.set_cons_succ, List.set_cons_zero]
        refine wpS_load1 (i := 7) (d := some 23) (u := .int .i64 b) rfl (by rfl) rfl rfl (hc20 0 _ rfl) Try.underlying3 rfl rfl ?_
        simp only [Act.put, List.setIfInBounds_toArray, List.set_cons_succ, List.set_cons_zero]
        refine wpS_this [8] rfl (by kernel_rfl) (by simp only [pickL, nthL, List.cons_append, List.nil_append]; rfl) ?_
        repeat (go_big_quiet_step (fail))
        refine wpQuiet_nil ?_
        refine wpS_nil ?_
        refine then_normal ?_
        refine wp_cond_true rfl ?_
        refine wp_seq ?_
        refine wp_region_N [(0, 1)] (by kernel_rfl) ?_
        refine wpS_this [0] rfl (by kernel_rfl) (by simp only [pickL, nthL, List.cons_append, List.nil_append]; rfl) ?_
        repeat (go_big_quiet_step (fail))
        refine wpQuiet_nil ?_
        refine wpS_nil ?_
        refine then_normal ?_
        refine wp_ret ?_
        refine block_ret (then_ret (then_ret (block_ret (then_ret ?_))))
        refine bodyPost_ret (results_tmp rfl _ _ _) rfl ?_
        have hne : ¬ x = y := fun e => hxy.out (by have h1 := hx.out; rw [e, hy.out] at h1; exact (Option.some.inj h1).symm)
        rw [decide_eq_false hne]
        exact does_ret (Mem.only (M := [_]) HM14.out [0] rfl) rfl rfl
    · have hge : Hid (x.length ≤ k) := Lib.hid (by have : ¬ (k : Int) < (x.length : Int) := (by simpa using h2); omega)
      clear h2
      refine wp_exit ?_
      refine then_exit (then_exit (block_exit ?_))
      refine then_normal ?_
      refine wp_seq ?_
      refine wp_region_N [(0, 1)] (by kernel_rfl) ?_
      refine wpS_this [0] rfl (by kernel_rfl) (by simp only [pickL, nthL, List.cons_append, List.nil_append]; rfl) ?_
      repeat (go_big_quiet_step (fail))
      refine wpQuiet_nil ?_
      refine wpS_nil ?_
      refine then_normal ?_
      refine wp_ret ?_
      refine bodyPost_ret (results_tmp rfl _ _ _) rfl ?_
      have hkl : k = x.length := by have := hge.out; omega
      subst hkl
      have hf2 := hf.out
      rw [List.take_length, List.take_of_length_le (by rw [hl.out]; exact Nat.le_refl _)] at hf2
      rw [show decide (x = y) = true from decide_eq_true hf2]
      exact does_ret (Mem.only (M := [_]) HM1.out [0] rfl) rfl rfl
  · have g1 : (x.length != y.length) = true := by simp [hl]
    have g1' : ((x.length : Int) != (y.length : Int)) = true := by simp; omega
    replace hl := Lib.hid hl
    refine wp_region_N [(0, 1), (1, 1), (2, 1), (3, 1), (4, 1)] (by kernel_rfl) ?_
    refine wpS_this [0, 1, 2, 3, 4] rfl (by kernel_rfl) (by simp only [pickL, nthL, List.cons_append, List.nil_append]; rfl) ?_
    repeat (go_big_quiet_step (fail))
    refine wpQuiet_nil ?_
    refine wpS_nil ?_
    refine then_normal ?_
    refine wp_cond_true rfl ?_
    refine wp_seq ?_
    refine wp_region_N [(0, 1)] (by kernel_rfl) ?_
    refine wpS_this [0] rfl (by kernel_rfl) (by simp only [pickL, nthL, List.cons_append, List.nil_append]; rfl) ?_
    repeat (go_big_quiet_step (fail))
    refine wpQuiet_nil ?_
    refine wpS_nil ?_
    refine then_normal ?_
    refine wp_ret ?_
    refine then_ret ?_
    refine bodyPost_ret (results_tmp rfl _ _ _) rfl ?_
    have hne : ¬ x = y := fun e => hl.out (congrArg List.length e)
    rw [decide_eq_false hne]
    exact does_ret (Mem.only (M := [_]) HM0.out [0] rfl) rfl rfl

theorem awake_is : assignOf (List.replicate 16 0) (peersOf [0, 1] (-1)) = [0, 0, 0, 0, 0, 0, 0, 0, 1, 1, 1, 1, 1, 1, 1, 1] := by decide +kernel
set_option maxHeartbeats 4000000 in
set_option maxRecDepth 100000 in
theorem awake_d  : Does Try.prog 11 #[] [] (.bool true) [] := by
  intro w H hp
  have HM0 := Lib.hid (mem_refl hp)
  clear hp
  go_enter Try.func11, Try.ntmps11
  refine wp_seq ?_
  refine wp_region_N [(0, 1)] (by kernel_rfl) ?_
  refine wpS_this [0] rfl (by kernel_rfl) (by simp only [pickL, nthL, List.cons_append, List.nil_append]; rfl) ?_
  repeat (go_big_quiet_step (fail))
  refine wpQuiet_nil ?_
  refine wpS_nil ?_
  refine then_normal ?_
  refine wp_seq ?_
  refine wp_region_N [(0, 3), (1, 3), (2, 3), (3, 1)] (by kernel_rfl) ?_
  refine wpS_makeI (i := 0) (dd := 2) (n := 16) rfl (by rfl) rfl rfl rfl (by omega) HM0.out covS_nil rfl ?_
  rintro zb W4 hm3 -
  have HM5 := Lib.hid hm3
  clear hm3
  simp only [Act.put, List.setIfInBounds_toArray, List.set_cons_succ, List.set_cons_zero]
  refine wpS_buildN elemI (i := 1) (dd := 3) (n := 2) (xs := [0, 1]) (cs := #[.int .i64 0, .int .i64 1]) rfl (by rfl) (fun _ => by kernel_rfl) rfl rfl HM5.out covS_nil rfl ?_
  rintro b8 W9 hm10 -
  have HM11 := Lib.hid hm10
  clear hm10
  simp only [Act.put, List.setIfInBounds_toArray, List.set_cons_succ, List.set_cons_zero]
  refine wpS_doesU2 (i := 2) (d := some 4) (rem := []) rfl (by rfl) rfl Try.call17 (DoesU.ofList (assign_d (listT [_, _]) _ _ (List.replicate 16 0) [0, 1] (rowL 0 rfl (ints_reads List.length_replicate)) (rowL 1 rfl rowOwn) (by decide))) rfl rfl HM11.out [1, 0] rfl covS_nil (fun _ => rfl) rfl ?_
  rintro u14 W13 hm12 -
  rw [awake_is] at hm12
  obtain ⟨lp, lc, rfl⟩ := rd_form (Mem.row hm12 0 rfl rdRow_reads)
  have HM15 := Lib.hid hm12
  clear hm12
  simp only [Act.put, List.setIfInBounds_toArray, List.set_cons_succ, List.set_cons_zero]
  refine wpS_this [3] rfl (by kernel_rfl) (by simp only [pickL, nthL, List.cons_append, List.nil_append]; rfl) ?_
  repeat (go_big_quiet_step (fail))
  refine wpQuiet_nil ?_
  refine wpS_nil ?_
  refine then_normal ?_
  refine wp_seq ?_
  refine wp_region_N [(0, 1), (1, 1), (2, 1), (3, 1), (4, 1), (5, 1), (6, 1), (7, 1), (8, 1), (9, 1), (10, 1), (11, 1), (12, 1), (13, 1), (14, 1), (15, 1), (16, 1), (17, 3), (18, 3), (19, 1), (20, 1), (21, 1)] (by kernel_rfl) ?_
  refine wpS_this [0, 1, 2, 3, 4] rfl (by kernel_rfl) (by simp only [pickL, nthL, List.cons_append, List.nil_append]; rfl) ?_
  repeat (go_big_quiet_step (fail))
  refine wpQuiet_nil ?_
  refine wpS_index (E := elemI) (i := 5) (d := some 10) rfl (by rfl) rfl rfl rfl (HM15.out.row 0 rfl rdRow_reads) (show ([0, 0, 0, 0, 0, 0, 0, 0, 1, 1, 1, 1, 1, 1, 1, 1] : List Int)[7]? = some 0 from rfl) rfl ?_
  intro eb16 eo17 hc18
  simp only [Act.put, List.setIfInBounds_toArray, List.set_cons_succ, List.set_cons_zero]
  refine wpS_load1 (i := 6) (d := some 11) (u := .int .i64 0) rfl (by rfl) rfl rfl (hc18 0 _ rfl) Try.underlying3 rfl rfl ?_
  simp only [Act.put, List.setIfInBounds_toArray, List.set_cons_succ, List.set_cons_zero]
  refine wpS_this [7, 8, 9, 10] rfl (by kernel_rfl) (by simp only [pickL, nthL, List.cons_append, List.nil_append]; rfl) ?_
  repeat (go_big_quiet_step (fail))
  refine wpQuiet_nil ?_
  refine wpS_index (E := elemI) (i := 11) (d := some 16) rfl (by rfl) rfl rfl rfl (HM15.out.row 0 rfl rdRow_reads) (show ([0, 0, 0, 0, 0, 0, 0, 0, 1, 1, 1, 1, 1, 1, 1, 1] : List Int)[8]? = some 1 from rfl) rfl ?_
  intro eb19 eo20 hc21
  simp only [Act.put, List.setIfInBounds_toArray, List.set_cons_succ, List.set_cons_zero]
  refine wpS_load1 (i := 12) (d := some 17) (u := .int .i64 1) rfl (by rfl) rfl rfl (hc21 0 _ rfl) Try.underlying3 rfl rfl ?_
  simp only [Act.put, List.setIfInBounds_toArray, List.set_cons_succ, List.set_cons_zero]
  refine wpS_this [13, 14, 15, 16] rfl (by kernel_rfl) (by simp only [pickL, nthL, List.cons_append, List.nil_append]; rfl) ?_
  repeat (go_big_quiet_step (fail))
  refine wpQuiet_nil ?_
  refine wpS_makeI (i := 17) (dd := 22) (n := 16) rfl (by rfl) rfl rfl rfl (by omega) HM15.out covS_nil rfl ?_
  rintro yb W25 hm24 -
  have HM26 := Lib.hid hm24
  clear hm24
  simp only [Act.put, List.setIfInBounds_toArray, List.set_cons_succ, List.set_cons_zero]
  refine wpS_does2 (i := 18) (d := some 23) (rem := [_, _]) (out := [_, _, _, _]) rfl (by rfl) rfl Try.call19 (Does.ofList (moves_d (listT [_, _]) _ _ [0, 0, 0, 0, 0, 0, 0, 0, 1, 1, 1, 1, 1, 1, 1, 1] (List.replicate 16 0) (rowL 0 rfl rdRow_reads) (rowL 1 rfl (ints_reads List.length_replicate)))) rfl rfl HM26.out [1, 0] rfl covS_nil rfl rfl ?_
  rintro W28 hm27 -
  rw [show movesOf [0, 0, 0, 0, 0, 0, 0, 0, 1, 1, 1, 1, 1, 1, 1, 1] (List.replicate 16 0) = 8 by decide]
  have HM29 := Lib.hid hm27
  clear hm27
  simp only [Act.put, List.setIfInBounds_toArray, List.set_cons_succ, List.set_cons_zero]
  refine wpS_this [19, 20, 21] rfl (by kernel_rfl) (by simp only [pickL, nthL, List.cons_append, List.nil_append]; rfl) ?_
  repeat (go_big_quiet_step (fail))
  refine wpQuiet_nil ?_
  refine wpS_nil ?_
  refine then_normal ?_
  refine wp_ret ?_
  refine bodyPost_ret (results_tmp rfl _ _ _) rfl ?_
  exact does_ret (Mem.only (M := []) HM29.out [] rfl) rfl rfl

end Go.Proofs.Ytagpbmgeikjnjaa
