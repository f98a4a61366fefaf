/- Bags: the laws' helper. -/
import Derived.Test.YtneeidedadlioaaBgA
namespace Go.Proofs.Ytneeidedadlioaa
open Go Go.RowKit Go.BigFrame

/-- A bag's cells, as an element. -/
structure Hb where
  f : Nat → Int
  p : Option Addr
  n : Nat
  c : Nat
def elemB : Elem Try.prog Hb where
  enc x := bgC x.f (.slice x.p x.n x.c)
  k := 9
  pos := by decide
  len _ := rfl
  one x u hu := List.all_eq_true.1 (bgC_one (f := x.f) x.p x.n x.c) u hu
  t := 27
  sl := 65
  under := Try.underlying65
  z := bgV noB.k (.slice none 0 0)
  bytes := 88
  bpos := by decide
  info := by kernel_rfl
  zs := by kernel_rfl
def wgS (m : Int) (x : Vl) : Int := wrap64 (m + wrap64 (1 + wrap64 ((x.2.size : Int) / 100)))
/-- What a row of values weighs, as the program counts it. -/
def wgV (l : List Vl) : Int := l.foldl wgS 0
theorem wgV_step {l : List Vl} {i : Nat} {y : Vl} (h : l[i]? = some y) : wgV (l.take (i + 1)) = wgS (wgV (l.take i)) y := by
  unfold wgV
  rw [List.take_add_one, h, List.foldl_append]
  rfl
def heavyV (l : List Vl) : Int := if 100 < wgV l then 1 else 0
/-- A number, whatever it is. -/
def numT (u : Value) : At := exT fun z : Int => [prT (u = .int .i64 z)]
theorem Mem.num {u : Value} {L : List At} {H0 : Nat → Prop} {w W : World} (h : Mem (numT u :: L) H0 w W) : ∃ z : Int, u = .int .i64 z ∧ Mem L H0 w W := by
  obtain ⟨z, h⟩ := Mem.ex h
  obtain ⟨hu, h⟩ := Mem.pr h
  exact ⟨z, hu, h⟩
theorem Mem.toNum {z : Int} {L : List At} {H0 : Nat → Prop} {w W : World} (h : Mem L H0 w W) : Mem (numT (.int .i64 z) :: L) H0 w W := Mem.addEx z (Mem.addPr rfl h)
set_option maxHeartbeats 4000000 in
set_option maxRecDepth 100000 in
theorem bheavy_d (R : At) (v : Value) (x : Hb) (l : List Vl) (hR : ∀ W H, R.p W H → RowAt elemB W v [x]) (hV : ∀ W H, R.p W H → RowAt elemV W (.slice x.p x.n x.c) l) (hn : x.n = l.length) (hl : l.length ≤ 4398046510976) : Does Try.prog 15 #[v] [R] (.int .i64 (heavyV l)) [R] := by
  intro w H hp
  have HM0 := Lib.hid (mem_refl hp)
  clear hp
  obtain ⟨p, cap, rfl, -⟩ := (HM0.out.row 0 rfl hR).form
  have hyk : ∀ k : Nat, k + 1 ≤ 1 → [x][k]? = some x := fun k hk => by rw [show k = 0 by omega]; rfl
  go_enter Try.func15, Try.ntmps15
  refine wp_seq ?_
  refine wp_region_N [(0, 1)] (by kernel_rfl) ?_
  refine wpS_this [0] rfl (by kernel_rfl) (by simp only [pickL, nthL, List.cons_append, List.nil_append]; rfl) ?_
  repeat (go_big_quiet_step (fail))
  refine wpQuiet_nil ?_
  refine wpS_nil ?_
  refine then_normal ?_
  refine wp_seq ?_
  refine wp_seq ?_
  refine wp_region_N [(0, 1), (1, 1), (2, 1)] (by kernel_rfl) ?_
  refine wpS_this [0, 1, 2] rfl (by kernel_rfl) (by simp only [pickL, nthL, List.cons_append, List.nil_append]; rfl) ?_
  repeat (go_big_quiet_step (fail))
  refine wpQuiet_nil ?_
  refine wpS_nil ?_
  refine then_normal ?_
  refine wp_block ?_
  refine wp_loop_F [2, 3, 4, 5, 7, 10, 11, 12, 13, 14, 15, 16, 17, 18, 19, 20, 21, 22, 23, 24, 25, 26, 27, 28, 29, 30, 31, 32, 33, 34] (fun n vs W' => ∃ k : Nat, n = 1 - k ∧ vs 10 = .int .i64 (k : Int) ∧ k ≤ 1 ∧ (k = 0 ∨ ¬ 100 < wgV l) ∧ Mem [R] H w W') (n0 := 1) ?_ ?_
  · exact ⟨0, rfl, rfl, Nat.zero_le _, .inl rfl, (Mem.only (M := [_]) HM0.out [0] rfl)⟩
  rintro n vs W' ⟨k, rfl, e10, hk, hf', hm⟩
  simp only [putAll, List.map_cons, List.map_nil, Act.put, List.setIfInBounds_toArray, List.set_cons_succ, List.set_cons_zero]
  rw [e10]
  clear e10
  have hf := Lib.hid hf'
  clear hf'
  have HM1 := Lib.hid hm
  clear hm
  refine wp_seq ?_
  refine wp_region_N [(0, 1)] (by kernel_rfl) ?_
  refine wpS_this [0] rfl (by kernel_rfl) (by simp only [pickL, nthL, List.cons_append, List.nil_append]; rfl) ?_
  repeat (go_big_quiet_step (fail))
  refine wpQuiet_nil ?_
  refine wpS_nil ?_
  refine then_normal ?_
  refine wp_seq ?_
  refine wp_cond_split rfl (fun h2 => ?_) (fun h2 => ?_)
  · have hk1 : k + 1 ≤ 1 := by have : (k : Int) < 1 := (by simpa using h2); omega
    clear h2
    refine wp_skip ?_
    refine then_normal ?_
    refine wp_seq ?_
    refine wp_block ?_
    refine wp_seq ?_
    refine wp_region_N [(0, 1), (1, 1), (2, 1), (3, 3), (4, 1), (5, 3)] (by kernel_rfl) ?_
    refine wpS_this [0] rfl (by kernel_rfl) (by simp only [pickL, nthL, List.cons_append, List.nil_append]; rfl) ?_
    repeat (go_big_quiet_step (fail))
    refine wpQuiet_nil ?_
    refine wpS_index (E := elemB) (i := 1) (d := some 13) rfl (by rfl) rfl rfl rfl (HM1.out.row 0 rfl hR) ((hyk k hk1)) rfl ?_
    intro eb3 eo4 hc5
    simp only [Act.put, List.setIfInBounds_toArray, List.set_cons_succ, List.set_cons_zero]
    refine wpS_loadA (i := 2) (d := some 14) (cells := bgC x.f (.slice x.p x.n x.c)) rfl (by rfl) rfl rfl hc5 Try.underlying27 rfl (by kernel_rfl) rfl ?_
    simp only [Act.put, List.setIfInBounds_toArray, List.set_cons_succ, List.set_cons_zero]
    refine wpS_alloc (i := 3) (dd := 4) (z := bgV noB.k (.slice none 0 0)) (cs := (bgC noB.k (.slice none 0 0)).toArray) rfl (by rfl) rfl (by kernel_rfl) rfl HM1.out covS_nil rfl ?_
    rintro b8 W7 hm6 -
    have HM9 := Lib.hid hm6
    clear hm6
    simp only [Act.put, List.setIfInBounds_toArray, List.set_cons_succ, List.set_cons_zero]
    refine wpS_this [4] rfl (by kernel_rfl) (by simp only [pickL, nthL, List.cons_append, List.nil_append]; rfl) ?_
    repeat (go_big_quiet_step (fail))
    refine wpQuiet_nil ?_
    refine wpS_storeA (i := 5) (L2 := [_]) (cs' := bgC (x.f) (.slice x.p x.n x.c)) rfl (by rfl) rfl rfl rfl (by kernel_rfl) (bgC_one _ _ _) HM9.out 0 rfl rfl (by kernel_rfl) (by kernel_rfl) covS_nil rfl ?_
    rintro W11 hm10 -
    have HM12 := Lib.hid hm10
    clear hm10
    refine wpS_nil ?_
    refine then_normal ?_
    refine wp_seq ?_
    refine wp_region_N [(0, 1)] (by kernel_rfl) ?_
    refine wpS_this [0] rfl (by kernel_rfl) (by simp only [pickL, nthL, List.cons_append, List.nil_append]; rfl) ?_
    repeat (go_big_quiet_step (fail))
    refine wpQuiet_nil ?_
    refine wpS_nil ?_
    refine then_normal ?_
    refine wp_seq ?_
    refine wp_seq ?_
    have hxn : x.n = l.length := hn
    refine wp_region_N [(0, 1), (1, 1), (2, 1), (3, 1)] (by kernel_rfl) ?_
    refine wpS_this [0] rfl (by kernel_rfl) (by simp only [pickL, nthL, List.cons_append, List.nil_append]; rfl) ?_
    repeat (go_big_quiet_step (fail))
    refine wpQuiet_nil ?_
    refine wpS_load1 (i := 1) (d := some 16) (u := .slice x.p x.n x.c) rfl (by rfl) rfl rfl (HM12.out.part1 0 rfl bgC_sl) Try.underlying25 rfl rfl ?_
    simp only [Act.put, List.setIfInBounds_toArray, List.set_cons_succ, List.set_cons_zero]
    refine wpS_this [2, 3] rfl (by kernel_rfl) (by simp only [pickL, nthL, List.cons_append, List.nil_append]; rfl) ?_
    repeat (go_big_quiet_step (fail))
    refine wpQuiet_nil ?_
    refine wpS_nil ?_
    refine then_normal ?_
    refine wp_block ?_
    refine wp_loop_F [5, 7, 18, 19, 20, 21, 22, 23, 24, 25, 26, 27, 28, 29] (fun n ws W' => ∃ i : Nat, n = l.length - i ∧ ws 18 = .int .i64 (i : Int) ∧ ws 5 = .int .i64 (wgV (l.take i)) ∧ i ≤ l.length ∧ Mem [boxT b8 (.cells (bgC x.f (.slice x.p x.n x.c)).toArray 27 (0, 0)), R] H w W') (n0 := l.length) ?_ ?_
    · exact ⟨0, rfl, rfl, rfl, Nat.zero_le _, (Mem.only (M := [_, _]) HM12.out [0, 0] rfl)⟩
    rintro n ws W' ⟨i, rfl, e18, e5, hi, hm2⟩
    simp only [putAll, List.map_cons, List.map_nil, Act.put, List.setIfInBounds_toArray, List.set_cons_succ, List.set_cons_zero]
    rw [e18, e5]
    clear e18 e5
    obtain ⟨m, hmw'⟩ := int_letter (wgV (l.take i))
    rw [hmw']
    have hmw := Lib.hid hmw'
    clear hmw'
    have HM13 := Lib.hid hm2
    clear hm2
    refine wp_seq ?_
    refine wp_region_N [(0, 1)] (by kernel_rfl) ?_
    refine wpS_this [0] rfl (by kernel_rfl) (by simp only [pickL, nthL, List.cons_append, List.nil_append]; rfl) ?_
    repeat (go_big_quiet_step (fail))
    refine wpQuiet_nil ?_
    refine wpS_nil ?_
    refine then_normal ?_
    refine wp_seq ?_
    refine wp_cond_split rfl (fun h14 => ?_) (fun h14 => ?_)
    · have hi1 : i + 1 ≤ l.length := by have : (i : Int) < ((l.length : Nat) : Int) := (by simpa using h14); omega
      clear h14
      obtain ⟨y, hy'⟩ : ∃ y, l[i]? = some y := ⟨_, List.getElem?_eq_getElem (hi1)⟩
      have hy := Lib.hid hy'
      clear hy'
      refine wp_skip ?_
      refine then_normal ?_
      refine wp_seq ?_
      refine wp_block ?_
      refine wp_seq ?_
      refine wp_region_N [(0, 1), (1, 1), (2, 3), (3, 3)] (by kernel_rfl) ?_
      refine wpS_index (E := elemV) (i := 0) (d := some 20) rfl (by rfl) rfl rfl rfl (HM13.out.row 1 rfl hV) (hy.out) rfl ?_
      intro eb15 eo16 hc17
      simp only [Act.put, List.setIfInBounds_toArray, List.set_cons_succ, List.set_cons_zero]
      refine wpS_loadA (i := 1) (d := some 21) (cells := [.int .i64 y.1.1, .int .i64 y.1.2, .string y.2]) rfl (by rfl) rfl rfl hc17 Try.underlying41 rfl (by kernel_rfl) rfl ?_
      simp only [Act.put, List.setIfInBounds_toArray, List.set_cons_succ, List.set_cons_zero]
      refine wpS_alloc (i := 2) (dd := 7) (z := .agg #[.int .i64 0, .int .i64 0, .string ByteArray.empty]) (cs := #[.int .i64 0, .int .i64 0, .string ByteArray.empty]) rfl (by rfl) rfl (by kernel_rfl) rfl HM13.out covS_nil rfl ?_
      rintro b20 W19 hm18 -
      have HM21 := Lib.hid hm18
      clear hm18
      simp only [Act.put, List.setIfInBounds_toArray, List.set_cons_succ, List.set_cons_zero]
      refine wpS_storeA (i := 3) (L2 := [_, _]) (cs' := [.int .i64 y.1.1, .int .i64 y.1.2, .string y.2]) rfl (by rfl) rfl rfl rfl (by kernel_rfl) (by rfl) HM21.out 0 rfl rfl rfl rfl covS_nil rfl ?_
      rintro W23 hm22 -
      have HM24 := Lib.hid hm22
      clear hm22
      refine wpS_nil ?_
      refine then_normal ?_
      refine wp_region_N [(0, 1), (1, 1), (2, 1), (3, 1), (4, 1), (5, 1), (6, 1), (7, 1)] (by kernel_rfl) ?_
      have Cb7 := Mem.cell HM24.out 0 rfl
      refine wpS_this [0, 1, 2, 3, 4, 5, 6, 7] rfl (by kernel_rfl) (by simp only [pickL, nthL, List.cons_append, List.nil_append]; rfl) ?_
      repeat (go_big_quiet_step (fail))
      refine wpQuiet_nil ?_
      clear Cb7
      refine wpS_nil ?_
      refine block_normal ?_
      refine then_normal ?_
      refine wp_region_N [(0, 1), (1, 1)] (by kernel_rfl) ?_
      refine wpS_this [0, 1] rfl (by kernel_rfl) (by simp only [pickL, nthL, List.cons_append, List.nil_append]; rfl) ?_
      repeat (go_big_quiet_step (fail))
      refine wpQuiet_nil ?_
      refine wpS_nil ?_
      refine then_normal ?_
      refine ⟨by kernel_rfl, ?_⟩
      refine ⟨l.length - (i + 1), by omega, i + 1, rfl, rfl, ?_, hi1, (Mem.only (M := [_, _]) HM24.out [1, 1] rfl)⟩
      rw [wgV_step hy.out, hmw.out]
      rfl
    · have hgi : Hid (l.length ≤ i) := Lib.hid (by have : ¬ (i : Int) < ((l.length : Nat) : Int) := (by simpa using h14); omega)
      clear h14
      refine wp_exit ?_
      refine then_exit (then_exit (block_exit ?_))
      refine then_normal ?_
      refine wp_seq ?_
      have hwm : wgV l = m := by rw [← hmw.out, List.take_of_length_le hgi.out]
      by_cases h1 : 100 < m
      · have g1 := decide_eq_true h1
        have hcz : Hid (heavyV l = (k : Int) + 1) := Lib.hid (by rw [show k = 0 by omega]; exact if_pos (by rw [hwm]; exact h1))
        replace h1 := Lib.hid h1
        clear hwm
        refine wp_region_N [(0, 1), (1, 1)] (by kernel_rfl) ?_
        refine wpS_this [0, 1] rfl (by kernel_rfl) (by simp only [pickL, nthL, List.cons_append, List.nil_append]; rfl) ?_
        repeat (go_big_quiet_step (fail))
        refine wpQuiet_nil ?_
        refine wpS_nil ?_
        refine then_normal ?_
        refine wp_cond_true rfl ?_
        refine wp_seq ?_
        refine wp_region_N [(0, 1), (1, 1), (2, 1)] (by kernel_rfl) ?_
        refine wpS_this [0, 1, 2] rfl (by kernel_rfl) (by simp only [pickL, nthL, List.cons_append, List.nil_append]; rfl) ?_
        repeat (go_big_quiet_step (fail))
        refine wpQuiet_nil ?_
        refine wpS_nil ?_
        refine then_normal ?_
        refine wp_ret ?_
        refine block_ret (then_ret (then_ret (block_ret (then_ret ?_))))
        refine bodyPost_ret (results_tmp rfl _ _ _) rfl ?_
        rw [hcz.out]
        exact does_ret (Mem.only (M := [_]) HM13.out [1] rfl) rfl rfl
      · have g1 := decide_eq_false h1
        have hlw : Hid (¬ 100 < wgV l) := Lib.hid (by rw [hwm]; exact h1)
        replace h1 := Lib.hid h1
        clear hwm
        refine wp_region_N [(0, 1), (1, 1)] (by kernel_rfl) ?_
        refine wpS_this [0, 1] rfl (by kernel_rfl) (by simp only [pickL, nthL, List.cons_append, List.nil_append]; rfl) ?_
        repeat (go_big_quiet_step (fail))
        refine wpQuiet_nil ?_
        refine wpS_nil ?_
        refine then_normal ?_
        refine wp_cond_false rfl ?_
        refine wp_skip ?_
        refine block_normal ?_
        refine then_normal ?_
        refine wp_region_N [(0, 1), (1, 1)] (by kernel_rfl) ?_
        refine wpS_this [0, 1] rfl (by kernel_rfl) (by simp only [pickL, nthL, List.cons_append, List.nil_append]; rfl) ?_
        repeat (go_big_quiet_step (fail))
        refine wpQuiet_nil ?_
        refine wpS_nil ?_
        refine then_normal ?_
        refine ⟨by kernel_rfl, ?_⟩
        refine ⟨1 - (k + 1), by omega, k + 1, rfl, rfl, hk1, .inr hlw.out, (Mem.only (M := [_]) HM13.out [1] rfl)⟩
  · have hgk : Hid (1 ≤ k) := Lib.hid (by have : ¬ (k : Int) < 1 := (by simpa using h2); omega)
    clear h2
    refine wp_exit ?_
    refine then_exit (then_exit (block_exit ?_))
    refine then_normal ?_
    refine wp_seq ?_
    refine wp_region_N [(0, 1)] (by kernel_rfl) ?_
    refine wpS_this [0] rfl (by kernel_rfl) (by simp only [pickL, nthL, List.cons_append, List.nil_append]; rfl) ?_
    repeat (go_big_quiet_step (fail))
    refine wpQuiet_nil ?_
    refine wpS_nil ?_
    refine then_normal ?_
    refine wp_ret ?_
    refine bodyPost_ret (results_tmp rfl _ _ _) rfl ?_
    rw [show heavyV l = 0 from if_neg (by rcases hf.out with h0 | h0; · exact absurd hgk.out (by omega)
                                          · exact h0)]
    exact does_ret (Mem.only (M := [_]) HM1.out [0] rfl) rfl rfl

end Go.Proofs.Ytneeidedadlioaa
