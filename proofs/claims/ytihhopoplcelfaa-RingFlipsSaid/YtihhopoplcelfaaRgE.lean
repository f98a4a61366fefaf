/- Rings: the laws' helpers. -/
import Derived.Test.YtihhopoplcelfaaRgD
import Derived.Test.YtihhopoplcelfaaRgL
namespace Go.Proofs.Ytihhopoplcelfaa
open Go Go.RowKit Go.BigFrame

/-- A ring's cells, as an element. -/
structure Hc where
  r : Rg
  p : Option Addr
  n : Nat
  c : Nat
def elemR : Elem Try.prog Hc where
  enc x := rgC x.r (.slice x.p x.n x.c)
  k := 43
  pos := by decide
  len _ := rfl
  one x u hu := List.all_eq_true.1 (rgC_one (r := x.r) x.p x.n x.c) u hu
  t := 30
  sl := 49
  under := Try.underlying49
  z := rgV noR (.slice none 0 0)
  bytes := 360
  bpos := by decide
  info := by kernel_rfl
  zs := by kernel_rfl
def hvy : Nat → List Hc → Int
  | _, [] => 0
  | i, x :: l => if x.n ≤ 100 then hvy (i + 1) l else (i : Int) + 1
theorem hvy_end {l : List Hc} {k : Nat} (h : l.length ≤ k) : hvy k (l.drop k) = 0 := by
  rw [List.drop_eq_nil_of_le h]
  rfl
theorem hvy_step {l : List Hc} {k : Nat} {y : Hc} (h : l[k]? = some y) (hy : y.n ≤ 100) : hvy k (l.drop k) = hvy (k + 1) (l.drop (k + 1)) := by
  have h1 := (List.getElem?_eq_some_iff.1 h).1
  have h2 := (List.getElem?_eq_some_iff.1 h).2
  rw [List.drop_eq_getElem_cons h1, h2]
  exact if_pos hy
theorem hvy_stop {l : List Hc} {k : Nat} {y : Hc} (h : l[k]? = some y) (hy : ¬ y.n ≤ 100) : hvy k (l.drop k) = (k : Int) + 1 := by
  have h1 := (List.getElem?_eq_some_iff.1 h).1
  have h2 := (List.getElem?_eq_some_iff.1 h).2
  rw [List.drop_eq_getElem_cons h1, h2]
  exact if_neg hy
theorem rowOwnE {α : Type} {E : Elem Try.prog α} {v : Value} {xs : List α} : ∀ W H, (rowT E v xs).p W H → RowAt E W v xs := fun W H h => rowAt_src (rowT_reads W H h)
theorem hvy1 (x : Hc) : (x.n ≤ 100 ∧ hvy 0 [x] = 0) ∨ (¬ x.n ≤ 100 ∧ 0 < hvy 0 [x]) := by
  by_cases h : x.n ≤ 100
  · exact .inl ⟨h, by simp [hvy, h]⟩
  · exact .inr ⟨h, by simp [hvy, h]⟩
theorem hvy3 (x y z : Hc) : ((x.n ≤ 100 ∧ y.n ≤ 100 ∧ z.n ≤ 100) ∧ hvy 0 [x, y, z] = 0) ∨ (¬ (x.n ≤ 100 ∧ y.n ≤ 100 ∧ z.n ≤ 100) ∧ 0 < hvy 0 [x, y, z]) := by
  by_cases h : x.n ≤ 100
  · by_cases h2 : y.n ≤ 100
    · by_cases h3 : z.n ≤ 100
      · exact .inl ⟨⟨h, h2, h3⟩, by simp [hvy, h, h2, h3]⟩
      · exact .inr ⟨fun q => h3 q.2.2, by simp [hvy, h, h2, h3]⟩
    · exact .inr ⟨fun q => h2 q.2.1, by simp [hvy, h, h2]⟩
  · exact .inr ⟨fun q => h q.1, by simp [hvy, h]⟩
theorem ring_letter (p : Rg) : ∃ x, p = x := ⟨p, rfl⟩
theorem ringE_letters {β : Type} (p : Rg × β) : ∃ x e, p = (x, e) := ⟨p.1, p.2, rfl⟩
set_option maxHeartbeats 4000000 in
set_option maxRecDepth 100000 in
theorem heavy_d (R : At) (v : Value) (l : List Hc) (hR : ∀ W H, R.p W H → RowAt elemR W v l) (hll : l.length ≤ 1000) : Does Try.prog 8 #[v] [R] (.int .i64 (hvy 0 l)) [R] := by
  intro w H hp
  have HM0 := Lib.hid (mem_refl hp)
  clear hp
  obtain ⟨p, cap, rfl, -⟩ := (HM0.out.row 0 rfl hR).form
  go_enter Try.func8, Try.ntmps8
  refine wp_seq ?_
  refine wp_region_N [(0, 1)] (by kernel_rfl) ?_
  refine wpS_this [0] rfl (by kernel_rfl) (by simp only [pickL, nthL, List.cons_append, List.nil_append]; rfl) ?_
  repeat (go_big_quiet_step (fail))
  refine wpQuiet_nil ?_
  refine wpS_nil ?_
  refine then_normal ?_
  refine wp_seq ?_
  refine wp_seq ?_
  refine wp_region_N [(0, 1), (1, 1), (2, 1)] (by kernel_rfl) ?_
  refine wpS_this [0, 1, 2] rfl (by kernel_rfl) (by simp only [pickL, nthL, List.cons_append, List.nil_append]; rfl) ?_
  repeat (go_big_quiet_step (fail))
  refine wpQuiet_nil ?_
  refine wpS_nil ?_
  refine then_normal ?_
  refine wp_block ?_
  refine wp_loop_F [2, 3, 4, 7, 8, 9, 10, 11, 12, 13, 14, 15, 16, 17, 18, 19] (fun n vs W' => ∃ k : Nat, n = l.length - k ∧ vs 7 = .int .i64 (k : Int) ∧ k ≤ l.length ∧ hvy k (l.drop k) = hvy 0 l ∧ Mem [R] H w W') (n0 := l.length) ?_ ?_
  · exact ⟨0, rfl, rfl, Nat.zero_le _, rfl, (Mem.only (M := [_]) HM0.out [0] rfl)⟩
  rintro n vs W' ⟨k, rfl, e7, hk, hf, hm⟩
  simp only [putAll, List.map_cons, List.map_nil, Act.put, List.setIfInBounds_toArray, List.set_cons_succ, List.set_cons_zero]
  rw [e7]
  clear e7
  have hf := Lib.hid hf
  have HM1 := Lib.hid hm
  clear hm
  refine wp_seq ?_
  refine wp_region_N [(0, 1)] (by kernel_rfl) ?_
  refine wpS_this [0] rfl (by kernel_rfl) (by simp only [pickL, nthL, List.cons_append, List.nil_append]; rfl) ?_
  repeat (go_big_quiet_step (fail))
  refine wpQuiet_nil ?_
  refine wpS_nil ?_
  refine then_normal ?_
  refine wp_seq ?_
  refine wp_cond_split rfl (fun h2 => ?_) (fun h2 => ?_)
  · have hk1 : k + 1 ≤ l.length := by have : (k : Int) < ((l.length : Nat) : Int) := (by simpa using h2); omega
    clear h2
    obtain ⟨y, hy'⟩ : ∃ y, l[k]? = some y := ⟨_, List.getElem?_eq_getElem (hk1)⟩
    have hy := Lib.hid hy'
    clear hy'
    refine wp_skip ?_
    refine then_normal ?_
    refine wp_seq ?_
    refine wp_block ?_
    refine wp_seq ?_
    refine wp_region_N [(0, 1), (1, 1), (2, 1), (3, 3), (4, 1), (5, 3)] (by kernel_rfl) ?_
    refine wpS_this [0] rfl (by kernel_rfl) (by simp only [pickL, nthL, List.cons_append, List.nil_append]; rfl) ?_
    repeat (go_big_quiet_step (fail))
    refine wpQuiet_nil ?_
    refine wpS_index (E := elemR) (i := 1) (d := some 10) rfl (by rfl) rfl rfl rfl (HM1.out.row 0 rfl hR) (hy.out) rfl ?_
    intro eb3 eo4 hc5
    simp only [Act.put, List.setIfInBounds_toArray, List.set_cons_succ, List.set_cons_zero]
    refine wpS_loadA (i := 2) (d := some 11) (cells := rgC y.r (.slice y.p y.n y.c)) rfl (by rfl) rfl rfl hc5 Try.underlying30 rfl (by kernel_rfl) rfl ?_
    simp only [Act.put, List.setIfInBounds_toArray, List.set_cons_succ, List.set_cons_zero]
    refine wpS_alloc (i := 3) (dd := 4) (z := rgV noR (.slice none 0 0)) (cs := (rgC noR (.slice none 0 0)).toArray) rfl (by rfl) rfl (by kernel_rfl) rfl HM1.out covS_nil rfl ?_
    rintro b8 W7 hm6 -
    have HM9 := Lib.hid hm6
    clear hm6
    simp only [Act.put, List.setIfInBounds_toArray, List.set_cons_succ, List.set_cons_zero]
    refine wpS_this [4] rfl (by kernel_rfl) (by simp only [pickL, nthL, List.cons_append, List.nil_append]; rfl) ?_
    repeat (go_big_quiet_step (fail))
    refine wpQuiet_nil ?_
    refine wpS_storeA (i := 5) (L2 := [_]) (cs' := rgC (y.r) (.slice y.p y.n y.c)) rfl (by rfl) rfl rfl rfl (by kernel_rfl) (rgC_one _ _ _) HM9.out 0 rfl rfl (by kernel_rfl) (by kernel_rfl) covS_nil rfl ?_
    rintro W11 hm10 -
    have HM12 := Lib.hid hm10
    clear hm10
    refine wpS_nil ?_
    refine then_normal ?_
    refine wp_seq ?_
    by_cases hy1 : y.n ≤ 100
    · have g1 : decide (100 < y.n) = false := decide_eq_false (by omega)
      have g1' : decide ((100 : Int) < (y.n : Int)) = false := decide_eq_false (by omega)
      replace hy1 := Lib.hid hy1
      refine wp_region_N [(0, 1), (1, 1), (2, 1), (3, 1), (4, 1)] (by kernel_rfl) ?_
      refine wpS_this [0, 1] rfl (by kernel_rfl) (by simp only [pickL, nthL, List.cons_append, List.nil_append]; rfl) ?_
      repeat (go_big_quiet_step (fail))
      refine wpQuiet_nil ?_
      refine wpS_load1 (i := 2) (d := some 14) (u := .slice y.p y.n y.c) rfl (by rfl) rfl rfl (HM12.out.sub1 0 rfl (rgC_pl 2 _ rfl)) Try.underlying23 rfl rfl ?_
      simp only [Act.put, List.setIfInBounds_toArray, List.set_cons_succ, List.set_cons_zero]
      refine wpS_this [3, 4] rfl (by kernel_rfl) (by simp only [pickL, nthL, List.cons_append, List.nil_append]; rfl) ?_
      repeat (go_big_quiet_step (fail))
      refine wpQuiet_nil ?_
      refine wpS_nil ?_
      refine then_normal ?_
      refine wp_cond_false rfl ?_
      refine wp_skip ?_
      refine block_normal ?_
      refine then_normal ?_
      refine wp_region_N [(0, 1), (1, 1)] (by kernel_rfl) ?_
      refine wpS_this [0, 1] rfl (by kernel_rfl) (by simp only [pickL, nthL, List.cons_append, List.nil_append]; rfl) ?_
      repeat (go_big_quiet_step (fail))
      refine wpQuiet_nil ?_
      refine wpS_nil ?_
      refine then_normal ?_
      refine ⟨by kernel_rfl, ?_⟩
      refine ⟨l.length - (k + 1), by omega, k + 1, rfl, rfl, hk1, ?_, (Mem.only (M := [_]) HM12.out [1] rfl)⟩
      rw [← hf.out, hvy_step hy.out hy1.out]
    · have g1 : decide (100 < y.n) = true := decide_eq_true (by omega)
      have g1' : decide ((100 : Int) < (y.n : Int)) = true := decide_eq_true (by omega)
      replace hy1 := Lib.hid hy1
      refine wp_region_N [(0, 1), (1, 1), (2, 1), (3, 1), (4, 1)] (by kernel_rfl) ?_
      refine wpS_this [0, 1] rfl (by kernel_rfl) (by simp only [pickL, nthL, List.cons_append, List.nil_append]; rfl) ?_
      repeat (go_big_quiet_step (fail))
      refine wpQuiet_nil ?_
      refine wpS_load1 (i := 2) (d := some 14) (u := .slice y.p y.n y.c) rfl (by rfl) rfl rfl (HM12.out.sub1 0 rfl (rgC_pl 2 _ rfl)) Try.underlying23 rfl rfl ?_
      simp only [Act.put, List.setIfInBounds_toArray, List.set_cons_succ, List.set_cons_zero]
      refine wpS_this [3, 4] rfl (by kernel_rfl) (by simp only [pickL, nthL, List.cons_append, List.nil_append]; rfl) ?_
      repeat (go_big_quiet_step (fail))
      refine wpQuiet_nil ?_
      refine wpS_nil ?_
      refine then_normal ?_
      refine wp_cond_true rfl ?_
      refine wp_seq ?_
      refine wp_region_N [(0, 1), (1, 1), (2, 1)] (by kernel_rfl) ?_
      refine wpS_this [0, 1, 2] rfl (by kernel_rfl) (by simp only [pickL, nthL, List.cons_append, List.nil_append]; rfl) ?_
      repeat (go_big_quiet_step (fail))
      refine wpQuiet_nil ?_
      refine wpS_nil ?_
      refine then_normal ?_
      refine wp_ret ?_
      refine block_ret (then_ret (then_ret (block_ret (then_ret ?_))))
      refine bodyPost_ret (results_tmp rfl _ _ _) rfl ?_
      have hc : hvy 0 l = (k : Int) + 1 := by rw [← hf.out, hvy_stop hy.out hy1.out]
      rw [hc]
      exact does_ret (Mem.only (M := [_]) HM12.out [1] rfl) rfl rfl
  · have hge : Hid (l.length ≤ k) := Lib.hid (by have : ¬ (k : Int) < ((l.length : Nat) : Int) := (by simpa using h2); omega)
    clear h2
    refine wp_exit ?_
    refine then_exit (then_exit (block_exit ?_))
    refine then_normal ?_
    refine wp_seq ?_
    refine wp_region_N [(0, 1)] (by kernel_rfl) ?_
    refine wpS_this [0] rfl (by kernel_rfl) (by simp only [pickL, nthL, List.cons_append, List.nil_append]; rfl) ?_
    repeat (go_big_quiet_step (fail))
    refine wpQuiet_nil ?_
    refine wpS_nil ?_
    refine then_normal ?_
    refine wp_ret ?_
    refine bodyPost_ret (results_tmp rfl _ _ _) rfl ?_
    have hc : hvy 0 l = 0 := by rw [← hf.out, hvy_end hge.out]
    rw [hc]
    exact does_ret (Mem.only (M := [_]) HM1.out [0] rfl) rfl rfl

set_option maxHeartbeats 4000000 in
set_option maxRecDepth 100000 in
theorem gawake_d  : Does Try.prog 9 #[] [] (.bool true) [] := by
  intro w H hp
  have HM0 := Lib.hid (mem_refl hp)
  clear hp
  go_enter Try.func9, Try.ntmps9
  refine wp_seq ?_
  refine wp_region_N [(0, 1)] (by kernel_rfl) ?_
  refine wpS_this [0] rfl (by kernel_rfl) (by simp only [pickL, nthL, List.cons_append, List.nil_append]; rfl) ?_
  repeat (go_big_quiet_step (fail))
  refine wpQuiet_nil ?_
  refine wpS_nil ?_
  refine then_normal ?_
  refine wp_seq ?_
  refine wp_region_N [(0, 3), (1, 1), (2, 1), (3, 1), (4, 3), (5, 3), (6, 1)] (by kernel_rfl) ?_
  refine wpS_doesU1 (i := 0) (d := some 6) (rem := []) rfl (by rfl) rfl Try.call16 (gfirst_d 3 (oneR 3) true rfl) rfl HM0.out [] rfl covS_nil (fun _ => rfl) rfl ?_
  rintro u3 W2 hm1 -
  obtain ⟨px, cx, rfl, hm1q⟩ := Mem.ringE (n := 0) rfl hm1
  clear hm1
  have HM4 := Lib.hid hm1q
  clear hm1q
  simp only [Act.put, List.setIfInBounds_toArray, List.set_cons_succ, List.set_cons_zero]
  refine wpS_this [1, 2, 3] rfl (by kernel_rfl) (by simp only [pickL, nthL, List.cons_append, List.nil_append]; rfl) ?_
  repeat (go_big_quiet_step (fail))
  refine wpQuiet_nil ?_
  refine wpS_alloc (i := 4) (dd := 1) (z := rgV noR (.slice none 0 0)) (cs := (rgC noR (.slice none 0 0)).toArray) rfl (by rfl) rfl (by kernel_rfl) rfl HM4.out covS_nil rfl ?_
  rintro b7 W6 hm5 -
  have HM8 := Lib.hid hm5
  clear hm5
  simp only [Act.put, List.setIfInBounds_toArray, List.set_cons_succ, List.set_cons_zero]
  refine wpS_storeA (i := 5) (L2 := [_]) (cs' := rgC ((oneR 3)) (.slice px 0 cx)) rfl (by rfl) rfl rfl rfl (by kernel_rfl) (rgC_one _ _ _) HM8.out 0 rfl rfl (by kernel_rfl) (by kernel_rfl) covS_nil rfl ?_
  rintro W10 hm9 -
  have HM11 := Lib.hid hm9
  clear hm9
  refine wpS_this [6] rfl (by kernel_rfl) (by simp only [pickL, nthL, List.cons_append, List.nil_append]; rfl) ?_
  repeat (go_big_quiet_step (fail))
  refine wpQuiet_nil ?_
  refine wpS_nil ?_
  refine then_normal ?_
  refine wp_seq ?_
  refine wp_region_N [(0, 1), (1, 3), (2, 1), (3, 1), (4, 1), (5, 3), (6, 3), (7, 1)] (by kernel_rfl) ?_
  refine wpS_loadA (i := 0) (d := some 10) (cells := rgC ((oneR 3)) (.slice px 0 cx)) rfl (by rfl) rfl rfl (HM11.out.sub 0 rfl (fun k u h => by rw [Nat.zero_add]; exact h)) Try.underlying30 rfl (by kernel_rfl) rfl ?_
  simp only [Act.put, List.setIfInBounds_toArray, List.set_cons_succ, List.set_cons_zero]
  refine wpS_doesU3 (i := 1) (d := some 11) (rem := [_]) rfl (by rfl) rfl Try.call15 (grise_d (rowT elemI _ _) _ (oneR 3) rowT_reads (Nat.zero_le _) 4 1 ⟨upd (oneR 3).s 4 1, (0, 0, []), (oneR 3).e⟩ 0 (riseR_yes (by decide +kernel) (by decide) (by decide) (by decide +kernel))) rfl rfl rfl HM11.out [1] rfl covS_nil (fun _ => rfl) rfl ?_
  rintro u14 W13 hm12 -
  obtain ⟨py, cy, rfl, hm12q⟩ := Mem.ringE (n := 0) rfl hm12
  clear hm12
  have HM15 := Lib.hid hm12q
  clear hm12q
  simp only [Act.put, List.setIfInBounds_toArray, List.set_cons_succ, List.set_cons_zero]
  refine wpS_this [2, 3, 4] rfl (by kernel_rfl) (by simp only [pickL, nthL, List.cons_append, List.nil_append]; rfl) ?_
  repeat (go_big_quiet_step (fail))
  refine wpQuiet_nil ?_
  refine wpS_alloc (i := 5) (dd := 3) (z := rgV noR (.slice none 0 0)) (cs := (rgC noR (.slice none 0 0)).toArray) rfl (by rfl) rfl (by kernel_rfl) rfl HM15.out covS_nil rfl ?_
  rintro b18 W17 hm16 -
  have HM19 := Lib.hid hm16
  clear hm16
  simp only [Act.put, List.setIfInBounds_toArray, List.set_cons_succ, List.set_cons_zero]
  refine wpS_storeA (i := 6) (L2 := [_, _, _]) (cs' := rgC (⟨upd (oneR 3).s 4 1, (0, 0, []), (oneR 3).e⟩) (.slice py 0 cy)) rfl (by rfl) rfl rfl rfl (by kernel_rfl) (rgC_one _ _ _) HM19.out 0 rfl rfl (by kernel_rfl) (by kernel_rfl) covS_nil rfl ?_
  rintro W21 hm20 -
  have HM22 := Lib.hid hm20
  clear hm20
  refine wpS_this [7] rfl (by kernel_rfl) (by simp only [pickL, nthL, List.cons_append, List.nil_append]; rfl) ?_
  repeat (go_big_quiet_step (fail))
  refine wpQuiet_nil ?_
  refine wpS_nil ?_
  refine then_normal ?_
  refine wp_seq ?_
  refine wp_region_N [(0, 1), (1, 1), (2, 1), (3, 3), (4, 1), (5, 1), (6, 1), (7, 1), (8, 3), (9, 1), (10, 1), (11, 1), (12, 1), (13, 1), (14, 1), (15, 1), (16, 1), (17, 1), (18, 1), (19, 1), (20, 1), (21, 1), (22, 1), (23, 1), (24, 3), (25, 1), (26, 1)] (by kernel_rfl) ?_
  refine wpS_this [0, 1] rfl (by kernel_rfl) (by simp only [pickL, nthL, List.cons_append, List.nil_append]; rfl) ?_
  repeat (go_big_quiet_step (fail))
  refine wpQuiet_nil ?_
  refine wpS_loadA (i := 2) (d := some 16) (cells := rgC ((oneR 3)) (.slice px 0 cx)) rfl (by rfl) rfl rfl (HM22.out.sub 3 rfl (fun k u h => by rw [Nat.zero_add]; exact h)) Try.underlying30 rfl (by kernel_rfl) rfl ?_
  simp only [Act.put, List.setIfInBounds_toArray, List.set_cons_succ, List.set_cons_zero]
  refine wpS_does2 (i := 3) (d := some 17) (rem := [_, _, _]) (out := [_, _, _, _]) rfl (by rfl) rfl Try.call17 (gowner_d (rowT elemI _ _) _ (oneR 3) rowT_reads (Nat.zero_le _) 7) rfl rfl HM22.out [2] rfl covS_nil rfl rfl ?_
  rintro W24 hm23 -
  rw [show ownerR (oneR 3) 7 = 3 from by decide +kernel]
  have HM25 := Lib.hid hm23
  clear hm23
  simp only [Act.put, List.setIfInBounds_toArray, List.set_cons_succ, List.set_cons_zero]
  refine wpS_this [4, 5, 6] rfl (by kernel_rfl) (by simp only [pickL, nthL, List.cons_append, List.nil_append]; rfl) ?_
  repeat (go_big_quiet_step (fail))
  refine wpQuiet_nil ?_
  refine wpS_loadA (i := 7) (d := some 21) (cells := rgC ((oneR 3)) (.slice px 0 cx)) rfl (by rfl) rfl rfl (HM25.out.sub 3 rfl (fun k u h => by rw [Nat.zero_add]; exact h)) Try.underlying30 rfl (by kernel_rfl) rfl ?_
  simp only [Act.put, List.setIfInBounds_toArray, List.set_cons_succ, List.set_cons_zero]
  refine wpS_does2 (i := 8) (d := some 22) (rem := [_, _, _]) (out := [_, _, _, _]) rfl (by rfl) rfl Try.call21 (gtarget_d (rowT elemI _ _) _ (oneR 3) rowT_reads (Nat.zero_le _) 7) rfl rfl HM25.out [0] rfl covS_nil rfl rfl ?_
  rintro W27 hm26 -
  rw [show targetR (oneR 3) 7 = -1 from by decide +kernel]
  have HM28 := Lib.hid hm26
  clear hm26
  simp only [Act.put, List.setIfInBounds_toArray, List.set_cons_succ, List.set_cons_zero]
  refine wpS_this [9, 10, 11, 12, 13, 14, 15, 16] rfl (by kernel_rfl) (by simp only [pickL, nthL, List.cons_append, List.nil_append]; rfl) ?_
  repeat (go_big_quiet_step (fail))
  refine wpQuiet_nil ?_
  refine wpS_read (i := 17) (d := some 31) rfl (by rfl) (run_addrSt (show (4 : Nat) < 8 by decide) rfl rfl rfl) rfl ?_
  simp only [Act.put, List.setIfInBounds_toArray, List.set_cons_succ, List.set_cons_zero]
  refine wpS_load1 (i := 18) (d := some 32) (u := _) rfl (by rfl) rfl rfl (HM28.out.sub1 1 rfl (rgC_s (show (4 : Nat) < 8 by decide))) Try.underlying3 rfl rfl ?_
  simp only [Act.put, List.setIfInBounds_toArray, List.set_cons_succ, List.set_cons_zero]
  refine wpS_this [19, 20, 21] rfl (by kernel_rfl) (by simp only [pickL, nthL, List.cons_append, List.nil_append]; rfl) ?_
  repeat (go_big_quiet_step (fail))
  refine wpQuiet_nil ?_
  refine wpS_loadA (i := 22) (d := some 36) (cells := rgC ((oneR 3)) (.slice px 0 cx)) rfl (by rfl) rfl rfl (HM28.out.sub 3 rfl (fun k u h => by rw [Nat.zero_add]; exact h)) Try.underlying30 rfl (by kernel_rfl) rfl ?_
  simp only [Act.put, List.setIfInBounds_toArray, List.set_cons_succ, List.set_cons_zero]
  refine wpS_loadA (i := 23) (d := some 37) (cells := rgC (⟨upd (oneR 3).s 4 1, (0, 0, []), (oneR 3).e⟩) (.slice py 0 cy)) rfl (by rfl) rfl rfl (HM28.out.sub 1 rfl (fun k u h => by rw [Nat.zero_add]; exact h)) Try.underlying30 rfl (by kernel_rfl) rfl ?_
  simp only [Act.put, List.setIfInBounds_toArray, List.set_cons_succ, List.set_cons_zero]
  refine wpS_does2 (i := 24) (d := some 38) (rem := [_, _]) (out := [_, _, _, _]) rfl (by rfl) rfl Try.call12 (Does.ofList (gbelow_d (listT [_, _]) _ (oneR 3) (srcL 0 rfl rowT_reads) (Nat.zero_le _) _ ⟨upd (oneR 3).s 4 1, (0, 0, []), (oneR 3).e⟩ (srcL 1 rfl rowT_reads) (Nat.zero_le _))) rfl rfl HM28.out [0, 1] rfl covS_nil rfl rfl ?_
  rintro W30 hm29 -
  rw [show belowR (oneR 3) ⟨upd (oneR 3).s 4 1, (0, 0, []), (oneR 3).e⟩ = true from by decide +kernel]
  have HM31 := Lib.hid hm29
  clear hm29
  simp only [Act.put, List.setIfInBounds_toArray, List.set_cons_succ, List.set_cons_zero]
  refine wpS_this [25, 26] rfl (by kernel_rfl) (by simp only [pickL, nthL, List.cons_append, List.nil_append]; rfl) ?_
  repeat (go_big_quiet_step (fail))
  refine wpQuiet_nil ?_
  refine wpS_nil ?_
  refine then_normal ?_
  refine wp_ret ?_
  refine bodyPost_ret (results_tmp rfl _ _ _) rfl ?_
  exact does_ret (Mem.only (M := []) HM31.out [] rfl) rfl rfl

end Go.Proofs.Ytihhopoplcelfaa
