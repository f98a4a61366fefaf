/- Bags: BagTwice. -/
import Derived.Test.YtneeidedadlioaaBgY
import Derived.Test.YtneeidedadlioaaBgT
namespace Go.Proofs.Ytneeidedadlioaa
open Go Go.RowKit Go.BigFrame

def modN (x : Int) (n : Nat) : Nat := ((IntKind.u64.wrap x).tmod ((n : Int) + 1)).toNat
theorem modN_range (x : Int) (n : Nat) : 0 ≤ (IntKind.u64.wrap x).tmod ((n : Int) + 1) ∧ (IntKind.u64.wrap x).tmod ((n : Int) + 1) < (n : Int) + 1 := by
  have h : 0 ≤ IntKind.u64.wrap x := by
    unfold IntKind.wrap
    simp [IntKind.signed, IntKind.bits]
    omega
  rw [Int.tmod_eq_emod_of_nonneg h]
  exact ⟨Int.emod_nonneg _ (by omega), Int.emod_lt_of_pos _ (by omega)⟩
theorem modN_le (x : Int) (n : Nat) : modN x n ≤ n := by
  have := modN_range x n
  unfold modN
  omega
theorem modN_eq {x : Int} {n m : Nat} (hn : n ≤ 40) (h : modN x n = m) : wrap64 ((IntKind.u64.wrap x).tmod ((n : Int) + 1)) = (m : Int) := by
  have h1 := modN_range x n
  unfold modN at h
  have h2 : (IntKind.u64.wrap x).tmod ((n : Int) + 1) = (m : Int) := by omega
  rw [h2]
  unfold wrap64
  omega
theorem two_facts {A B : Tri} {i j : Nat} (hA : InvT tx A i) (hB : InvT tx B j) (hle : ∀ w, w < 3 → leB (A.b w) (B.b w)) {q : Nat} (hq : q < 3) :
    ∃ x y z, joinBR (B.b q) (B.b q) = (x, 0) ∧ joinBR (A.b q) (B.b q) = (y, 0) ∧ joinBR (B.b q) (A.b q) = (z, 0) ∧ sameB x (B.b q) = true ∧ sameB y (B.b q) = true ∧ sameB z (B.b q) = true ∧ belowB (A.b q) (B.b q) = true ∧ x.v.length ≤ 4398046510976 ∧ y.v.length ≤ 4398046510976 ∧ z.v.length ≤ 4398046510976 := by
  have h1 := below_of (hB.may q hq) (hB.may q hq) (hB.dat q hq) (hB.dat q hq) (leB_refl _)
  have h2 := below_of (hA.may q hq) (hB.may q hq) (hA.dat q hq) (hB.dat q hq) (hle q hq)
  have hl := (hB.may q hq).len
  have hs : ∀ {x : Bg}, sameB x (B.b q) = true → x.v.length ≤ 4398046510976 := fun {x} h => by rw [(sameB_iff.1 h).2]; omega
  exact ⟨_, _, _, h1.1, h2.1, h2.2.1, h1.2.2.1, h2.2.2.1, h2.2.2.2.1, h2.2.2.2.2, hs h1.2.2.1, hs h2.2.2.1, hs h2.2.2.2.1⟩
set_option maxHeartbeats 4000000 in
set_option maxRecDepth 100000 in
theorem btwiceLaw_d (W0 : World) (vl : Value) (l : List Rw) (hsl : SrcE elemStp W0 vl l) (hl : l.length ≤ 140737488351232) (at0 : Int) : Does Try.prog 5 #[vl, .int .i64 at0] [oldT W0] (.bool true) [oldT W0] := by
  intro w H hp
  have HM0 := Lib.hid (mem_refl hp)
  clear hp
  have hcap0 := hsl
  obtain ⟨p, cap, rfl⟩ := row_form hsl
  have hcap : Hid (l.length ≤ cap) := Lib.hid (by obtain ⟨_, _, _, e1, e2, _⟩ := hcap0; simp only [Value.slice.injEq] at e1; omega)
  clear hcap0
  go_enter Try.func5, Try.ntmps5
  refine wp_seq ?_
  refine wp_region_N [(0, 1)] (by kernel_rfl) ?_
  refine wpS_this [0] rfl (by kernel_rfl) (by simp only [pickL, nthL, List.cons_append, List.nil_append]; rfl) ?_
  repeat (go_big_quiet_step (fail))
  refine wpQuiet_nil ?_
  refine wpS_nil ?_
  refine then_normal ?_
  refine wp_seq ?_
  refine wp_seq ?_
  by_cases h40 : 40 < l.length
  · have g1 : decide ((40 : Int) < (l.length : Int)) = true := decide_eq_true (by omega)
    have g1' := decide_eq_true h40
    replace h40 := Lib.hid h40
    refine wp_region_N [(0, 1), (1, 1), (2, 1)] (by kernel_rfl) ?_
    refine wpS_this [0, 1, 2] rfl (by kernel_rfl) (by simp only [pickL, nthL, List.cons_append, List.nil_append]; rfl) ?_
    repeat (go_big_quiet_step (fail))
    refine wpQuiet_nil ?_
    refine wpS_nil ?_
    refine then_normal ?_
    refine wp_cond_true rfl ?_
    refine wp_seq ?_
    refine wp_region_N [(0, 3), (1, 1)] (by kernel_rfl) ?_
    refine wpS_does0 (i := 0) (d := some 19) (rem := [_]) (out := [_]) rfl (by rfl) rfl Try.call8 (bawake_d)  HM0.out [] rfl covS_nil rfl rfl ?_
    rintro W2 hm1 -
    have HM3 := Lib.hid hm1
    clear hm1
    simp only [Act.put, List.setIfInBounds_toArray, List.set_cons_succ, List.set_cons_zero]
    refine wpS_this [1] rfl (by kernel_rfl) (by simp only [pickL, nthL, List.cons_append, List.nil_append]; rfl) ?_
    repeat (go_big_quiet_step (fail))
    refine wpQuiet_nil ?_
    refine wpS_nil ?_
    refine then_normal ?_
    refine wp_ret ?_
    refine then_ret ?_
    refine bodyPost_ret (results_tmp rfl _ _ _) rfl ?_
    exact does_ret (Mem.only (M := [_]) HM3.out [0] rfl) rfl rfl
  · have g1 : decide ((40 : Int) < (l.length : Int)) = false := decide_eq_false (by omega)
    have g1' := decide_eq_false h40
    refine wp_region_N [(0, 1), (1, 1), (2, 1)] (by kernel_rfl) ?_
    refine wpS_this [0, 1, 2] rfl (by kernel_rfl) (by simp only [pickL, nthL, List.cons_append, List.nil_append]; rfl) ?_
    repeat (go_big_quiet_step (fail))
    refine wpQuiet_nil ?_
    refine wpS_nil ?_
    refine then_normal ?_
    refine wp_cond_false rfl ?_
    refine wp_skip ?_
    refine then_normal ?_
    refine wp_seq ?_
    obtain ⟨m, hm'⟩ : ∃ m, modN at0 l.length = m := ⟨_, rfl⟩
    have hml : Hid (m ≤ l.length) := Lib.hid (by rw [← hm']; exact modN_le _ _)
    have hme := Lib.hid (modN_eq (by omega) hm')
    clear hm'
    refine wp_region_N [(0, 1), (1, 1), (2, 1), (3, 1), (4, 1), (5, 1), (6, 1), (7, 1), (8, 1)] (by kernel_rfl) ?_
    refine wpS_this [0, 1, 2, 3, 4, 5, 6] rfl (by kernel_rfl) (by simp only [pickL, nthL, List.cons_append, List.nil_append]; rfl) ?_
    repeat (go_big_quiet_step (fail))
    refine wpQuiet_nil ?_
    refine wpS_this [7] rfl (by kernel_rfl) (by simp only [pickL, nthL, List.cons_append, List.nil_append]; rfl) ?_
    repeat (go_big_quiet_step (fail))
    refine wpQuiet_nil ?_
    rw [hme.out]
    refine wpS_this [8] rfl (by kernel_rfl) (by simp only [pickL, nthL, List.cons_append, List.nil_append]; rfl) ?_
    repeat (go_big_quiet_step (fail))
    refine wpQuiet_nil ?_
    refine wpS_nil ?_
    refine then_normal ?_
    refine wp_seq ?_
    rcases hA0 : runT tx ((l.take m).map rwN) (min 40 (l.take m).length) with _ | A
    · have hA := Lib.hid hA0
      clear hA0
      refine wp_region_N [(0, 1), (1, 1), (2, 1), (3, 3), (4, 1), (5, 1), (6, 1), (7, 3), (8, 3), (9, 1)] (by kernel_rfl) ?_
      refine wpS_this [0, 1] rfl (by kernel_rfl) (by simp only [pickL, nthL, List.cons_append, List.nil_append]; rfl) ?_
      repeat (go_big_quiet_step (fail))
      refine wpQuiet_nil ?_
      refine wpS_read (i := 2) (d := some 31) rfl (by rfl) (run_headP (Nat.le_trans hml.out hcap.out) rfl rfl rfl) rfl ?_
      simp only [Act.put, List.setIfInBounds_toArray, List.set_cons_succ, List.set_cons_zero]
      refine wpS_doesU1 (i := 3) (d := some 32) (rem := []) rfl (by rfl) rfl Try.call7 (bplay_d (oldT W0) _ (l.take m) (fun W H h => rowAt_take (rOld hsl W H h) rfl hml.out) (by rw [List.length_take]; omega)) rfl HM0.out [0] rfl covS_nil (fun _ => rfl) rfl ?_
      rintro u6 W5 hm4 -
      rw [hA.out] at hm4
      obtain ⟨gA, rfl, hm4q⟩ := Mem.play0 hm4
      clear hm4
      have HM7 := Lib.hid hm4q
      clear hm4q
      simp only [Act.put, List.setIfInBounds_toArray, List.set_cons_succ, List.set_cons_zero]
      refine wpS_this [4, 5, 6] rfl (by kernel_rfl) (by simp only [pickL, nthL, List.cons_append, List.nil_append]; rfl) ?_
      repeat (go_big_quiet_step (fail))
      refine wpQuiet_nil ?_
      refine wpS_alloc (i := 7) (dd := 5) (z := b3V (hb3 startT.b fun _ => (none, 0))) (cs := (b3C (hb3 startT.b fun _ => (none, 0))).toArray) rfl (by rfl) rfl (by kernel_rfl) rfl HM7.out covS_nil rfl ?_
      rintro b10 W9 hm8 -
      have HM11 := Lib.hid hm8
      clear hm8
      simp only [Act.put, List.setIfInBounds_toArray, List.set_cons_succ, List.set_cons_zero]
      refine wpS_storeA (i := 8) (L2 := [_]) (cs' := b3C (gA)) rfl (by rfl) rfl rfl rfl (by kernel_rfl) (b3C_one _) HM11.out 0 rfl rfl (by kernel_rfl) (by kernel_rfl) covS_nil rfl ?_
      rintro W13 hm12 -
      have HM14 := Lib.hid hm12
      clear hm12
      refine wpS_this [9] rfl (by kernel_rfl) (by simp only [pickL, nthL, List.cons_append, List.nil_append]; rfl) ?_
      repeat (go_big_quiet_step (fail))
      refine wpQuiet_nil ?_
      refine wpS_nil ?_
      refine then_normal ?_
      refine wp_seq ?_
      rcases hB0 : runT tx (l.map rwN) (min 40 l.length) with _ | B
      · have hB := Lib.hid hB0
        clear hB0
        refine wp_region_N [(0, 1), (1, 3), (2, 1), (3, 1), (4, 1), (5, 3), (6, 3), (7, 1)] (by kernel_rfl) ?_
        refine wpS_this [0] rfl (by kernel_rfl) (by simp only [pickL, nthL, List.cons_append, List.nil_append]; rfl) ?_
        repeat (go_big_quiet_step (fail))
        refine wpQuiet_nil ?_
        refine wpS_doesU1 (i := 1) (d := some 37) (rem := [_]) rfl (by rfl) rfl Try.call7 (bplay_d (oldT W0) _ l (rOld hsl) (by omega)) rfl HM14.out [1] rfl covS_nil (fun _ => rfl) rfl ?_
        rintro u17 W16 hm15 -
        rw [hB.out] at hm15
        obtain ⟨gB, rfl, hm15q⟩ := Mem.play0 hm15
        clear hm15
        have HM18 := Lib.hid hm15q
        clear hm15q
        simp only [Act.put, List.setIfInBounds_toArray, List.set_cons_succ, List.set_cons_zero]
        refine wpS_this [2, 3, 4] rfl (by kernel_rfl) (by simp only [pickL, nthL, List.cons_append, List.nil_append]; rfl) ?_
        repeat (go_big_quiet_step (fail))
        refine wpQuiet_nil ?_
        refine wpS_alloc (i := 5) (dd := 7) (z := b3V (hb3 startT.b fun _ => (none, 0))) (cs := (b3C (hb3 startT.b fun _ => (none, 0))).toArray) rfl (by rfl) rfl (by kernel_rfl) rfl HM18.out covS_nil rfl ?_
        rintro b21 W20 hm19 -
        have HM22 := Lib.hid hm19
        clear hm19
        simp only [Act.put, List.setIfInBounds_toArray, List.set_cons_succ, List.set_cons_zero]
        refine wpS_storeA (i := 6) (L2 := [_, _]) (cs' := b3C (gB)) rfl (by rfl) rfl rfl rfl (by kernel_rfl) (b3C_one _) HM22.out 0 rfl rfl (by kernel_rfl) (by kernel_rfl) covS_nil rfl ?_
        rintro W24 hm23 -
        have HM25 := Lib.hid hm23
        clear hm23
        refine wpS_this [7] rfl (by kernel_rfl) (by simp only [pickL, nthL, List.cons_append, List.nil_append]; rfl) ?_
        repeat (go_big_quiet_step (fail))
        refine wpQuiet_nil ?_
        refine wpS_nil ?_
        refine then_normal ?_
        refine wp_seq ?_
        refine wp_seq ?_
        refine wp_region_N [(0, 1), (1, 1), (2, 1), (3, 1), (4, 1), (5, 1)] (by kernel_rfl) ?_
        refine wpS_this [0, 1, 2, 3, 4, 5] rfl (by kernel_rfl) (by simp only [pickL, nthL, List.cons_append, List.nil_append]; rfl) ?_
        repeat (go_big_quiet_step (fail))
        refine wpQuiet_nil ?_
        refine wpS_nil ?_
        refine then_normal ?_
        refine wp_cond_true rfl ?_
        refine wp_seq ?_
        refine wp_region_N [(0, 3), (1, 1)] (by kernel_rfl) ?_
        refine wpS_does0 (i := 0) (d := some 46) (rem := [_, _, _]) (out := [_, _, _]) rfl (by rfl) rfl Try.call8 (bawake_d)  HM25.out [] rfl covS_nil rfl rfl ?_
        rintro W27 hm26 -
        have HM28 := Lib.hid hm26
        clear hm26
        simp only [Act.put, List.setIfInBounds_toArray, List.set_cons_succ, List.set_cons_zero]
        refine wpS_this [1] rfl (by kernel_rfl) (by simp only [pickL, nthL, List.cons_append, List.nil_append]; rfl) ?_
        repeat (go_big_quiet_step (fail))
        refine wpQuiet_nil ?_
        refine wpS_nil ?_
        refine then_normal ?_
        refine wp_ret ?_
        refine then_ret ?_
        refine bodyPost_ret (results_tmp rfl _ _ _) rfl ?_
        exact does_ret (Mem.only (M := [_]) HM28.out [1] rfl) rfl rfl
      · have hB := Lib.hid hB0
        clear hB0
        refine wp_region_N [(0, 1), (1, 3), (2, 1), (3, 1), (4, 1), (5, 3), (6, 3), (7, 1)] (by kernel_rfl) ?_
        refine wpS_this [0] rfl (by kernel_rfl) (by simp only [pickL, nthL, List.cons_append, List.nil_append]; rfl) ?_
        repeat (go_big_quiet_step (fail))
        refine wpQuiet_nil ?_
        refine wpS_doesU1 (i := 1) (d := some 37) (rem := [_]) rfl (by rfl) rfl Try.call7 (bplay_d (oldT W0) _ l (rOld hsl) (by omega)) rfl HM14.out [1] rfl covS_nil (fun _ => rfl) rfl ?_
        rintro u31 W30 hm29 -
        rw [hB.out] at hm29
        obtain ⟨PB, rfl, hm29q⟩ := Mem.play hm29
        clear hm29
        have HM32 := Lib.hid hm29q
        clear hm29q
        simp only [Act.put, List.setIfInBounds_toArray, List.set_cons_succ, List.set_cons_zero]
        refine wpS_this [2, 3, 4] rfl (by kernel_rfl) (by simp only [pickL, nthL, List.cons_append, List.nil_append]; rfl) ?_
        repeat (go_big_quiet_step (fail))
        refine wpQuiet_nil ?_
        refine wpS_alloc (i := 5) (dd := 7) (z := b3V (hb3 startT.b fun _ => (none, 0))) (cs := (b3C (hb3 startT.b fun _ => (none, 0))).toArray) rfl (by rfl) rfl (by kernel_rfl) rfl HM32.out covS_nil rfl ?_
        rintro b35 W34 hm33 -
        have HM36 := Lib.hid hm33
        clear hm33
        simp only [Act.put, List.setIfInBounds_toArray, List.set_cons_succ, List.set_cons_zero]
        refine wpS_storeA (i := 6) (L2 := [_, _, _, _, _]) (cs' := b3C ((hb3 B.b PB))) rfl (by rfl) rfl rfl rfl (by kernel_rfl) (b3C_one _) HM36.out 0 rfl rfl (by kernel_rfl) (by kernel_rfl) covS_nil rfl ?_
        rintro W38 hm37 -
        have HM39 := Lib.hid hm37
        clear hm37
        refine wpS_this [7] rfl (by kernel_rfl) (by simp only [pickL, nthL, List.cons_append, List.nil_append]; rfl) ?_
        repeat (go_big_quiet_step (fail))
        refine wpQuiet_nil ?_
        refine wpS_nil ?_
        refine then_normal ?_
        refine wp_seq ?_
        refine wp_seq ?_
        refine wp_region_N [(0, 1), (1, 1), (2, 1), (3, 1), (4, 1), (5, 1)] (by kernel_rfl) ?_
        refine wpS_this [0, 1, 2, 3, 4, 5] rfl (by kernel_rfl) (by simp only [pickL, nthL, List.cons_append, List.nil_append]; rfl) ?_
        repeat (go_big_quiet_step (fail))
        refine wpQuiet_nil ?_
        refine wpS_nil ?_
        refine then_normal ?_
        refine wp_cond_true rfl ?_
        refine wp_seq ?_
        refine wp_region_N [(0, 3), (1, 1)] (by kernel_rfl) ?_
        refine wpS_does0 (i := 0) (d := some 46) (rem := [_, _, _, _, _, _]) (out := [_, _, _, _, _, _]) rfl (by rfl) rfl Try.call8 (bawake_d)  HM39.out [] rfl covS_nil rfl rfl ?_
        rintro W41 hm40 -
        have HM42 := Lib.hid hm40
        clear hm40
        simp only [Act.put, List.setIfInBounds_toArray, List.set_cons_succ, List.set_cons_zero]
        refine wpS_this [1] rfl (by kernel_rfl) (by simp only [pickL, nthL, List.cons_append, List.nil_append]; rfl) ?_
        repeat (go_big_quiet_step (fail))
        refine wpQuiet_nil ?_
        refine wpS_nil ?_
        refine then_normal ?_
        refine wp_ret ?_
        refine then_ret ?_
        refine bodyPost_ret (results_tmp rfl _ _ _) rfl ?_
        exact does_ret (Mem.only (M := [_]) HM42.out [4] rfl) rfl rfl
    · have hA := Lib.hid hA0
      clear hA0
      refine wp_region_N [(0, 1), (1, 1), (2, 1), (3, 3), (4, 1), (5, 1), (6, 1), (7, 3), (8, 3), (9, 1)] (by kernel_rfl) ?_
      refine wpS_this [0, 1] rfl (by kernel_rfl) (by simp only [pickL, nthL, List.cons_append, List.nil_append]; rfl) ?_
      repeat (go_big_quiet_step (fail))
      refine wpQuiet_nil ?_
      refine wpS_read (i := 2) (d := some 31) rfl (by rfl) (run_headP (Nat.le_trans hml.out hcap.out) rfl rfl rfl) rfl ?_
      simp only [Act.put, List.setIfInBounds_toArray, List.set_cons_succ, List.set_cons_zero]
      refine wpS_doesU1 (i := 3) (d := some 32) (rem := []) rfl (by rfl) rfl Try.call7 (bplay_d (oldT W0) _ (l.take m) (fun W H h => rowAt_take (rOld hsl W H h) rfl hml.out) (by rw [List.length_take]; omega)) rfl HM0.out [0] rfl covS_nil (fun _ => rfl) rfl ?_
      rintro u45 W44 hm43 -
      rw [hA.out] at hm43
      obtain ⟨PA, rfl, hm43q⟩ := Mem.play hm43
      clear hm43
      have HM46 := Lib.hid hm43q
      clear hm43q
      simp only [Act.put, List.setIfInBounds_toArray, List.set_cons_succ, List.set_cons_zero]
      refine wpS_this [4, 5, 6] rfl (by kernel_rfl) (by simp only [pickL, nthL, List.cons_append, List.nil_append]; rfl) ?_
      repeat (go_big_quiet_step (fail))
      refine wpQuiet_nil ?_
      refine wpS_alloc (i := 7) (dd := 5) (z := b3V (hb3 startT.b fun _ => (none, 0))) (cs := (b3C (hb3 startT.b fun _ => (none, 0))).toArray) rfl (by rfl) rfl (by kernel_rfl) rfl HM46.out covS_nil rfl ?_
      rintro b49 W48 hm47 -
      have HM50 := Lib.hid hm47
      clear hm47
      simp only [Act.put, List.setIfInBounds_toArray, List.set_cons_succ, List.set_cons_zero]
      refine wpS_storeA (i := 8) (L2 := [_, _, _, _]) (cs' := b3C ((hb3 A.b PA))) rfl (by rfl) rfl rfl rfl (by kernel_rfl) (b3C_one _) HM50.out 0 rfl rfl (by kernel_rfl) (by kernel_rfl) covS_nil rfl ?_
      rintro W52 hm51 -
      have HM53 := Lib.hid hm51
      clear hm51
      refine wpS_this [9] rfl (by kernel_rfl) (by simp only [pickL, nthL, List.cons_append, List.nil_append]; rfl) ?_
      repeat (go_big_quiet_step (fail))
      refine wpQuiet_nil ?_
      refine wpS_nil ?_
      refine then_normal ?_
      refine wp_seq ?_
      rcases hB0 : runT tx (l.map rwN) (min 40 l.length) with _ | B
      · have hB := Lib.hid hB0
        clear hB0
        refine wp_region_N [(0, 1), (1, 3), (2, 1), (3, 1), (4, 1), (5, 3), (6, 3), (7, 1)] (by kernel_rfl) ?_
        refine wpS_this [0] rfl (by kernel_rfl) (by simp only [pickL, nthL, List.cons_append, List.nil_append]; rfl) ?_
        repeat (go_big_quiet_step (fail))
        refine wpQuiet_nil ?_
        refine wpS_doesU1 (i := 1) (d := some 37) (rem := [_, _, _, _]) rfl (by rfl) rfl Try.call7 (bplay_d (oldT W0) _ l (rOld hsl) (by omega)) rfl HM53.out [4] rfl covS_nil (fun _ => rfl) rfl ?_
        rintro u56 W55 hm54 -
        rw [hB.out] at hm54
        obtain ⟨gB, rfl, hm54q⟩ := Mem.play0 hm54
        clear hm54
        have HM57 := Lib.hid hm54q
        clear hm54q
        simp only [Act.put, List.setIfInBounds_toArray, List.set_cons_succ, List.set_cons_zero]
        refine wpS_this [2, 3, 4] rfl (by kernel_rfl) (by simp only [pickL, nthL, List.cons_append, List.nil_append]; rfl) ?_
        repeat (go_big_quiet_step (fail))
        refine wpQuiet_nil ?_
        refine wpS_alloc (i := 5) (dd := 7) (z := b3V (hb3 startT.b fun _ => (none, 0))) (cs := (b3C (hb3 startT.b fun _ => (none, 0))).toArray) rfl (by rfl) rfl (by kernel_rfl) rfl HM57.out covS_nil rfl ?_
        rintro b60 W59 hm58 -
        have HM61 := Lib.hid hm58
        clear hm58
        simp only [Act.put, List.setIfInBounds_toArray, List.set_cons_succ, List.set_cons_zero]
        refine wpS_storeA (i := 6) (L2 := [_, _, _, _, _]) (cs' := b3C (gB)) rfl (by rfl) rfl rfl rfl (by kernel_rfl) (b3C_one _) HM61.out 0 rfl rfl (by kernel_rfl) (by kernel_rfl) covS_nil rfl ?_
        rintro W63 hm62 -
        have HM64 := Lib.hid hm62
        clear hm62
        refine wpS_this [7] rfl (by kernel_rfl) (by simp only [pickL, nthL, List.cons_append, List.nil_append]; rfl) ?_
        repeat (go_big_quiet_step (fail))
        refine wpQuiet_nil ?_
        refine wpS_nil ?_
        refine then_normal ?_
        refine wp_seq ?_
        refine wp_seq ?_
        refine wp_region_N [(0, 1), (1, 1), (2, 1), (3, 1), (4, 1), (5, 1)] (by kernel_rfl) ?_
        refine wpS_this [0, 1, 2, 3, 4, 5] rfl (by kernel_rfl) (by simp only [pickL, nthL, List.cons_append, List.nil_append]; rfl) ?_
        repeat (go_big_quiet_step (fail))
        refine wpQuiet_nil ?_
        refine wpS_nil ?_
        refine then_normal ?_
        refine wp_cond_true rfl ?_
        refine wp_seq ?_
        refine wp_region_N [(0, 3), (1, 1)] (by kernel_rfl) ?_
        refine wpS_does0 (i := 0) (d := some 46) (rem := [_, _, _, _, _, _]) (out := [_, _, _, _, _, _]) rfl (by rfl) rfl Try.call8 (bawake_d)  HM64.out [] rfl covS_nil rfl rfl ?_
        rintro W66 hm65 -
        have HM67 := Lib.hid hm65
        clear hm65
        simp only [Act.put, List.setIfInBounds_toArray, List.set_cons_succ, List.set_cons_zero]
        refine wpS_this [1] rfl (by kernel_rfl) (by simp only [pickL, nthL, List.cons_append, List.nil_append]; rfl) ?_
        repeat (go_big_quiet_step (fail))
        refine wpQuiet_nil ?_
        refine wpS_nil ?_
        refine then_normal ?_
        refine wp_ret ?_
        refine then_ret ?_
        refine bodyPost_ret (results_tmp rfl _ _ _) rfl ?_
        exact does_ret (Mem.only (M := [_]) HM67.out [1] rfl) rfl rfl
      · have hB := Lib.hid hB0
        clear hB0
        refine wp_region_N [(0, 1), (1, 3), (2, 1), (3, 1), (4, 1), (5, 3), (6, 3), (7, 1)] (by kernel_rfl) ?_
        refine wpS_this [0] rfl (by kernel_rfl) (by simp only [pickL, nthL, List.cons_append, List.nil_append]; rfl) ?_
        repeat (go_big_quiet_step (fail))
        refine wpQuiet_nil ?_
        refine wpS_doesU1 (i := 1) (d := some 37) (rem := [_, _, _, _]) rfl (by rfl) rfl Try.call7 (bplay_d (oldT W0) _ l (rOld hsl) (by omega)) rfl HM53.out [4] rfl covS_nil (fun _ => rfl) rfl ?_
        rintro u70 W69 hm68 -
        rw [hB.out] at hm68
        obtain ⟨PB, rfl, hm68q⟩ := Mem.play hm68
        clear hm68
        have HM71 := Lib.hid hm68q
        clear hm68q
        simp only [Act.put, List.setIfInBounds_toArray, List.set_cons_succ, List.set_cons_zero]
        refine wpS_this [2, 3, 4] rfl (by kernel_rfl) (by simp only [pickL, nthL, List.cons_append, List.nil_append]; rfl) ?_
        repeat (go_big_quiet_step (fail))
        refine wpQuiet_nil ?_
        refine wpS_alloc (i := 5) (dd := 7) (z := b3V (hb3 startT.b fun _ => (none, 0))) (cs := (b3C (hb3 startT.b fun _ => (none, 0))).toArray) rfl (by rfl) rfl (by kernel_rfl) rfl HM71.out covS_nil rfl ?_
        rintro b74 W73 hm72 -
        have HM75 := Lib.hid hm72
        clear hm72
        simp only [Act.put, List.setIfInBounds_toArray, List.set_cons_succ, List.set_cons_zero]
        refine wpS_storeA (i := 6) (L2 := [_, _, _, _, _, _, _, _]) (cs' := b3C ((hb3 B.b PB))) rfl (by rfl) rfl rfl rfl (by kernel_rfl) (b3C_one _) HM75.out 0 rfl rfl (by kernel_rfl) (by kernel_rfl) covS_nil rfl ?_
        rintro W77 hm76 -
        have HM78 := Lib.hid hm76
        clear hm76
        refine wpS_this [7] rfl (by kernel_rfl) (by simp only [pickL, nthL, List.cons_append, List.nil_append]; rfl) ?_
        repeat (go_big_quiet_step (fail))
        refine wpQuiet_nil ?_
        refine wpS_nil ?_
        refine then_normal ?_
        refine wp_seq ?_
        refine wp_seq ?_
        refine wp_region_N [(0, 1), (1, 1), (2, 1), (3, 1), (4, 1), (5, 1)] (by kernel_rfl) ?_
        refine wpS_this [0, 1, 2, 3, 4, 5] rfl (by kernel_rfl) (by simp only [pickL, nthL, List.cons_append, List.nil_append]; rfl) ?_
        repeat (go_big_quiet_step (fail))
        refine wpQuiet_nil ?_
        refine wpS_nil ?_
        refine then_normal ?_
        refine wp_cond_false rfl ?_
        refine wp_skip ?_
        refine then_normal ?_
        refine wp_seq ?_
        refine wp_seq ?_
        have hA1 : runT tx (l.map rwN) m = some A := by have h0 := hA.out; rw [List.length_take, show min 40 (min m l.length) = m by have := hml.out; omega, List.map_take, runT_take _ _ _ (Nat.le_refl _)] at h0; exact h0
        have hB1 : runT tx (l.map rwN) (m + (l.length - m)) = some B := by have h0 := hB.out; rw [show min 40 l.length = m + (l.length - m) by have := hml.out; omega] at h0; exact h0
        have hIA : Hid (InvT tx A m) := Lib.hid (runT_inv tx_size rwN_lt _ (by have := hml.out; omega) _ hA1)
        have hIB : Hid (InvT tx B (m + (l.length - m))) := Lib.hid (runT_inv tx_size rwN_lt _ (by have := hml.out; omega) _ hB1)
        have hle : Hid (∀ w, w < 3 → leB (A.b w) (B.b w)) := Lib.hid (runT_le tx_size rwN_lt hA1 _ (by have := hml.out; omega) _ hB1)
        clear hA1 hB1
        refine wp_region_N [(0, 1)] (by kernel_rfl) ?_
        refine wpS_this [0] rfl (by kernel_rfl) (by simp only [pickL, nthL, List.cons_append, List.nil_append]; rfl) ?_
        repeat (go_big_quiet_step (fail))
        refine wpQuiet_nil ?_
        refine wpS_nil ?_
        refine then_normal ?_
        refine wp_block ?_
        refine wp_loop_F [4, 9, 10, 11, 12, 13, 14, 15, 47, 48, 49, 50, 51, 52, 53, 54, 55, 56, 57, 58, 59, 60, 61, 62, 63, 64, 65, 66, 67, 68, 69, 70, 71, 72, 73, 74, 75, 76, 77, 78, 79, 80, 81, 82, 83, 84, 85, 86, 87, 88, 89, 90, 91, 92, 93, 94, 95, 96, 97, 98, 99, 100, 101, 102, 103, 104, 105, 106, 107, 108, 109, 110, 111, 112, 113, 114, 115, 116, 117, 118, 119, 120, 121, 122, 123, 124] (fun n vs W' => ∃ q : Nat, n = 3 - q ∧ vs 47 = .int .i64 (q : Int) ∧ q ≤ 3 ∧ Mem [rowB B.b PB 0, rowB B.b PB 1, rowB B.b PB 2, rowB A.b PA 0, rowB A.b PA 1, rowB A.b PA 2, boxT b74 (.cells (b3C (hb3 B.b PB)).toArray 28 (0, 0)), boxT b49 (.cells (b3C (hb3 A.b PA)).toArray 28 (0, 0)), oldT W0] H w W') (n0 := 3) ?_ ?_
        · exact ⟨0, rfl, rfl, Nat.zero_le _, (Mem.only (M := [_, _, _, _, _, _, _, _, _]) HM78.out [1, 1, 1, 3, 3, 3, 0, 1, 0] rfl)⟩
        rintro n vs W' ⟨q, rfl, e47, hq, hm⟩
        simp only [putAll, List.map_cons, List.map_nil, Act.put, List.setIfInBounds_toArray, List.set_cons_succ, List.set_cons_zero]
        rw [e47]
        clear e47
        have HM79 := Lib.hid hm
        clear hm
        refine wp_seq ?_
        refine wp_region_N [(0, 1)] (by kernel_rfl) ?_
        refine wpS_this [0] rfl (by kernel_rfl) (by simp only [pickL, nthL, List.cons_append, List.nil_append]; rfl) ?_
        repeat (go_big_quiet_step (fail))
        refine wpQuiet_nil ?_
        refine wpS_nil ?_
        refine then_normal ?_
        refine wp_seq ?_
        refine wp_cond_split rfl (fun h80 => ?_) (fun h80 => ?_)
        · have hq1 : q + 1 ≤ 3 := by have : (q : Int) < 3 := (by simpa using h80); omega
          clear h80
          refine wp_skip ?_
          refine then_normal ?_
          refine wp_seq ?_
          refine wp_block ?_
          refine wp_seq ?_
          have hq3 : q < 3 := hq1
          obtain ⟨x, y, z, hx', hy', hz', sx', sy', sz', hbel', lx, ly, lz⟩ := two_facts hIA.out hIB.out hle.out hq3
          have hx := Lib.hid hx'
          clear hx'
          have hy := Lib.hid hy'
          clear hy'
          have hz := Lib.hid hz'
          clear hz'
          have sx := Lib.hid sx'
          clear sx'
          have sy := Lib.hid sy'
          clear sy'
          have sz := Lib.hid sz'
          clear sz'
          have hbel := Lib.hid hbel'
          clear hbel'
          refine wp_region_N [(0, 1), (1, 1)] (by kernel_rfl) ?_
          refine wpS_this [0, 1] rfl (by kernel_rfl) (by simp only [pickL, nthL, List.cons_append, List.nil_append]; rfl) ?_
          repeat (go_big_quiet_step (fail))
          refine wpQuiet_nil ?_
          refine wpS_nil ?_
          refine then_normal ?_
          refine wp_seq ?_
          refine wp_cut_F [10, 11, 50, 51, 52, 53, 54, 55, 56, 57, 58, 59] (fun vs W' => ∃ (xb : Nat) (px : Option Addr) (cx : Nat), vs 10 = .pointer (some ⟨xb, 0, none⟩) ∧ vs 11 = .int .i64 0 ∧ Mem [rowT elemV (.slice px x.v.length cx) x.v, boxT xb (.cells (bgC x.k (.slice px x.v.length cx)).toArray 27 (0, 0)), rowB B.b PB 0, rowB B.b PB 1, rowB B.b PB 2, rowB A.b PA 0, rowB A.b PA 1, rowB A.b PA 2, boxT b74 (.cells (b3C (hb3 B.b PB)).toArray 28 (0, 0)), boxT b49 (.cells (b3C (hb3 A.b PA)).toArray 28 (0, 0)), oldT W0] H w W') ?_ ?_
          · refine wp_region_taken [] (fun k => k ∈ ([b74, b49] : List Nat)) (by kernel_rfl) rfl rfl ?_
            have hm81 := HM79.out.drew
            have HM82 := Lib.hid hm81
            clear hm81
            refine wpT_takeS (i := 0) (by kernel_rfl) (by kernel_rfl) ?_
            refine wpS_stay [0] rfl (by kernel_rfl) (by simp only [pickL, nthL, List.cons_append, List.nil_append]; rfl) ?_
            repeat (go_big_quiet_step (fail))
            refine wpQuiet_nil ?_
            refine wpS_nil ?_
            refine wpT_takeS (i := 1) (by kernel_rfl) (by kernel_rfl) ?_
            refine wpS_read2 (i := 1) (d := some 52) rfl (by rfl) (fun _ _ => run_addrB3 hq3 rfl rfl rfl) rfl ?_
            simp only [Act.put, List.setIfInBounds_toArray, List.set_cons_succ, List.set_cons_zero]
            refine wpS_nil ?_
            refine wpT_takeS (i := 2) (by kernel_rfl) (by kernel_rfl) ?_
            refine wpS_loadA2 (i := 2) (d := some 53) (cells := hbC ((hb3 B.b PB) q)) rfl (by rfl) rfl rfl (by simp) (HM82.out.part 6 rfl (b3C_sub hq3)) Try.underlying27 rfl (by kernel_rfl) rfl ?_
            simp only [Act.put, List.setIfInBounds_toArray, List.set_cons_succ, List.set_cons_zero]
            refine wpS_nil ?_
            refine wpT_takeS (i := 3) (by kernel_rfl) (by kernel_rfl) ?_
            refine wpS_stay [3] rfl (by kernel_rfl) (by simp only [pickL, nthL, List.cons_append, List.nil_append]; rfl) ?_
            repeat (go_big_quiet_step (fail))
            refine wpQuiet_nil ?_
            refine wpS_nil ?_
            refine wpT_takeS (i := 4) (by kernel_rfl) (by kernel_rfl) ?_
            refine wpS_read2 (i := 4) (d := some 55) rfl (by rfl) (fun _ _ => run_addrB3 hq3 rfl rfl rfl) rfl ?_
            simp only [Act.put, List.setIfInBounds_toArray, List.set_cons_succ, List.set_cons_zero]
            refine wpS_nil ?_
            refine wpT_takeS (i := 5) (by kernel_rfl) (by kernel_rfl) ?_
            refine wpS_loadA2 (i := 5) (d := some 56) (cells := hbC ((hb3 B.b PB) q)) rfl (by rfl) rfl rfl (by simp) (HM82.out.part 6 rfl (b3C_sub hq3)) Try.underlying27 rfl (by kernel_rfl) rfl ?_
            simp only [Act.put, List.setIfInBounds_toArray, List.set_cons_succ, List.set_cons_zero]
            refine wpS_nil ?_
            refine wpT_ready 6 [10] (by kernel_rfl) (allT_cons ?_ (allT_cons ?_ allT_nil))
            · refine opT_S (by kernel_rfl) ?_
              refine wpS_doesU2 (i := 6) (d := some 57) (rem := [_, _, _, _, _, _]) rfl (by rfl) rfl Try.call9 (DoesU.ofList (bjoin_d (listT [_, _, _]) _ (B.b q) (readsAt 0 rfl rfl rfl hq3) (Nat.le_trans (hIB.out.may q hq3).len (by decide)) _ (B.b q) (readsAt 0 rfl rfl rfl hq3) (Nat.le_trans (hIB.out.may q hq3).len (by decide)) x 0 hx.out)) rfl rfl HM82.out [0, 0, 0] rfl (covS_box 3 rfl (covS_box 4 rfl covS_nil)) (fun _ => rfl) rfl ?_
              rintro u86 W84 hm83 hg85
              obtain ⟨px, cx, rfl, hm83q⟩ := Mem.bagE rfl hm83
              clear hm83
              have HM87 := Lib.hid hm83q
              clear hm83q
              simp only [Act.put, List.setIfInBounds_toArray, List.set_cons_succ, List.set_cons_zero]
              refine wpS_nil ?_
              refine wpT_takeS (i := 7) (by kernel_rfl) (by kernel_rfl) ?_
              refine wpS_stay [7] rfl (by kernel_rfl) (by simp only [pickL, nthL, List.cons_append, List.nil_append]; rfl) ?_
              repeat (go_big_quiet_step (fail))
              refine wpQuiet_nil ?_
              refine wpS_nil ?_
              refine wpT_takeS (i := 8) (by kernel_rfl) (by kernel_rfl) ?_
              refine wpS_stay [8] rfl (by kernel_rfl) (by simp only [pickL, nthL, List.cons_append, List.nil_append]; rfl) ?_
              repeat (go_big_quiet_step (fail))
              refine wpQuiet_nil ?_
              refine wpS_nil ?_
              refine wpT_takeS (i := 9) (by kernel_rfl) (by kernel_rfl) ?_
              refine wpS_stay [9] rfl (by kernel_rfl) (by simp only [pickL, nthL, List.cons_append, List.nil_append]; rfl) ?_
              repeat (go_big_quiet_step (fail))
              refine wpQuiet_nil ?_
              refine wpS_nil ?_
              refine wpT_ready 10 [] (by kernel_rfl) (allT_cons ?_ allT_nil)
              refine opT_S (by kernel_rfl) ?_
              refine wpS_alloc (i := 10) (dd := 10) (z := bgV noB.k (.slice none 0 0)) (cs := (bgC noB.k (.slice none 0 0)).toArray) rfl (by rfl) rfl (by kernel_rfl) rfl HM87.out (covS_box 7 rfl (covS_box 8 rfl covS_nil)) rfl ?_
              rintro b91 W90 hm89 hg88
              have HM92 := Lib.hid hm89
              clear hm89
              simp only [Act.put, List.setIfInBounds_toArray, List.set_cons_succ, List.set_cons_zero]
              refine wpS_nil ?_
              refine wpT_ready 11 [] (by kernel_rfl) (allT_cons ?_ allT_nil)
              refine opT_S (by kernel_rfl) ?_
              refine wpS_storeA (i := 11) (L2 := [_, _, _, _, _, _, _, _, _, _]) (cs' := bgC (x.k) (.slice px x.v.length cx)) rfl (by rfl) rfl rfl rfl (by kernel_rfl) (bgC_one _ _ _) HM92.out 0 rfl rfl (by kernel_rfl) (by kernel_rfl) (covS_box 7 rfl (covS_box 8 rfl covS_nil)) rfl ?_
              rintro W95 hm94 hg93
              have HM96 := Lib.hid hm94
              clear hm94
              refine wpS_nil ?_
              refine wpT_takeS (i := 12) (by kernel_rfl) (by kernel_rfl) ?_
              refine wpS_stay [12] rfl (by kernel_rfl) (by simp only [pickL, nthL, List.cons_append, List.nil_append]; rfl) ?_
              repeat (go_big_quiet_step (fail))
              refine wpQuiet_nil ?_
              refine wpS_nil ?_
              refine wpT_end (by kernel_rfl) ?_
              refine then_normal ?_
              refine ⟨by kernel_rfl, ?_⟩
              exact ⟨_, _, _, rfl, rfl, (Mem.only (M := [_, _, _, _, _, _, _, _, _, _, _]) HM96.out [1, 0, 0, 0, 0, 0, 0, 0, 0, 0, 0] rfl)⟩
            · refine opT_S (by kernel_rfl) ?_
              refine wpS_alloc (i := 10) (dd := 10) (z := bgV noB.k (.slice none 0 0)) (cs := (bgC noB.k (.slice none 0 0)).toArray) rfl (by rfl) rfl (by kernel_rfl) rfl HM82.out (covS_box 6 rfl (covS_box 7 rfl covS_nil)) rfl ?_
              rintro b100 W99 hm98 hg97
              have HM101 := Lib.hid hm98
              clear hm98
              simp only [Act.put, List.setIfInBounds_toArray, List.set_cons_succ, List.set_cons_zero]
              refine wpS_nil ?_
              refine wpT_ready 6 [] (by kernel_rfl) (allT_cons ?_ allT_nil)
              refine opT_S (by kernel_rfl) ?_
              refine wpS_doesU2 (i := 6) (d := some 57) (rem := [_, _, _, _, _, _, _]) rfl (by rfl) rfl Try.call9 (DoesU.ofList (bjoin_d (listT [_, _, _]) _ (B.b q) (readsAt 0 rfl rfl rfl hq3) (Nat.le_trans (hIB.out.may q hq3).len (by decide)) _ (B.b q) (readsAt 0 rfl rfl rfl hq3) (Nat.le_trans (hIB.out.may q hq3).len (by decide)) x 0 hx.out)) rfl rfl HM101.out [1, 1, 1] rfl (covS_box 4 rfl (covS_box 5 rfl covS_nil)) (fun _ => rfl) rfl ?_
              rintro u105 W103 hm102 hg104
              obtain ⟨px, cx, rfl, hm102q⟩ := Mem.bagE rfl hm102
              clear hm102
              have HM106 := Lib.hid hm102q
              clear hm102q
              simp only [Act.put, List.setIfInBounds_toArray, List.set_cons_succ, List.set_cons_zero]
              refine wpS_nil ?_
              refine wpT_takeS (i := 7) (by kernel_rfl) (by kernel_rfl) ?_
              refine wpS_stay [7] rfl (by kernel_rfl) (by simp only [pickL, nthL, List.cons_append, List.nil_append]; rfl) ?_
              repeat (go_big_quiet_step (fail))
              refine wpQuiet_nil ?_
              refine wpS_nil ?_
              refine wpT_takeS (i := 8) (by kernel_rfl) (by kernel_rfl) ?_
              refine wpS_stay [8] rfl (by kernel_rfl) (by simp only [pickL, nthL, List.cons_append, List.nil_append]; rfl) ?_
              repeat (go_big_quiet_step (fail))
              refine wpQuiet_nil ?_
              refine wpS_nil ?_
              refine wpT_takeS (i := 9) (by kernel_rfl) (by kernel_rfl) ?_
              refine wpS_stay [9] rfl (by kernel_rfl) (by simp only [pickL, nthL, List.cons_append, List.nil_append]; rfl) ?_
              repeat (go_big_quiet_step (fail))
              refine wpQuiet_nil ?_
              refine wpS_nil ?_
              refine wpT_ready 11 [] (by kernel_rfl) (allT_cons ?_ allT_nil)
              refine opT_S (by kernel_rfl) ?_
              refine wpS_storeA (i := 11) (L2 := [_, _, _, _, _, _, _, _, _, _]) (cs' := bgC (x.k) (.slice px x.v.length cx)) rfl (by rfl) rfl rfl rfl (by kernel_rfl) (bgC_one _ _ _) HM106.out 4 rfl rfl (by kernel_rfl) (by kernel_rfl) (covS_box 7 rfl (covS_box 8 rfl covS_nil)) rfl ?_
              rintro W109 hm108 hg107
              have HM110 := Lib.hid hm108
              clear hm108
              refine wpS_nil ?_
              refine wpT_takeS (i := 12) (by kernel_rfl) (by kernel_rfl) ?_
              refine wpS_stay [12] rfl (by kernel_rfl) (by simp only [pickL, nthL, List.cons_append, List.nil_append]; rfl) ?_
              repeat (go_big_quiet_step (fail))
              refine wpQuiet_nil ?_
              refine wpS_nil ?_
              refine wpT_end (by kernel_rfl) ?_
              refine then_normal ?_
              refine ⟨by kernel_rfl, ?_⟩
              exact ⟨_, _, _, rfl, rfl, (Mem.only (M := [_, _, _, _, _, _, _, _, _, _, _]) HM110.out [1, 0, 0, 0, 0, 0, 0, 0, 0, 0, 0] rfl)⟩
          rintro vs W' ⟨xb, px, cx, e10, e11, hm⟩
          simp only [putAll, List.map_cons, List.map_nil, Act.put, List.setIfInBounds_toArray, List.set_cons_succ, List.set_cons_zero]
          rw [e10, e11]
          clear e10 e11
          have HM111 := Lib.hid hm
          clear hm
          refine then_normal ?_
          refine wp_seq ?_
          refine wp_cut_F [12, 13, 60, 61, 62, 63, 64, 65, 66, 67, 68, 69] (fun vs W' => ∃ (yb : Nat) (py : Option Addr) (cy : Nat), vs 12 = .pointer (some ⟨yb, 0, none⟩) ∧ vs 13 = .int .i64 0 ∧ Mem [rowT elemV (.slice py y.v.length cy) y.v, boxT yb (.cells (bgC y.k (.slice py y.v.length cy)).toArray 27 (0, 0)), rowT elemV (.slice px x.v.length cx) x.v, boxT xb (.cells (bgC x.k (.slice px x.v.length cx)).toArray 27 (0, 0)), rowB B.b PB 0, rowB B.b PB 1, rowB B.b PB 2, rowB A.b PA 0, rowB A.b PA 1, rowB A.b PA 2, boxT b74 (.cells (b3C (hb3 B.b PB)).toArray 28 (0, 0)), boxT b49 (.cells (b3C (hb3 A.b PA)).toArray 28 (0, 0)), oldT W0] H w W') ?_ ?_
          · refine wp_region_taken [] (fun k => k ∈ ([b74, b49] : List Nat)) (by kernel_rfl) rfl rfl ?_
            have hm112 := HM111.out.drew
            have HM113 := Lib.hid hm112
            clear hm112
            refine wpT_takeS (i := 0) (by kernel_rfl) (by kernel_rfl) ?_
            refine wpS_stay [0] rfl (by kernel_rfl) (by simp only [pickL, nthL, List.cons_append, List.nil_append]; rfl) ?_
            repeat (go_big_quiet_step (fail))
            refine wpQuiet_nil ?_
            refine wpS_nil ?_
            refine wpT_takeS (i := 1) (by kernel_rfl) (by kernel_rfl) ?_
            refine wpS_read2 (i := 1) (d := some 62) rfl (by rfl) (fun _ _ => run_addrB3 hq3 rfl rfl rfl) rfl ?_
            simp only [Act.put, List.setIfInBounds_toArray, List.set_cons_succ, List.set_cons_zero]
            refine wpS_nil ?_
            refine wpT_takeS (i := 2) (by kernel_rfl) (by kernel_rfl) ?_
            refine wpS_loadA2 (i := 2) (d := some 63) (cells := hbC ((hb3 A.b PA) q)) rfl (by rfl) rfl rfl (by simp) (HM113.out.part 9 rfl (b3C_sub hq3)) Try.underlying27 rfl (by kernel_rfl) rfl ?_
            simp only [Act.put, List.setIfInBounds_toArray, List.set_cons_succ, List.set_cons_zero]
            refine wpS_nil ?_
            refine wpT_takeS (i := 3) (by kernel_rfl) (by kernel_rfl) ?_
            refine wpS_stay [3] rfl (by kernel_rfl) (by simp only [pickL, nthL, List.cons_append, List.nil_append]; rfl) ?_
            repeat (go_big_quiet_step (fail))
            refine wpQuiet_nil ?_
            refine wpS_nil ?_
            refine wpT_takeS (i := 4) (by kernel_rfl) (by kernel_rfl) ?_
            refine wpS_read2 (i := 4) (d := some 65) rfl (by rfl) (fun _ _ => run_addrB3 hq3 rfl rfl rfl) rfl ?_
            simp only [Act.put, List.setIfInBounds_toArray, List.set_cons_succ, List.set_cons_zero]
            refine wpS_nil ?_
            refine wpT_takeS (i := 5) (by kernel_rfl) (by kernel_rfl) ?_
            refine wpS_loadA2 (i := 5) (d := some 66) (cells := hbC ((hb3 B.b PB) q)) rfl (by rfl) rfl rfl (by simp) (HM113.out.part 8 rfl (b3C_sub hq3)) Try.underlying27 rfl (by kernel_rfl) rfl ?_
            simp only [Act.put, List.setIfInBounds_toArray, List.set_cons_succ, List.set_cons_zero]
            refine wpS_nil ?_
            refine wpT_ready 6 [10] (by kernel_rfl) (allT_cons ?_ (allT_cons ?_ allT_nil))
            · refine opT_S (by kernel_rfl) ?_
              refine wpS_doesU2 (i := 6) (d := some 67) (rem := [_, _, _, _, _]) rfl (by rfl) rfl Try.call9 (DoesU.ofList (bjoin_d (listT [_, _, _, _, _, _]) _ (A.b q) (readsAt 0 rfl rfl rfl hq3) (Nat.le_trans (hIA.out.may q hq3).len (by decide)) _ (B.b q) (readsAt 3 rfl rfl rfl hq3) (Nat.le_trans (hIB.out.may q hq3).len (by decide)) y 0 hy.out)) rfl rfl HM113.out [5, 5, 5, 2, 2, 2] rfl (covS_box 2 rfl (covS_box 3 rfl covS_nil)) (fun _ => rfl) rfl ?_
              rintro u117 W115 hm114 hg116
              obtain ⟨py, cy, rfl, hm114q⟩ := Mem.bagE rfl hm114
              clear hm114
              have HM118 := Lib.hid hm114q
              clear hm114q
              simp only [Act.put, List.setIfInBounds_toArray, List.set_cons_succ, List.set_cons_zero]
              refine wpS_nil ?_
              refine wpT_takeS (i := 7) (by kernel_rfl) (by kernel_rfl) ?_
              refine wpS_stay [7] rfl (by kernel_rfl) (by simp only [pickL, nthL, List.cons_append, List.nil_append]; rfl) ?_
              repeat (go_big_quiet_step (fail))
              refine wpQuiet_nil ?_
              refine wpS_nil ?_
              refine wpT_takeS (i := 8) (by kernel_rfl) (by kernel_rfl) ?_
              refine wpS_stay [8] rfl (by kernel_rfl) (by simp only [pickL, nthL, List.cons_append, List.nil_append]; rfl) ?_
              repeat (go_big_quiet_step (fail))
              refine wpQuiet_nil ?_
              refine wpS_nil ?_
              refine wpT_takeS (i := 9) (by kernel_rfl) (by kernel_rfl) ?_
              refine wpS_stay [9] rfl (by kernel_rfl) (by simp only [pickL, nthL, List.cons_append, List.nil_append]; rfl) ?_
              repeat (go_big_quiet_step (fail))
              refine wpQuiet_nil ?_
              refine wpS_nil ?_
              refine wpT_ready 10 [] (by kernel_rfl) (allT_cons ?_ allT_nil)
              refine opT_S (by kernel_rfl) ?_
              refine wpS_alloc (i := 10) (dd := 12) (z := bgV noB.k (.slice none 0 0)) (cs := (bgC noB.k (.slice none 0 0)).toArray) rfl (by rfl) rfl (by kernel_rfl) rfl HM118.out (covS_box 9 rfl (covS_box 10 rfl covS_nil)) rfl ?_
              rintro b122 W121 hm120 hg119
              have HM123 := Lib.hid hm120
              clear hm120
              simp only [Act.put, List.setIfInBounds_toArray, List.set_cons_succ, List.set_cons_zero]
              refine wpS_nil ?_
              refine wpT_ready 11 [] (by kernel_rfl) (allT_cons ?_ allT_nil)
              refine opT_S (by kernel_rfl) ?_
              refine wpS_storeA (i := 11) (L2 := [_, _, _, _, _, _, _, _, _, _, _, _]) (cs' := bgC (y.k) (.slice py y.v.length cy)) rfl (by rfl) rfl rfl rfl (by kernel_rfl) (bgC_one _ _ _) HM123.out 0 rfl rfl (by kernel_rfl) (by kernel_rfl) (covS_box 9 rfl (covS_box 10 rfl covS_nil)) rfl ?_
              rintro W126 hm125 hg124
              have HM127 := Lib.hid hm125
              clear hm125
              refine wpS_nil ?_
              refine wpT_takeS (i := 12) (by kernel_rfl) (by kernel_rfl) ?_
              refine wpS_stay [12] rfl (by kernel_rfl) (by simp only [pickL, nthL, List.cons_append, List.nil_append]; rfl) ?_
              repeat (go_big_quiet_step (fail))
              refine wpQuiet_nil ?_
              refine wpS_nil ?_
              refine wpT_end (by kernel_rfl) ?_
              refine then_normal ?_
              refine ⟨by kernel_rfl, ?_⟩
              exact ⟨_, _, _, rfl, rfl, (Mem.only (M := [_, _, _, _, _, _, _, _, _, _, _, _, _]) HM127.out [1, 0, 6, 6, 3, 3, 3, 0, 0, 0, 0, 0, 0] rfl)⟩
            · refine opT_S (by kernel_rfl) ?_
              refine wpS_alloc (i := 10) (dd := 12) (z := bgV noB.k (.slice none 0 0)) (cs := (bgC noB.k (.slice none 0 0)).toArray) rfl (by rfl) rfl (by kernel_rfl) rfl HM113.out (covS_box 8 rfl (covS_box 9 rfl covS_nil)) rfl ?_
              rintro b131 W130 hm129 hg128
              have HM132 := Lib.hid hm129
              clear hm129
              simp only [Act.put, List.setIfInBounds_toArray, List.set_cons_succ, List.set_cons_zero]
              refine wpS_nil ?_
              refine wpT_ready 6 [] (by kernel_rfl) (allT_cons ?_ allT_nil)
              refine opT_S (by kernel_rfl) ?_
              refine wpS_doesU2 (i := 6) (d := some 67) (rem := [_, _, _, _, _, _]) rfl (by rfl) rfl Try.call9 (DoesU.ofList (bjoin_d (listT [_, _, _, _, _, _]) _ (A.b q) (readsAt 0 rfl rfl rfl hq3) (Nat.le_trans (hIA.out.may q hq3).len (by decide)) _ (B.b q) (readsAt 3 rfl rfl rfl hq3) (Nat.le_trans (hIB.out.may q hq3).len (by decide)) y 0 hy.out)) rfl rfl HM132.out [6, 6, 6, 3, 3, 3] rfl (covS_box 3 rfl (covS_box 4 rfl covS_nil)) (fun _ => rfl) rfl ?_
              rintro u136 W134 hm133 hg135
              obtain ⟨py, cy, rfl, hm133q⟩ := Mem.bagE rfl hm133
              clear hm133
              have HM137 := Lib.hid hm133q
              clear hm133q
              simp only [Act.put, List.setIfInBounds_toArray, List.set_cons_succ, List.set_cons_zero]
              refine wpS_nil ?_
              refine wpT_takeS (i := 7) (by kernel_rfl) (by kernel_rfl) ?_
              refine wpS_stay [7] rfl (by kernel_rfl) (by simp only [pickL, nthL, List.cons_append, List.nil_append]; rfl) ?_
              repeat (go_big_quiet_step (fail))
              refine wpQuiet_nil ?_
              refine wpS_nil ?_
              refine wpT_takeS (i := 8) (by kernel_rfl) (by kernel_rfl) ?_
              refine wpS_stay [8] rfl (by kernel_rfl) (by simp only [pickL, nthL, List.cons_append, List.nil_append]; rfl) ?_
              repeat (go_big_quiet_step (fail))
              refine wpQuiet_nil ?_
              refine wpS_nil ?_
              refine wpT_takeS (i := 9) (by kernel_rfl) (by kernel_rfl) ?_
              refine wpS_stay [9] rfl (by kernel_rfl) (by simp only [pickL, nthL, List.cons_append, List.nil_append]; rfl) ?_
              repeat (go_big_quiet_step (fail))
              refine wpQuiet_nil ?_
              refine wpS_nil ?_
              refine wpT_ready 11 [] (by kernel_rfl) (allT_cons ?_ allT_nil)
              refine opT_S (by kernel_rfl) ?_
              refine wpS_storeA (i := 11) (L2 := [_, _, _, _, _, _, _, _, _, _, _, _]) (cs' := bgC (y.k) (.slice py y.v.length cy)) rfl (by rfl) rfl rfl rfl (by kernel_rfl) (bgC_one _ _ _) HM137.out 7 rfl rfl (by kernel_rfl) (by kernel_rfl) (covS_box 9 rfl (covS_box 10 rfl covS_nil)) rfl ?_
              rintro W140 hm139 hg138
              have HM141 := Lib.hid hm139
              clear hm139
              refine wpS_nil ?_
              refine wpT_takeS (i := 12) (by kernel_rfl) (by kernel_rfl) ?_
              refine wpS_stay [12] rfl (by kernel_rfl) (by simp only [pickL, nthL, List.cons_append, List.nil_append]; rfl) ?_
              repeat (go_big_quiet_step (fail))
              refine wpQuiet_nil ?_
              refine wpS_nil ?_
              refine wpT_end (by kernel_rfl) ?_
              refine then_normal ?_
              refine ⟨by kernel_rfl, ?_⟩
              exact ⟨_, _, _, rfl, rfl, (Mem.only (M := [_, _, _, _, _, _, _, _, _, _, _, _, _]) HM141.out [1, 0, 6, 6, 3, 3, 3, 0, 0, 0, 0, 0, 0] rfl)⟩
          rintro vs W' ⟨yb, py, cy, e12, e13, hm⟩
          simp only [putAll, List.map_cons, List.map_nil, Act.put, List.setIfInBounds_toArray, List.set_cons_succ, List.set_cons_zero]
          rw [e12, e13]
          clear e12 e13
          have HM142 := Lib.hid hm
          clear hm
          refine then_normal ?_
          refine wp_seq ?_
          refine wp_cut_F [14, 15, 70, 71, 72, 73, 74, 75, 76, 77, 78, 79] (fun vs W' => ∃ (zb : Nat) (pz : Option Addr) (cz : Nat), vs 14 = .pointer (some ⟨zb, 0, none⟩) ∧ vs 15 = .int .i64 0 ∧ Mem [rowT elemV (.slice pz z.v.length cz) z.v, boxT zb (.cells (bgC z.k (.slice pz z.v.length cz)).toArray 27 (0, 0)), rowT elemV (.slice py y.v.length cy) y.v, boxT yb (.cells (bgC y.k (.slice py y.v.length cy)).toArray 27 (0, 0)), rowT elemV (.slice px x.v.length cx) x.v, boxT xb (.cells (bgC x.k (.slice px x.v.length cx)).toArray 27 (0, 0)), rowB B.b PB 0, rowB B.b PB 1, rowB B.b PB 2, rowB A.b PA 0, rowB A.b PA 1, rowB A.b PA 2, boxT b74 (.cells (b3C (hb3 B.b PB)).toArray 28 (0, 0)), boxT b49 (.cells (b3C (hb3 A.b PA)).toArray 28 (0, 0)), oldT W0] H w W') ?_ ?_
          · refine wp_region_taken [] (fun k => k ∈ ([b74, b49] : List Nat)) (by kernel_rfl) rfl rfl ?_
            have hm143 := HM142.out.drew
            have HM144 := Lib.hid hm143
            clear hm143
            refine wpT_takeS (i := 0) (by kernel_rfl) (by kernel_rfl) ?_
            refine wpS_stay [0] rfl (by kernel_rfl) (by simp only [pickL, nthL, List.cons_append, List.nil_append]; rfl) ?_
            repeat (go_big_quiet_step (fail))
            refine wpQuiet_nil ?_
            refine wpS_nil ?_
            refine wpT_takeS (i := 1) (by kernel_rfl) (by kernel_rfl) ?_
            refine wpS_read2 (i := 1) (d := some 72) rfl (by rfl) (fun _ _ => run_addrB3 hq3 rfl rfl rfl) rfl ?_
            simp only [Act.put, List.setIfInBounds_toArray, List.set_cons_succ, List.set_cons_zero]
            refine wpS_nil ?_
            refine wpT_takeS (i := 2) (by kernel_rfl) (by kernel_rfl) ?_
            refine wpS_loadA2 (i := 2) (d := some 73) (cells := hbC ((hb3 B.b PB) q)) rfl (by rfl) rfl rfl (by simp) (HM144.out.part 10 rfl (b3C_sub hq3)) Try.underlying27 rfl (by kernel_rfl) rfl ?_
            simp only [Act.put, List.setIfInBounds_toArray, List.set_cons_succ, List.set_cons_zero]
            refine wpS_nil ?_
            refine wpT_takeS (i := 3) (by kernel_rfl) (by kernel_rfl) ?_
            refine wpS_stay [3] rfl (by kernel_rfl) (by simp only [pickL, nthL, List.cons_append, List.nil_append]; rfl) ?_
            repeat (go_big_quiet_step (fail))
            refine wpQuiet_nil ?_
            refine wpS_nil ?_
            refine wpT_takeS (i := 4) (by kernel_rfl) (by kernel_rfl) ?_
            refine wpS_read2 (i := 4) (d := some 75) rfl (by rfl) (fun _ _ => run_addrB3 hq3 rfl rfl rfl) rfl ?_
            simp only [Act.put, List.setIfInBounds_toArray, List.set_cons_succ, List.set_cons_zero]
            refine wpS_nil ?_
            refine wpT_takeS (i := 5) (by kernel_rfl) (by kernel_rfl) ?_
            refine wpS_loadA2 (i := 5) (d := some 76) (cells := hbC ((hb3 A.b PA) q)) rfl (by rfl) rfl rfl (by simp) (HM144.out.part 11 rfl (b3C_sub hq3)) Try.underlying27 rfl (by kernel_rfl) rfl ?_
            simp only [Act.put, List.setIfInBounds_toArray, List.set_cons_succ, List.set_cons_zero]
            refine wpS_nil ?_
            refine wpT_ready 6 [10] (by kernel_rfl) (allT_cons ?_ (allT_cons ?_ allT_nil))
            · refine opT_S (by kernel_rfl) ?_
              refine wpS_doesU2 (i := 6) (d := some 77) (rem := [_, _, _, _, _, _, _]) rfl (by rfl) rfl Try.call9 (DoesU.ofList (bjoin_d (listT [_, _, _, _, _, _]) _ (B.b q) (readsAt 3 rfl rfl rfl hq3) (Nat.le_trans (hIB.out.may q hq3).len (by decide)) _ (A.b q) (readsAt 0 rfl rfl rfl hq3) (Nat.le_trans (hIA.out.may q hq3).len (by decide)) z 0 hz.out)) rfl rfl HM144.out [7, 7, 7, 4, 4, 4] rfl (covS_box 4 rfl (covS_box 5 rfl covS_nil)) (fun _ => rfl) rfl ?_
              rintro u148 W146 hm145 hg147
              obtain ⟨pz, cz, rfl, hm145q⟩ := Mem.bagE rfl hm145
              clear hm145
              have HM149 := Lib.hid hm145q
              clear hm145q
              simp only [Act.put, List.setIfInBounds_toArray, List.set_cons_succ, List.set_cons_zero]
              refine wpS_nil ?_
              refine wpT_takeS (i := 7) (by kernel_rfl) (by kernel_rfl) ?_
              refine wpS_stay [7] rfl (by kernel_rfl) (by simp only [pickL, nthL, List.cons_append, List.nil_append]; rfl) ?_
              repeat (go_big_quiet_step (fail))
              refine wpQuiet_nil ?_
              refine wpS_nil ?_
              refine wpT_takeS (i := 8) (by kernel_rfl) (by kernel_rfl) ?_
              refine wpS_stay [8] rfl (by kernel_rfl) (by simp only [pickL, nthL, List.cons_append, List.nil_append]; rfl) ?_
              repeat (go_big_quiet_step (fail))
              refine wpQuiet_nil ?_
              refine wpS_nil ?_
              refine wpT_takeS (i := 9) (by kernel_rfl) (by kernel_rfl) ?_
              refine wpS_stay [9] rfl (by kernel_rfl) (by simp only [pickL, nthL, List.cons_append, List.nil_append]; rfl) ?_
              repeat (go_big_quiet_step (fail))
              refine wpQuiet_nil ?_
              refine wpS_nil ?_
              refine wpT_ready 10 [] (by kernel_rfl) (allT_cons ?_ allT_nil)
              refine opT_S (by kernel_rfl) ?_
              refine wpS_alloc (i := 10) (dd := 14) (z := bgV noB.k (.slice none 0 0)) (cs := (bgC noB.k (.slice none 0 0)).toArray) rfl (by rfl) rfl (by kernel_rfl) rfl HM149.out (covS_box 11 rfl (covS_box 12 rfl covS_nil)) rfl ?_
              rintro b153 W152 hm151 hg150
              have HM154 := Lib.hid hm151
              clear hm151
              simp only [Act.put, List.setIfInBounds_toArray, List.set_cons_succ, List.set_cons_zero]
              refine wpS_nil ?_
              refine wpT_ready 11 [] (by kernel_rfl) (allT_cons ?_ allT_nil)
              refine opT_S (by kernel_rfl) ?_
              refine wpS_storeA (i := 11) (L2 := [_, _, _, _, _, _, _, _, _, _, _, _, _, _]) (cs' := bgC (z.k) (.slice pz z.v.length cz)) rfl (by rfl) rfl rfl rfl (by kernel_rfl) (bgC_one _ _ _) HM154.out 0 rfl rfl (by kernel_rfl) (by kernel_rfl) (covS_box 11 rfl (covS_box 12 rfl covS_nil)) rfl ?_
              rintro W157 hm156 hg155
              have HM158 := Lib.hid hm156
              clear hm156
              refine wpS_nil ?_
              refine wpT_takeS (i := 12) (by kernel_rfl) (by kernel_rfl) ?_
              refine wpS_stay [12] rfl (by kernel_rfl) (by simp only [pickL, nthL, List.cons_append, List.nil_append]; rfl) ?_
              repeat (go_big_quiet_step (fail))
              refine wpQuiet_nil ?_
              refine wpS_nil ?_
              refine wpT_end (by kernel_rfl) ?_
              refine then_normal ?_
              refine ⟨by kernel_rfl, ?_⟩
              exact ⟨_, _, _, rfl, rfl, (Mem.only (M := [_, _, _, _, _, _, _, _, _, _, _, _, _, _, _]) HM158.out [1, 0, 6, 6, 6, 6, 3, 3, 3, 0, 0, 0, 0, 0, 0] rfl)⟩
            · refine opT_S (by kernel_rfl) ?_
              refine wpS_alloc (i := 10) (dd := 14) (z := bgV noB.k (.slice none 0 0)) (cs := (bgC noB.k (.slice none 0 0)).toArray) rfl (by rfl) rfl (by kernel_rfl) rfl HM144.out (covS_box 10 rfl (covS_box 11 rfl covS_nil)) rfl ?_
              rintro b162 W161 hm160 hg159
              have HM163 := Lib.hid hm160
              clear hm160
              simp only [Act.put, List.setIfInBounds_toArray, List.set_cons_succ, List.set_cons_zero]
              refine wpS_nil ?_
              refine wpT_ready 6 [] (by kernel_rfl) (allT_cons ?_ allT_nil)
              refine opT_S (by kernel_rfl) ?_
              refine wpS_doesU2 (i := 6) (d := some 77) (rem := [_, _, _, _, _, _, _, _]) rfl (by rfl) rfl Try.call9 (DoesU.ofList (bjoin_d (listT [_, _, _, _, _, _]) _ (B.b q) (readsAt 3 rfl rfl rfl hq3) (Nat.le_trans (hIB.out.may q hq3).len (by decide)) _ (A.b q) (readsAt 0 rfl rfl rfl hq3) (Nat.le_trans (hIA.out.may q hq3).len (by decide)) z 0 hz.out)) rfl rfl HM163.out [8, 8, 8, 5, 5, 5] rfl (covS_box 5 rfl (covS_box 6 rfl covS_nil)) (fun _ => rfl) rfl ?_
              rintro u167 W165 hm164 hg166
              obtain ⟨pz, cz, rfl, hm164q⟩ := Mem.bagE rfl hm164
              clear hm164
              have HM168 := Lib.hid hm164q
              clear hm164q
              simp only [Act.put, List.setIfInBounds_toArray, List.set_cons_succ, List.set_cons_zero]
              refine wpS_nil ?_
              refine wpT_takeS (i := 7) (by kernel_rfl) (by kernel_rfl) ?_
              refine wpS_stay [7] rfl (by kernel_rfl) (by simp only [pickL, nthL, List.cons_append, List.nil_append]; rfl) ?_
              repeat (go_big_quiet_step (fail))
              refine wpQuiet_nil ?_
              refine wpS_nil ?_
              refine wpT_takeS (i := 8) (by kernel_rfl) (by kernel_rfl) ?_
              refine wpS_stay [8] rfl (by kernel_rfl) (by simp only [pickL, nthL, List.cons_append, List.nil_append]; rfl) ?_
              repeat (go_big_quiet_step (fail))
              refine wpQuiet_nil ?_
              refine wpS_nil ?_
              refine wpT_takeS (i := 9) (by kernel_rfl) (by kernel_rfl) ?_
              refine wpS_stay [9] rfl (by kernel_rfl) (by simp only [pickL, nthL, List.cons_append, List.nil_append]; rfl) ?_
              repeat (go_big_quiet_step (fail))
              refine wpQuiet_nil ?_
              refine wpS_nil ?_
              refine wpT_ready 11 [] (by kernel_rfl) (allT_cons ?_ allT_nil)
              refine opT_S (by kernel_rfl) ?_
              refine wpS_storeA (i := 11) (L2 := [_, _, _, _, _, _, _, _, _, _, _, _, _, _]) (cs' := bgC (z.k) (.slice pz z.v.length cz)) rfl (by rfl) rfl rfl rfl (by kernel_rfl) (bgC_one _ _ _) HM168.out 7 rfl rfl (by kernel_rfl) (by kernel_rfl) (covS_box 11 rfl (covS_box 12 rfl covS_nil)) rfl ?_
              rintro W171 hm170 hg169
              have HM172 := Lib.hid hm170
              clear hm170
              refine wpS_nil ?_
              refine wpT_takeS (i := 12) (by kernel_rfl) (by kernel_rfl) ?_
              refine wpS_stay [12] rfl (by kernel_rfl) (by simp only [pickL, nthL, List.cons_append, List.nil_append]; rfl) ?_
              repeat (go_big_quiet_step (fail))
              refine wpQuiet_nil ?_
              refine wpS_nil ?_
              refine wpT_end (by kernel_rfl) ?_
              refine then_normal ?_
              refine ⟨by kernel_rfl, ?_⟩
              exact ⟨_, _, _, rfl, rfl, (Mem.only (M := [_, _, _, _, _, _, _, _, _, _, _, _, _, _, _]) HM172.out [1, 0, 6, 6, 6, 6, 3, 3, 3, 0, 0, 0, 0, 0, 0] rfl)⟩
          rintro vs W' ⟨zb, pz, cz, e14, e15, hm⟩
          simp only [putAll, List.map_cons, List.map_nil, Act.put, List.setIfInBounds_toArray, List.set_cons_succ, List.set_cons_zero]
          rw [e14, e15]
          clear e14 e15
          have HM173 := Lib.hid hm
          clear hm
          refine then_normal ?_
          refine wp_seq ?_
          refine wp_region_M (fun k => k ∈ ([b74, b49, xb, yb, zb] : List Nat)) [(0, 1), (1, 1), (2, 1), (3, 1), (4, 1), (5, 1), (6, 1), (7, 1), (8, 1), (9, 1), (10, 1), (11, 1), (12, 1), (13, 1), (14, 1), (15, 3), (16, 1), (17, 1), (18, 1), (19, 1), (20, 1), (21, 1), (22, 1), (23, 3), (24, 1), (25, 1), (26, 1), (27, 1), (28, 1), (29, 1), (30, 1), (31, 3), (32, 1), (33, 1), (34, 1), (35, 1), (36, 1), (37, 1), (38, 1), (39, 1), (40, 1), (41, 3), (42, 1), (43, 1)] (by kernel_rfl) (by kernel_rfl) HM173.out ?_
          intro W174 hm175
          have HM176 := Lib.hid hm175
          clear hm175
          refine wpS_this [0, 1, 2, 3, 4, 5, 6, 7, 8, 9, 10] rfl (by kernel_rfl) (by simp only [pickL, nthL, List.cons_append, List.nil_append]; rfl) ?_
          repeat (go_big_quiet_step (fail))
          refine wpQuiet_nil ?_
          refine wpS_loadA (i := 11) (d := some 91) (cells := bgC (x.k) (.slice px x.v.length cx)) rfl (by rfl) rfl rfl (HM176.out.part 5 rfl (bgC_all)) Try.underlying27 rfl (by kernel_rfl) rfl ?_
          simp only [Act.put, List.setIfInBounds_toArray, List.set_cons_succ, List.set_cons_zero]
          refine wpS_this [12] rfl (by kernel_rfl) (by simp only [pickL, nthL, List.cons_append, List.nil_append]; rfl) ?_
          repeat (go_big_quiet_step (fail))
          refine wpQuiet_nil ?_
          refine wpS_read (i := 13) (d := some 93) rfl (by rfl) (run_addrB3 hq3 rfl rfl rfl) rfl ?_
          simp only [Act.put, List.setIfInBounds_toArray, List.set_cons_succ, List.set_cons_zero]
          refine wpS_loadA (i := 14) (d := some 94) (cells := hbC ((hb3 B.b PB) q)) rfl (by rfl) rfl rfl (HM176.out.part 12 rfl (b3C_sub hq3)) Try.underlying27 rfl (by kernel_rfl) rfl ?_
          simp only [Act.put, List.setIfInBounds_toArray, List.set_cons_succ, List.set_cons_zero]
          refine wpS_does2 (i := 15) (d := some 95) (rem := [_, _, _, _, _, _, _, _, _, _, _]) (out := [_, _, _, _, _, _, _, _, _, _, _, _, _, _, _]) rfl (by rfl) rfl Try.call10 (Does.ofList (bsame_d (listT [_, _, _, _]) _ x (vL 0 rfl rowT_reads) lx _ (B.b q) (readsAt 1 rfl rfl rfl hq3) (Nat.le_trans (hIB.out.may q hq3).len (by decide)))) rfl rfl HM176.out [4, 5, 5, 5] rfl (covS_box 8 rfl (covS_box 9 rfl (covS_box 4 rfl (covS_box 3 rfl (covS_box 1 rfl covS_nil))))) rfl rfl ?_
          rintro W178 hm177 hg179
          rw [sx.out]
          have HM180 := Lib.hid hm177
          clear hm177
          simp only [Act.put, List.setIfInBounds_toArray, List.set_cons_succ, List.set_cons_zero]
          refine wpS_this [16, 17, 18] rfl (by kernel_rfl) (by simp only [pickL, nthL, List.cons_append, List.nil_append]; rfl) ?_
          repeat (go_big_quiet_step (fail))
          refine wpQuiet_nil ?_
          refine wpS_loadA (i := 19) (d := some 99) (cells := bgC (y.k) (.slice py y.v.length cy)) rfl (by rfl) rfl rfl (HM180.out.part 7 rfl (bgC_all)) Try.underlying27 rfl (by kernel_rfl) rfl ?_
          simp only [Act.put, List.setIfInBounds_toArray, List.set_cons_succ, List.set_cons_zero]
          refine wpS_this [20] rfl (by kernel_rfl) (by simp only [pickL, nthL, List.cons_append, List.nil_append]; rfl) ?_
          repeat (go_big_quiet_step (fail))
          refine wpQuiet_nil ?_
          refine wpS_read (i := 21) (d := some 101) rfl (by rfl) (run_addrB3 hq3 rfl rfl rfl) rfl ?_
          simp only [Act.put, List.setIfInBounds_toArray, List.set_cons_succ, List.set_cons_zero]
          refine wpS_loadA (i := 22) (d := some 102) (cells := hbC ((hb3 B.b PB) q)) rfl (by rfl) rfl rfl (HM180.out.part 12 rfl (b3C_sub hq3)) Try.underlying27 rfl (by kernel_rfl) rfl ?_
          simp only [Act.put, List.setIfInBounds_toArray, List.set_cons_succ, List.set_cons_zero]
          refine wpS_does2 (i := 23) (d := some 103) (rem := [_, _, _, _, _, _, _, _, _, _, _]) (out := [_, _, _, _, _, _, _, _, _, _, _, _, _, _, _]) rfl (by rfl) rfl Try.call10 (Does.ofList (bsame_d (listT [_, _, _, _]) _ y (vL 0 rfl rowT_reads) ly _ (B.b q) (readsAt 1 rfl rfl rfl hq3) (Nat.le_trans (hIB.out.may q hq3).len (by decide)))) rfl rfl HM180.out [6, 1, 1, 1] rfl (covS_box 8 rfl (covS_box 9 rfl (covS_box 4 rfl (covS_box 3 rfl (covS_box 2 rfl covS_nil))))) rfl rfl ?_
          rintro W182 hm181 hg183
          rw [sy.out]
          have HM184 := Lib.hid hm181
          clear hm181
          simp only [Act.put, List.setIfInBounds_toArray, List.set_cons_succ, List.set_cons_zero]
          refine wpS_this [24, 25, 26] rfl (by kernel_rfl) (by simp only [pickL, nthL, List.cons_append, List.nil_append]; rfl) ?_
          repeat (go_big_quiet_step (fail))
          refine wpQuiet_nil ?_
          refine wpS_loadA (i := 27) (d := some 107) (cells := bgC (z.k) (.slice pz z.v.length cz)) rfl (by rfl) rfl rfl (HM184.out.part 6 rfl (bgC_all)) Try.underlying27 rfl (by kernel_rfl) rfl ?_
          simp only [Act.put, List.setIfInBounds_toArray, List.set_cons_succ, List.set_cons_zero]
          refine wpS_this [28] rfl (by kernel_rfl) (by simp only [pickL, nthL, List.cons_append, List.nil_append]; rfl) ?_
          repeat (go_big_quiet_step (fail))
          refine wpQuiet_nil ?_
          refine wpS_read (i := 29) (d := some 109) rfl (by rfl) (run_addrB3 hq3 rfl rfl rfl) rfl ?_
          simp only [Act.put, List.setIfInBounds_toArray, List.set_cons_succ, List.set_cons_zero]
          refine wpS_loadA (i := 30) (d := some 110) (cells := hbC ((hb3 B.b PB) q)) rfl (by rfl) rfl rfl (HM184.out.part 12 rfl (b3C_sub hq3)) Try.underlying27 rfl (by kernel_rfl) rfl ?_
          simp only [Act.put, List.setIfInBounds_toArray, List.set_cons_succ, List.set_cons_zero]
          refine wpS_does2 (i := 31) (d := some 111) (rem := [_, _, _, _, _, _, _, _, _, _, _]) (out := [_, _, _, _, _, _, _, _, _, _, _, _, _, _, _]) rfl (by rfl) rfl Try.call10 (Does.ofList (bsame_d (listT [_, _, _, _]) _ z (vL 0 rfl rowT_reads) lz _ (B.b q) (readsAt 1 rfl rfl rfl hq3) (Nat.le_trans (hIB.out.may q hq3).len (by decide)))) rfl rfl HM184.out [5, 1, 1, 1] rfl (covS_box 8 rfl (covS_box 9 rfl (covS_box 4 rfl (covS_box 3 rfl (covS_box 2 rfl covS_nil))))) rfl rfl ?_
          rintro W186 hm185 hg187
          rw [sz.out]
          have HM188 := Lib.hid hm185
          clear hm185
          simp only [Act.put, List.setIfInBounds_toArray, List.set_cons_succ, List.set_cons_zero]
          refine wpS_this [32, 33, 34, 35] rfl (by kernel_rfl) (by simp only [pickL, nthL, List.cons_append, List.nil_append]; rfl) ?_
          repeat (go_big_quiet_step (fail))
          refine wpQuiet_nil ?_
          refine wpS_read (i := 36) (d := some 116) rfl (by rfl) (run_addrB3 hq3 rfl rfl rfl) rfl ?_
          simp only [Act.put, List.setIfInBounds_toArray, List.set_cons_succ, List.set_cons_zero]
          refine wpS_loadA (i := 37) (d := some 117) (cells := hbC ((hb3 A.b PA) q)) rfl (by rfl) rfl rfl (HM188.out.part 13 rfl (b3C_sub hq3)) Try.underlying27 rfl (by kernel_rfl) rfl ?_
          simp only [Act.put, List.setIfInBounds_toArray, List.set_cons_succ, List.set_cons_zero]
          refine wpS_this [38] rfl (by kernel_rfl) (by simp only [pickL, nthL, List.cons_append, List.nil_append]; rfl) ?_
          repeat (go_big_quiet_step (fail))
          refine wpQuiet_nil ?_
          refine wpS_read (i := 39) (d := some 119) rfl (by rfl) (run_addrB3 hq3 rfl rfl rfl) rfl ?_
          simp only [Act.put, List.setIfInBounds_toArray, List.set_cons_succ, List.set_cons_zero]
          refine wpS_loadA (i := 40) (d := some 120) (cells := hbC ((hb3 B.b PB) q)) rfl (by rfl) rfl rfl (HM188.out.part 12 rfl (b3C_sub hq3)) Try.underlying27 rfl (by kernel_rfl) rfl ?_
          simp only [Act.put, List.setIfInBounds_toArray, List.set_cons_succ, List.set_cons_zero]
          refine wpS_does2 (i := 41) (d := some 121) (rem := [_, _, _, _, _, _, _, _, _]) (out := [_, _, _, _, _, _, _, _, _, _, _, _, _, _, _]) rfl (by rfl) rfl Try.call11 (Does.ofList (bbelow_d (listT [_, _, _, _, _, _]) _ (A.b q) (readsAt 0 rfl rfl rfl hq3) (Nat.le_trans (hIA.out.may q hq3).len (by decide)) _ (B.b q) (readsAt 3 rfl rfl rfl hq3) (Nat.le_trans (hIB.out.may q hq3).len (by decide)))) rfl rfl HM188.out [9, 9, 9, 1, 1, 1] rfl (covS_box 6 rfl (covS_box 7 rfl (covS_box 5 rfl (covS_box 4 rfl (covS_box 3 rfl covS_nil))))) rfl rfl ?_
          rintro W190 hm189 hg191
          rw [hbel.out]
          have HM192 := Lib.hid hm189
          clear hm189
          simp only [Act.put, List.setIfInBounds_toArray, List.set_cons_succ, List.set_cons_zero]
          refine wpS_this [42, 43] rfl (by kernel_rfl) (by simp only [pickL, nthL, List.cons_append, List.nil_append]; rfl) ?_
          repeat (go_big_quiet_step (fail))
          refine wpQuiet_nil ?_
          refine wpS_nil ?_
          refine then_normal ?_
          refine wp_cond_false rfl ?_
          refine wp_skip ?_
          refine block_normal ?_
          refine then_normal ?_
          refine wp_region_N [(0, 1), (1, 1)] (by kernel_rfl) ?_
          refine wpS_this [0, 1] rfl (by kernel_rfl) (by simp only [pickL, nthL, List.cons_append, List.nil_append]; rfl) ?_
          repeat (go_big_quiet_step (fail))
          refine wpQuiet_nil ?_
          refine wpS_nil ?_
          refine then_normal ?_
          refine ⟨by kernel_rfl, ?_⟩
          refine ⟨3 - (q + 1), by omega, q + 1, rfl, rfl, hq1, (Mem.only (M := [_, _, _, _, _, _, _, _, _]) HM192.out [3, 3, 3, 0, 0, 0, 6, 6, 6] rfl)⟩
        · clear h80
          refine wp_exit ?_
          refine then_exit (then_exit (block_exit ?_))
          refine then_normal ?_
          refine wp_seq ?_
          refine wp_region_N [(0, 3), (1, 1)] (by kernel_rfl) ?_
          refine wpS_does0 (i := 0) (d := some 125) (rem := [_, _, _, _, _, _, _, _, _]) (out := [_, _, _, _, _, _, _, _, _]) rfl (by rfl) rfl Try.call8 (bawake_d)  HM79.out [] rfl covS_nil rfl rfl ?_
          rintro W194 hm193 -
          have HM195 := Lib.hid hm193
          clear hm193
          simp only [Act.put, List.setIfInBounds_toArray, List.set_cons_succ, List.set_cons_zero]
          refine wpS_this [1] rfl (by kernel_rfl) (by simp only [pickL, nthL, List.cons_append, List.nil_append]; rfl) ?_
          repeat (go_big_quiet_step (fail))
          refine wpQuiet_nil ?_
          refine wpS_nil ?_
          refine then_normal ?_
          refine wp_ret ?_
          refine bodyPost_ret (results_tmp rfl _ _ _) rfl ?_
          exact does_ret (Mem.only (M := [_]) HM195.out [8] rfl) rfl rfl

end Go.Proofs.Ytneeidedadlioaa
