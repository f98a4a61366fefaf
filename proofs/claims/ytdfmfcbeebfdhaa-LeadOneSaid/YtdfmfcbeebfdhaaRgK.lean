/- RgK: RgB, RgD, RgK. -/
import Derived.Test.YtdfmfcbeebfdhaaRgV
import Derived.Test.YtdfmfcbeebfdhaaRgC
namespace Go.Proofs.Ytdfmfcbeebfdhaa
section
open Go Go.RowKit Go.BigFrame
end
section
open Go Go.RowKit Go.BigFrame
theorem all_next {p : Nat → Prop} {k : Nat} (h : ∀ j, j < k → p j) (hk : p k) : ∀ j, j < k + 1 → p j := fun j hj => by
  rcases Nat.lt_or_eq_of_le (Nat.le_of_lt_succ hj) with h1 | rfl
  · exact h j h1
  · exact hk
theorem mayR_noS {r : Rg} {k : Nat} (hk : k < 8) (h : statB (r.s k) = false) : mayR r = false := by
  unfold mayR
  rw [Bool.and_eq_false_iff]
  refine .inl ?_
  rw [← Bool.not_eq_true, all8]
  intro h1
  rw [h1 k hk] at h
  cases h
theorem mayR_noE {r : Rg} {k : Nat} (hk : k < 16) (h : mayE (r.e k) = false) : mayR r = false := by
  unfold mayR
  rw [Bool.and_eq_false_iff, Bool.and_eq_false_iff]
  refine .inr (.inl ?_)
  rw [← Bool.not_eq_true, all16]
  intro h1
  rw [h1 k hk] at h
  cases h
theorem mayR_p {r : Rg} (h1 : ∀ j, j < 8 → statB (r.s j) = true) (h2 : ∀ j, j < 16 → mayE (r.e j) = true) : mayR r = mayP r.p := by
  unfold mayR
  rw [all8.2 h1, all16.2 h2]
  rfl
end
section
open Go Go.RowKit Go.BigFrame
section
variable {ops : Array Oper} {S : Nat → Prop} {Q : Act → World → Prop} {a : Act} {W w : World} {H0 : Nat → Prop} {rest : List (Nat × Nat)} {i : Nat} {o : Oper} {L : List At} {d : Option Tmp}
theorem run_sliceSt {x : Operand} {b : Nat} (ho : o.op = .slice 22 x none none none) (hx : a.eval x = .pointer (some ⟨b, 0, none⟩)) : (execOp a.eval o).run Try.prog W = .ok (.value (.slice (some ⟨b, 0, none⟩) 8 8)) W := by
  have hu : (underlying 22).run Try.prog W = .ok (.array 8 3) W := by simp [underlying, Try.underlying22, go_sem]
  have hs := int_size W
  unfold execOp
  simp only [ho, hx, Option.map_none, Instr.sliceAt, Instr.sliceBounds, Instr.sureAddr, Sem.run_bind, Sem.run_pure, Result.andThen_ok, hu, hs]
  simp [addr_off, go_sem]
theorem run_sliceEnt {x : Operand} {b off : Nat} (ho : o.op = .slice 28 x none none none) (hx : a.eval x = .pointer (some ⟨b, off, none⟩)) : (execOp a.eval o).run Try.prog W = .ok (.value (.slice (some ⟨b, off, none⟩) 16 16)) W := by
  have hu : (underlying 28).run Try.prog W = .ok (.array 16 27) W := by simp [underlying, go_sem]
  have hs := ent_size W
  unfold execOp
  simp only [ho, hx, Option.map_none, Instr.sliceAt, Instr.sliceBounds, Instr.sureAddr, Sem.run_bind, Sem.run_pure, Result.andThen_ok, hu, hs]
  simp [addr_off, go_sem]
theorem run_addrSlI {x ix : Operand} {b n c j : Nat} (hj : j < n) (ho : o.op = .indexAddr 23 x ix) (hx : a.eval x = .slice (some ⟨b, 0, none⟩) n c) (hix : a.eval ix = .int .i64 (j : Int)) : (execOp a.eval o).run Try.prog W = .ok (.value (.pointer (some ⟨b, j, none⟩))) W := by
  have hu : (underlying 23).run Try.prog W = .ok (.slice 3) W := by simp [underlying, Try.underlying23, go_sem]
  have hs := int_size W
  unfold execOp
  simp only [ho, hx, hix, Instr.indexAt, asIntOf, Sem.run_bind, Sem.run_pure, Result.andThen_ok, hu]
  simp [hs, hj, addr_off, go_sem]
theorem run_addrSlE {x ix : Operand} {b off n c j : Nat} (hj : j < n) (ho : o.op = .indexAddr 63 x ix) (hx : a.eval x = .slice (some ⟨b, off, none⟩) n c) (hix : a.eval ix = .int .i64 (j : Int)) : (execOp a.eval o).run Try.prog W = .ok (.value (.pointer (some ⟨b, off + j * 2, none⟩))) W := by
  have hu : (underlying 63).run Try.prog W = .ok (.slice 27) W := by simp [underlying, Try.underlying63, go_sem]
  have hs := ent_size W
  unfold execOp
  simp only [ho, hx, hix, Instr.indexAt, asIntOf, Sem.run_bind, Sem.run_pure, Result.andThen_ok, hu]
  simp [hs, hj, addr_off, go_sem]
theorem wpS_func2 {P : Program} {fn : Fn} {x1 x2 : Operand} {v1 v2 : Value} (hi : ops[i]? = some o) (hw : Region.wanted o (yielded ops a.tmps) = true) (ho : o.op = .makeFunc fn #[] #[x1, x2]) (h1 : a.eval x1 = v1) (h2 : a.eval x2 = v2) (hd : o.dst = d) (h : wpS P ops S Q rest (a.put d (.func fn #[] #[v1, v2])) W) : wpS P ops S Q ((i, 0) :: rest) a W := wpS_func hi hw ho (by simp [h1, h2]) hd h
theorem wpS_func3 {P : Program} {fn : Fn} {x1 x2 x3 : Operand} {v1 v2 v3 : Value} (hi : ops[i]? = some o) (hw : Region.wanted o (yielded ops a.tmps) = true) (ho : o.op = .makeFunc fn #[] #[x1, x2, x3]) (h1 : a.eval x1 = v1) (h2 : a.eval x2 = v2) (h3 : a.eval x3 = v3) (hd : o.dst = d) (h : wpS P ops S Q rest (a.put d (.func fn #[] #[v1, v2, v3])) W) : wpS P ops S Q ((i, 0) :: rest) a W := wpS_func hi hw ho (by simp [h1, h2, h3]) hd h
end
theorem Does.toList {pr : Program} {f : FuncId} {args : Array Value} {v : Value} {pre : List At} (h : Does pr f args pre v pre) : Does pr f args [listT pre] v [listT pre] := fun W H hs => (h W H (emp_right hs)).mono fun _e _W' ⟨he, hr⟩ => ⟨he, SEnd.mono hr fun _ h => star_comm (starl_emp (Q := stars pre) h)⟩
def partB (p : Int) : Bool := decide (0 ≤ p ∧ p < 16)
def selN (p : Nat → Bool) (k : Nat) : List Int := ((List.range k).filter p).map fun i : Nat => (i : Int)
theorem selN_hit {p : Nat → Bool} {k : Nat} (h : p k = true) : selN p (k + 1) = selN p k ++ [(k : Int)] := by
  unfold selN
  rw [List.range_succ, List.filter_append, List.map_append]
  simp [h]
theorem selN_miss {p : Nat → Bool} {k : Nat} (h : p k = false) : selN p (k + 1) = selN p k := by
  unfold selN
  rw [List.range_succ, List.filter_append, List.map_append]
  simp [h]
theorem selN_len (p : Nat → Bool) (k : Nat) : (selN p k).length ≤ k := by
  unfold selN
  rw [List.length_map]
  exact Nat.le_trans (List.length_filter_le _ _) (by simp)
theorem all8_no {f : Nat → Int} {p : Int → Bool} {k : Nat} (hk : k < 8) (h : p (f k) = false) : (tab8 f).all p = false := by
  rw [← Bool.not_eq_true, all8]
  intro h1
  rw [h1 k hk] at h
  cases h
theorem all16_no {f : Nat → En} {p : En → Bool} {k : Nat} (hk : k < 16) (h : p (f k) = false) : (tab16 f).all p = false := by
  rw [← Bool.not_eq_true, all16]
  intro h1
  rw [h1 k hk] at h
  cases h
theorem upd_next {β : Type} (f g : Nat → β) (k : Nat) : upd (fun i => if i < k then f i else g i) k (f k) = fun i => if i < k + 1 then f i else g i := by
  funext j
  unfold upd
  by_cases h1 : j = k
  · subst h1
    rw [if_pos rfl, if_pos (by omega)]
  · rw [if_neg h1]
    dsimp only
    by_cases h2 : j < k
    · rw [if_pos h2, if_pos (by omega)]
    · rw [if_neg h2, if_neg (by omega)]
theorem upd_none {β : Type} (f g : Nat → β) : (fun i => if i < 0 then f i else g i) = g := by
  funext j
  rw [if_neg (by omega)]
theorem rgC_setSl (r : Rg) (sl sl' : Value) : (rgC r sl).set 10 sl' = rgC r sl' := by kernel_rfl
theorem nat_of {n : Int} (h : 0 ≤ n) : ∃ m : Nat, n = (m : Int) := ⟨n.toNat, by omega⟩
theorem cmpB (a b : Pl) : decide (((a.1, a.2.1, a.2.2) : Pl) = (b.1, b.2.1, b.2.2)) = (cmpP a b == 0) := by
  rw [Bool.eq_iff_iff, decide_eq_true_iff, beq_iff_eq, cmpP_zero]
theorem istat_any (n : Int) (w : World) : Gives Try.prog 30 #[.int .i64 n] w (.bool (statB n)) := by
  unfold Gives
  by_cases q0 : 0 ≤ n <;> by_cases q1 : n ≤ 4
  all_goals try (exfalso; omega)
  all_goals first | (have H : Hid (statB n = true) := Lib.hid (by simp [statB]; omega)) | (have H : Hid (statB n = false) := Lib.hid (by simp [statB]; omega))
  all_goals
    go_enter Try.func30, Try.ntmps30
    go_wp2
    all_goals go_ret
    all_goals exact ⟨by rw [H.out]; rfl, Later.ex (by repeat (first | exact ext_refl _ | refine ext_alloc ?_ _ | refine ext_later ?_ _ | refine ext_drew ?_ | refine ext_drewN ?_ _))⟩
theorem istat_d (n : Int) : Does Try.prog 30 #[.int .i64 n] [] (.bool (statB n)) [] := Does.of_any fun w => istat_any n w
theorem isnode_any (n : Int) (w : World) : Gives Try.prog 44 #[.int .i64 n] w (.bool (nodeE n)) := by
  unfold Gives
  by_cases q0 : 0 ≤ n <;> by_cases q1 : n < 8
  all_goals try (exfalso; omega)
  all_goals first | (have H : Hid (nodeE n = true) := Lib.hid (by simp [nodeE]; omega)) | (have H : Hid (nodeE n = false) := Lib.hid (by simp [nodeE]; omega))
  all_goals
    go_enter Try.func44, Try.ntmps44
    go_wp2
    all_goals go_ret
    all_goals exact ⟨by rw [H.out]; rfl, Later.ex (by repeat (first | exact ext_refl _ | refine ext_alloc ?_ _ | refine ext_later ?_ _ | refine ext_drew ?_ | refine ext_drewN ?_ _))⟩
theorem isnode_d (n : Int) : Does Try.prog 44 #[.int .i64 n] [] (.bool (nodeE n)) [] := Does.of_any fun w => isnode_any n w
theorem ispart_any (n : Int) (w : World) : Gives Try.prog 37 #[.int .i64 n] w (.bool (partB n)) := by
  unfold Gives
  by_cases q0 : 0 ≤ n <;> by_cases q1 : n < 16
  all_goals try (exfalso; omega)
  all_goals first | (have H : Hid (partB n = true) := Lib.hid (by simp [partB]; omega)) | (have H : Hid (partB n = false) := Lib.hid (by simp [partB]; omega))
  all_goals
    go_enter Try.func37, Try.ntmps37
    go_wp2
    all_goals go_ret
    all_goals exact ⟨by rw [H.out]; rfl, Later.ex (by repeat (first | exact ext_refl _ | refine ext_alloc ?_ _ | refine ext_later ?_ _ | refine ext_drew ?_ | refine ext_drewN ?_ _))⟩
theorem ispart_d (n : Int) : Does Try.prog 37 #[.int .i64 n] [] (.bool (partB n)) [] := Does.of_any fun w => ispart_any n w
set_option maxHeartbeats 4000000 in
set_option maxRecDepth 100000 in
theorem everyS_d (b : Nat) (a : Rg) (sl : Value) : Does Try.prog 29 #[.slice (some ⟨b, 0, none⟩) 8 8, .func (.func 30) #[] #[]] [boxT b (.cells (rgC a (sl)).toArray 30 (0, 0))] (.bool ((tab8 a.s).all statB)) [boxT b (.cells (rgC a (sl)).toArray 30 (0, 0))] := by
  intro w H hp
  have HM0 := Lib.hid (mem_refl hp)
  clear hp
  go_enter Try.func29, Try.ntmps29
  refine wp_seq ?_
  refine wp_region_N [(0, 1)] (by kernel_rfl) ?_
  refine wpS_this [0] rfl (by kernel_rfl) (by simp only [pickL, nthL, List.cons_append, List.nil_append]; rfl) ?_
  repeat (go_big_quiet_step (fail))
  refine wpQuiet_nil ?_
  refine wpS_nil ?_
  refine then_normal ?_
  refine wp_seq ?_
  refine wp_seq ?_
  refine wp_region_N [(0, 1), (1, 1), (2, 1)] (by kernel_rfl) ?_
  refine wpS_this [0, 1, 2] rfl (by kernel_rfl) (by simp only [pickL, nthL, List.cons_append, List.nil_append]; rfl) ?_
  repeat (go_big_quiet_step (fail))
  refine wpQuiet_nil ?_
  refine wpS_nil ?_
  refine then_normal ?_
  refine wp_block ?_
  refine wp_loop_F [4, 6, 9, 10, 11, 12, 13, 14, 15, 16, 17] (fun n vs W' => ∃ k : Nat, n = 8 - k ∧ vs 9 = .int .i64 (k : Int) ∧ k ≤ 8 ∧ (∀ j, j < k → statB (a.s j) = true) ∧ Mem [boxT b (.cells (rgC a (sl)).toArray 30 (0, 0))] H w W') (n0 := 8) ?_ ?_
  · exact ⟨0, rfl, rfl, Nat.zero_le _, fun j h => by omega, (Mem.only (M := [_]) HM0.out [0] rfl)⟩
  rintro n vs W' ⟨k, rfl, e9, hk, hf', hm⟩
  simp only [putAll, List.map_cons, List.map_nil, Act.put, List.setIfInBounds_toArray, List.set_cons_succ, List.set_cons_zero]
  rw [e9]
  clear e9
  have hf := Lib.hid hf'
  clear hf'
  have HM1 := Lib.hid hm
  clear hm
  refine wp_seq ?_
  refine wp_region_N [(0, 1)] (by kernel_rfl) ?_
  refine wpS_this [0] rfl (by kernel_rfl) (by simp only [pickL, nthL, List.cons_append, List.nil_append]; rfl) ?_
  repeat (go_big_quiet_step (fail))
  refine wpQuiet_nil ?_
  refine wpS_nil ?_
  refine then_normal ?_
  refine wp_seq ?_
  refine wp_cond_split rfl (fun h2 => ?_) (fun h2 => ?_)
  · have hk1 : k + 1 ≤ 8 := by have : (k : Int) < 8 := (by simpa using h2); omega
    clear h2
    refine wp_skip ?_
    refine then_normal ?_
    refine wp_seq ?_
    refine wp_block ?_
    refine wp_seq ?_
    refine wp_region_N [(0, 1), (1, 1), (2, 1)] (by kernel_rfl) ?_
    refine wpS_read (i := 0) (d := some 11) rfl (by rfl) (run_addrSlI (show k < 8 by omega) rfl rfl rfl) rfl ?_
    simp only [Act.put, List.setIfInBounds_toArray, List.set_cons_succ, List.set_cons_zero]
    refine wpS_load1 (i := 1) (d := some 12) (u := _) rfl (by rfl) rfl rfl (HM1.out.sub1 0 rfl (rgC_s (show k < 8 by omega))) Try.underlying3 rfl rfl ?_
    simp only [Act.put, List.setIfInBounds_toArray, List.set_cons_succ, List.set_cons_zero]
    refine wpS_this [2] rfl (by kernel_rfl) (by simp only [pickL, nthL, List.cons_append, List.nil_append]; rfl) ?_
    repeat (go_big_quiet_step (fail))
    refine wpQuiet_nil ?_
    refine wpS_nil ?_
    refine then_normal ?_
    refine wp_seq ?_
    rcases Bool.eq_false_or_eq_true (statB (a.s k)) with hst | hst
    · replace hst := Lib.hid hst
      refine wp_region_N [(0, 1), (1, 1), (2, 3), (3, 1)] (by kernel_rfl) ?_
      refine wpS_this [0, 1] rfl (by kernel_rfl) (by simp only [pickL, nthL, List.cons_append, List.nil_append]; rfl) ?_
      repeat (go_big_quiet_step (fail))
      refine wpQuiet_nil ?_
      refine wpS_doesV1 (i := 2) (d := some 15) (rem := [_]) (out := [_]) rfl (by rfl) rfl rfl Try.call30 (istat_d (a.s k)) rfl rfl HM1.out [] rfl covS_nil rfl rfl ?_
      rintro W4 hm3 -
      rw [hst.out]
      have HM5 := Lib.hid hm3
      clear hm3
      simp only [Act.put, List.setIfInBounds_toArray, List.set_cons_succ, List.set_cons_zero]
      refine wpS_this [3] rfl (by kernel_rfl) (by simp only [pickL, nthL, List.cons_append, List.nil_append]; rfl) ?_
      repeat (go_big_quiet_step (fail))
      refine wpQuiet_nil ?_
      refine wpS_nil ?_
      refine then_normal ?_
      refine wp_cond_false rfl ?_
      refine wp_skip ?_
      refine block_normal ?_
      refine then_normal ?_
      refine wp_region_N [(0, 1), (1, 1)] (by kernel_rfl) ?_
      refine wpS_this [0, 1] rfl (by kernel_rfl) (by simp only [pickL, nthL, List.cons_append, List.nil_append]; rfl) ?_
      repeat (go_big_quiet_step (fail))
      refine wpQuiet_nil ?_
      refine wpS_nil ?_
      refine then_normal ?_
      refine ⟨by kernel_rfl, ?_⟩
      refine ⟨8 - (k + 1), by omega, k + 1, rfl, rfl, hk1, all_next hf.out hst.out, (Mem.only (M := [_]) HM5.out [0] rfl)⟩
    · replace hst := Lib.hid hst
      refine wp_region_N [(0, 1), (1, 1), (2, 3), (3, 1)] (by kernel_rfl) ?_
      refine wpS_this [0, 1] rfl (by kernel_rfl) (by simp only [pickL, nthL, List.cons_append, List.nil_append]; rfl) ?_
      repeat (go_big_quiet_step (fail))
      refine wpQuiet_nil ?_
      refine wpS_doesV1 (i := 2) (d := some 15) (rem := [_]) (out := [_]) rfl (by rfl) rfl rfl Try.call30 (istat_d (a.s k)) rfl rfl HM1.out [] rfl covS_nil rfl rfl ?_
      rintro W7 hm6 -
      rw [hst.out]
      have HM8 := Lib.hid hm6
      clear hm6
      simp only [Act.put, List.setIfInBounds_toArray, List.set_cons_succ, List.set_cons_zero]
      refine wpS_this [3] rfl (by kernel_rfl) (by simp only [pickL, nthL, List.cons_append, List.nil_append]; rfl) ?_
      repeat (go_big_quiet_step (fail))
      refine wpQuiet_nil ?_
      refine wpS_nil ?_
      refine then_normal ?_
      refine wp_cond_true rfl ?_
      refine wp_seq ?_
      refine wp_region_N [(0, 1)] (by kernel_rfl) ?_
      refine wpS_this [0] rfl (by kernel_rfl) (by simp only [pickL, nthL, List.cons_append, List.nil_append]; rfl) ?_
      repeat (go_big_quiet_step (fail))
      refine wpQuiet_nil ?_
      refine wpS_nil ?_
      refine then_normal ?_
      refine wp_ret ?_
      refine block_ret (then_ret (then_ret (block_ret (then_ret ?_))))
      refine bodyPost_ret (results_tmp rfl _ _ _) rfl ?_
      rw [all8_no (show k < 8 by omega) hst.out]
      exact does_ret (Mem.only (M := [_]) HM8.out [0] rfl) rfl rfl
  · have hk8 : Hid (8 ≤ k) := Lib.hid (by have : ¬ (k : Int) < 8 := (by simpa using h2); omega)
    clear h2
    refine wp_exit ?_
    refine then_exit (then_exit (block_exit ?_))
    refine then_normal ?_
    refine wp_seq ?_
    refine wp_region_N [(0, 1)] (by kernel_rfl) ?_
    refine wpS_this [0] rfl (by kernel_rfl) (by simp only [pickL, nthL, List.cons_append, List.nil_append]; rfl) ?_
    repeat (go_big_quiet_step (fail))
    refine wpQuiet_nil ?_
    refine wpS_nil ?_
    refine then_normal ?_
    refine wp_ret ?_
    refine bodyPost_ret (results_tmp rfl _ _ _) rfl ?_
    rw [all8.2 fun j hj => hf.out j (by have := hk8.out; omega)]
    exact does_ret (Mem.only (M := [_]) HM1.out [0] rfl) rfl rfl
set_option maxHeartbeats 4000000 in
set_option maxRecDepth 100000 in
theorem everyE_d (b : Nat) (a : Rg) (sl : Value) : Does Try.prog 32 #[.slice (some ⟨b, 11, none⟩) 16 16, .func (.func 33) #[] #[]] [boxT b (.cells (rgC a (sl)).toArray 30 (0, 0))] (.bool ((tab16 a.e).all mayE)) [boxT b (.cells (rgC a (sl)).toArray 30 (0, 0))] := by
  intro w H hp
  have HM0 := Lib.hid (mem_refl hp)
  clear hp
  go_enter Try.func32, Try.ntmps32
  refine wp_seq ?_
  refine wp_region_N [(0, 1)] (by kernel_rfl) ?_
  refine wpS_this [0] rfl (by kernel_rfl) (by simp only [pickL, nthL, List.cons_append, List.nil_append]; rfl) ?_
  repeat (go_big_quiet_step (fail))
  refine wpQuiet_nil ?_
  refine wpS_nil ?_
  refine then_normal ?_
  refine wp_seq ?_
  refine wp_seq ?_
  refine wp_region_N [(0, 1), (1, 1), (2, 1)] (by kernel_rfl) ?_
  refine wpS_this [0, 1, 2] rfl (by kernel_rfl) (by simp only [pickL, nthL, List.cons_append, List.nil_append]; rfl) ?_
  repeat (go_big_quiet_step (fail))
  refine wpQuiet_nil ?_
  refine wpS_nil ?_
  refine then_normal ?_
  refine wp_block ?_
  refine wp_loop_F [4, 6, 9, 10, 11, 12, 13, 14, 15, 16, 17] (fun n vs W' => ∃ k : Nat, n = 16 - k ∧ vs 9 = .int .i64 (k : Int) ∧ k ≤ 16 ∧ (∀ j, j < k → mayE (a.e j) = true) ∧ Mem [boxT b (.cells (rgC a (sl)).toArray 30 (0, 0))] H w W') (n0 := 16) ?_ ?_
  · exact ⟨0, rfl, rfl, Nat.zero_le _, fun j h => by omega, (Mem.only (M := [_]) HM0.out [0] rfl)⟩
  rintro n vs W' ⟨k, rfl, e9, hk, hf', hm⟩
  simp only [putAll, List.map_cons, List.map_nil, Act.put, List.setIfInBounds_toArray, List.set_cons_succ, List.set_cons_zero]
  rw [e9]
  clear e9
  have hf := Lib.hid hf'
  clear hf'
  have HM1 := Lib.hid hm
  clear hm
  refine wp_seq ?_
  refine wp_region_N [(0, 1)] (by kernel_rfl) ?_
  refine wpS_this [0] rfl (by kernel_rfl) (by simp only [pickL, nthL, List.cons_append, List.nil_append]; rfl) ?_
  repeat (go_big_quiet_step (fail))
  refine wpQuiet_nil ?_
  refine wpS_nil ?_
  refine then_normal ?_
  refine wp_seq ?_
  refine wp_cond_split rfl (fun h2 => ?_) (fun h2 => ?_)
  · have hk1 : k + 1 ≤ 16 := by have : (k : Int) < 16 := (by simpa using h2); omega
    clear h2
    refine wp_skip ?_
    refine then_normal ?_
    refine wp_seq ?_
    refine wp_block ?_
    refine wp_seq ?_
    refine wp_region_N [(0, 1), (1, 1), (2, 3), (3, 3)] (by kernel_rfl) ?_
    refine wpS_read (i := 0) (d := some 11) rfl (by rfl) (run_addrSlE (show k < 16 by omega) rfl rfl rfl) rfl ?_
    simp only [Act.put, List.setIfInBounds_toArray, List.set_cons_succ, List.set_cons_zero]
    refine wpS_loadA (i := 1) (d := some 12) (cells := eC _) rfl (by rfl) rfl rfl (HM1.out.sub 0 rfl (rgC_e (show k < 16 by omega))) Try.underlying27 rfl (by kernel_rfl) rfl ?_
    dsimp only [eC]
    simp only [Act.put, List.setIfInBounds_toArray, List.set_cons_succ, List.set_cons_zero]
    refine wpS_alloc (i := 2) (dd := 6) (z := .agg #[.int .i64 0, .int .i64 0]) (cs := #[.int .i64 0, .int .i64 0]) rfl (by rfl) rfl (by kernel_rfl) rfl HM1.out covS_nil rfl ?_
    rintro b5 W4 hm3 -
    have HM6 := Lib.hid hm3
    clear hm3
    simp only [Act.put, List.setIfInBounds_toArray, List.set_cons_succ, List.set_cons_zero]
    refine wpS_storeA (i := 3) (L2 := [_]) (cs' := [_, _]) rfl (by rfl) rfl rfl rfl (by kernel_rfl) (by rfl) HM6.out 0 rfl rfl rfl rfl covS_nil rfl ?_
    rintro W8 hm7 -
    have HM9 := Lib.hid hm7
    clear hm7
    refine wpS_nil ?_
    refine then_normal ?_
    refine wp_seq ?_
    rcases Bool.eq_false_or_eq_true (mayE (a.e k)) with hst | hst
    · replace hst := Lib.hid hst
      refine wp_region_N [(0, 1), (1, 1), (2, 3), (3, 1)] (by kernel_rfl) ?_
      have Cb6 := Mem.cell HM9.out 0 rfl
      refine wpS_this [0, 1] rfl (by kernel_rfl) (by simp only [pickL, nthL, List.cons_append, List.nil_append]; rfl) ?_
      repeat (go_big_quiet_step (fail))
      refine wpQuiet_nil ?_
      clear Cb6
      refine wpS_doesV1 (i := 2) (d := some 15) (rem := [_, _]) (out := [_, _]) rfl (by rfl) rfl rfl Try.call33 (emay_d (a.e k).1 (a.e k).2) rfl rfl HM9.out [] rfl covS_nil rfl rfl ?_
      rintro W11 hm10 -
      rw [show mayE ((a.e k).1, (a.e k).2) = mayE (a.e k) from rfl, hst.out]
      have HM12 := Lib.hid hm10
      clear hm10
      simp only [Act.put, List.setIfInBounds_toArray, List.set_cons_succ, List.set_cons_zero]
      refine wpS_this [3] rfl (by kernel_rfl) (by simp only [pickL, nthL, List.cons_append, List.nil_append]; rfl) ?_
      repeat (go_big_quiet_step (fail))
      refine wpQuiet_nil ?_
      refine wpS_nil ?_
      refine then_normal ?_
      refine wp_cond_false rfl ?_
      refine wp_skip ?_
      refine block_normal ?_
      refine then_normal ?_
      refine wp_region_N [(0, 1), (1, 1)] (by kernel_rfl) ?_
      refine wpS_this [0, 1] rfl (by kernel_rfl) (by simp only [pickL, nthL, List.cons_append, List.nil_append]; rfl) ?_
      repeat (go_big_quiet_step (fail))
      refine wpQuiet_nil ?_
      refine wpS_nil ?_
      refine then_normal ?_
      refine ⟨by kernel_rfl, ?_⟩
      refine ⟨16 - (k + 1), by omega, k + 1, rfl, rfl, hk1, all_next hf.out hst.out, (Mem.only (M := [_]) HM12.out [1] rfl)⟩
    · replace hst := Lib.hid hst
      refine wp_region_N [(0, 1), (1, 1), (2, 3), (3, 1)] (by kernel_rfl) ?_
      have Cb6 := Mem.cell HM9.out 0 rfl
      refine wpS_this [0, 1] rfl (by kernel_rfl) (by simp only [pickL, nthL, List.cons_append, List.nil_append]; rfl) ?_
      repeat (go_big_quiet_step (fail))
      refine wpQuiet_nil ?_
      clear Cb6
      refine wpS_doesV1 (i := 2) (d := some 15) (rem := [_, _]) (out := [_, _]) rfl (by rfl) rfl rfl Try.call33 (emay_d (a.e k).1 (a.e k).2) rfl rfl HM9.out [] rfl covS_nil rfl rfl ?_
      rintro W14 hm13 -
      rw [show mayE ((a.e k).1, (a.e k).2) = mayE (a.e k) from rfl, hst.out]
      have HM15 := Lib.hid hm13
      clear hm13
      simp only [Act.put, List.setIfInBounds_toArray, List.set_cons_succ, List.set_cons_zero]
      refine wpS_this [3] rfl (by kernel_rfl) (by simp only [pickL, nthL, List.cons_append, List.nil_append]; rfl) ?_
      repeat (go_big_quiet_step (fail))
      refine wpQuiet_nil ?_
      refine wpS_nil ?_
      refine then_normal ?_
      refine wp_cond_true rfl ?_
      refine wp_seq ?_
      refine wp_region_N [(0, 1)] (by kernel_rfl) ?_
      refine wpS_this [0] rfl (by kernel_rfl) (by simp only [pickL, nthL, List.cons_append, List.nil_append]; rfl) ?_
      repeat (go_big_quiet_step (fail))
      refine wpQuiet_nil ?_
      refine wpS_nil ?_
      refine then_normal ?_
      refine wp_ret ?_
      refine block_ret (then_ret (then_ret (block_ret (then_ret ?_))))
      refine bodyPost_ret (results_tmp rfl _ _ _) rfl ?_
      rw [all16_no (show k < 16 by omega) hst.out]
      exact does_ret (Mem.only (M := [_]) HM15.out [1] rfl) rfl rfl
  · have hk8 : Hid (16 ≤ k) := Lib.hid (by have : ¬ (k : Int) < 16 := (by simpa using h2); omega)
    clear h2
    refine wp_exit ?_
    refine then_exit (then_exit (block_exit ?_))
    refine then_normal ?_
    refine wp_seq ?_
    refine wp_region_N [(0, 1)] (by kernel_rfl) ?_
    refine wpS_this [0] rfl (by kernel_rfl) (by simp only [pickL, nthL, List.cons_append, List.nil_append]; rfl) ?_
    repeat (go_big_quiet_step (fail))
    refine wpQuiet_nil ?_
    refine wpS_nil ?_
    refine then_normal ?_
    refine wp_ret ?_
    refine bodyPost_ret (results_tmp rfl _ _ _) rfl ?_
    rw [all16.2 fun j hj => hf.out j (by have := hk8.out; omega)]
    exact does_ret (Mem.only (M := [_]) HM1.out [0] rfl) rfl rfl
set_option maxHeartbeats 4000000 in
set_option maxRecDepth 100000 in
theorem fillS_d (b : Nat) (r : Rg) (sl : Value) (g : Nat) (p q : Value) (A B : At) (f : Nat → Int) (eg : ∀ args w, (callFunc g args).run Try.prog w = .ok (.enter g args) w) (hc : ∀ k : Nat, k < 8 → Does Try.prog g #[.int .i64 (k : Int), p, q] [A, B] (.int .i64 (f k)) [A, B]) : Does Try.prog 52 #[.slice (some ⟨b, 0, none⟩) 8 8, .func (.func g) #[] #[p, q]] [boxT b (.cells (rgC r (sl)).toArray 30 (0, 0)), A, B] (.tuple #[]) [boxT b (.cells (rgC ⟨fun i => if i < 8 then f i else r.s i, r.p, r.e⟩ (sl)).toArray 30 (0, 0)), A, B] := by
  intro w H hp
  have HM0 := Lib.hid (mem_refl hp)
  clear hp
  go_enter Try.func52, Try.ntmps52
  refine wp_seq ?_
  refine wp_region_N [(0, 1), (1, 1), (2, 1)] (by kernel_rfl) ?_
  refine wpS_this [0, 1, 2] rfl (by kernel_rfl) (by simp only [pickL, nthL, List.cons_append, List.nil_append]; rfl) ?_
  repeat (go_big_quiet_step (fail))
  refine wpQuiet_nil ?_
  refine wpS_nil ?_
  refine then_normal ?_
  refine wp_block ?_
  refine wp_loop_F [4, 7, 8, 9, 10, 11, 12, 13, 14, 15, 16] (fun n vs W' => ∃ k : Nat, n = 8 - k ∧ vs 7 = .int .i64 (k : Int) ∧ k ≤ 8 ∧ Mem [boxT b (.cells (rgC ⟨fun i => if i < k then f i else r.s i, r.p, r.e⟩ (sl)).toArray 30 (0, 0)), A, B] H w W') (n0 := 8) ?_ ?_
  · refine ⟨0, rfl, rfl, Nat.zero_le _, ?_⟩
    rw [upd_none]
    exact (Mem.only (M := [_, _, _]) HM0.out [0, 0, 0] rfl)
  rintro n vs W' ⟨k, rfl, e7, hk, hm⟩
  simp only [putAll, List.map_cons, List.map_nil, Act.put, List.setIfInBounds_toArray, List.set_cons_succ, List.set_cons_zero]
  rw [e7]
  clear e7
  have HM1 := Lib.hid hm
  clear hm
  refine wp_seq ?_
  refine wp_region_N [(0, 1)] (by kernel_rfl) ?_
  refine wpS_this [0] rfl (by kernel_rfl) (by simp only [pickL, nthL, List.cons_append, List.nil_append]; rfl) ?_
  repeat (go_big_quiet_step (fail))
  refine wpQuiet_nil ?_
  refine wpS_nil ?_
  refine then_normal ?_
  refine wp_seq ?_
  refine wp_cond_split rfl (fun h2 => ?_) (fun h2 => ?_)
  · have hk1 : k + 1 ≤ 8 := by have : (k : Int) < 8 := (by simpa using h2); omega
    clear h2
    refine wp_skip ?_
    refine then_normal ?_
    refine wp_seq ?_
    refine wp_block ?_
    refine wp_seq ?_
    refine wp_region_N [(0, 1), (1, 1)] (by kernel_rfl) ?_
    refine wpS_this [0, 1] rfl (by kernel_rfl) (by simp only [pickL, nthL, List.cons_append, List.nil_append]; rfl) ?_
    repeat (go_big_quiet_step (fail))
    refine wpQuiet_nil ?_
    refine wpS_nil ?_
    refine then_normal ?_
    refine wp_region_N [(0, 1), (1, 1), (2, 1), (3, 1), (4, 3), (5, 1), (6, 3)] (by kernel_rfl) ?_
    refine wpS_this [0, 1, 2, 3] rfl (by kernel_rfl) (by simp only [pickL, nthL, List.cons_append, List.nil_append]; rfl) ?_
    repeat (go_big_quiet_step (fail))
    refine wpQuiet_nil ?_
    refine wpS_doesV1 (i := 4) (d := some 14) (rem := [_]) (out := [_, _, _]) rfl (by rfl) rfl rfl eg (hc k ((show k < 8 by omega))) rfl (rfl) HM1.out [1, 1] rfl covS_nil rfl rfl ?_
    rintro W4 hm3 -
    have HM5 := Lib.hid hm3
    clear hm3
    simp only [Act.put, List.setIfInBounds_toArray, List.set_cons_succ, List.set_cons_zero]
    refine wpS_read (i := 5) (d := some 15) rfl (by rfl) (run_addrSlI ((show k < 8 by omega)) rfl rfl rfl) rfl ?_
    simp only [Act.put, List.setIfInBounds_toArray, List.set_cons_succ, List.set_cons_zero]
    refine wpS_store1 (i := 6) (v := .int _ _) (L2 := [_, _]) (cs' := rgC (⟨upd (fun i => if i < k then f i else r.s i) k (f k), r.p, r.e⟩) (sl)) rfl (by rfl) rfl rfl rfl rfl (by kernel_rfl) rfl HM5.out 2 rfl rfl (Nat.ble_eq_true_of_le (by rw [rgC_len]; have := (show k < 8 by omega); omega)) (rgC_setS ((show k < 8 by omega)) _) covS_nil rfl ?_
    rintro W7 hm6 -
    have HM8 := Lib.hid hm6
    clear hm6
    refine wpS_nil ?_
    refine block_normal ?_
    refine then_normal ?_
    refine wp_region_N [(0, 1), (1, 1)] (by kernel_rfl) ?_
    refine wpS_this [0, 1] rfl (by kernel_rfl) (by simp only [pickL, nthL, List.cons_append, List.nil_append]; rfl) ?_
    repeat (go_big_quiet_step (fail))
    refine wpQuiet_nil ?_
    refine wpS_nil ?_
    refine then_normal ?_
    refine ⟨by kernel_rfl, ?_⟩
    refine ⟨8 - (k + 1), by omega, k + 1, rfl, rfl, hk1, ?_⟩
    rw [← upd_next]
    exact (Mem.only (M := [_, _, _]) HM8.out [0, 0, 0] rfl)
  · have hk8 : Hid (8 ≤ k) := Lib.hid (by have : ¬ (k : Int) < 8 := (by simpa using h2); omega)
    clear h2
    refine wp_exit ?_
    refine then_exit (then_exit (block_exit ?_))
    refine bodyPost_end (results_none rfl _ _ _) rfl ?_
    rw [show k = 8 by have := hk8.out; omega] at HM1
    exact does_ret (Mem.only (M := [_, _, _]) HM1.out [0, 0, 0] rfl) rfl rfl
set_option maxHeartbeats 4000000 in
set_option maxRecDepth 100000 in
theorem fillE_d (b : Nat) (r : Rg) (sl : Value) (g : Nat) (p q : Value) (A B : At) (f : Nat → En) (eg : ∀ args w, (callFunc g args).run Try.prog w = .ok (.enter g args) w) (hc : ∀ k : Nat, k < 16 → Does Try.prog g #[.int .i64 (k : Int), p, q] [A, B] (.agg #[.int .i64 (f k).1, .int .i64 (f k).2]) [A, B]) : Does Try.prog 54 #[.slice (some ⟨b, 11, none⟩) 16 16, .func (.func g) #[] #[p, q]] [boxT b (.cells (rgC r (sl)).toArray 30 (0, 0)), A, B] (.tuple #[]) [boxT b (.cells (rgC ⟨r.s, r.p, fun i => if i < 16 then f i else r.e i⟩ (sl)).toArray 30 (0, 0)), A, B] := by
  intro w H hp
  have HM0 := Lib.hid (mem_refl hp)
  clear hp
  go_enter Try.func54, Try.ntmps54
  refine wp_seq ?_
  refine wp_region_N [(0, 1), (1, 1), (2, 1)] (by kernel_rfl) ?_
  refine wpS_this [0, 1, 2] rfl (by kernel_rfl) (by simp only [pickL, nthL, List.cons_append, List.nil_append]; rfl) ?_
  repeat (go_big_quiet_step (fail))
  refine wpQuiet_nil ?_
  refine wpS_nil ?_
  refine then_normal ?_
  refine wp_block ?_
  refine wp_loop_F [4, 7, 8, 9, 10, 11, 12, 13, 14, 15, 16] (fun n vs W' => ∃ k : Nat, n = 16 - k ∧ vs 7 = .int .i64 (k : Int) ∧ k ≤ 16 ∧ Mem [boxT b (.cells (rgC ⟨r.s, r.p, fun i => if i < k then f i else r.e i⟩ (sl)).toArray 30 (0, 0)), A, B] H w W') (n0 := 16) ?_ ?_
  · refine ⟨0, rfl, rfl, Nat.zero_le _, ?_⟩
    rw [upd_none]
    exact (Mem.only (M := [_, _, _]) HM0.out [0, 0, 0] rfl)
  rintro n vs W' ⟨k, rfl, e7, hk, hm⟩
  simp only [putAll, List.map_cons, List.map_nil, Act.put, List.setIfInBounds_toArray, List.set_cons_succ, List.set_cons_zero]
  rw [e7]
  clear e7
  have HM1 := Lib.hid hm
  clear hm
  refine wp_seq ?_
  refine wp_region_N [(0, 1)] (by kernel_rfl) ?_
  refine wpS_this [0] rfl (by kernel_rfl) (by simp only [pickL, nthL, List.cons_append, List.nil_append]; rfl) ?_
  repeat (go_big_quiet_step (fail))
  refine wpQuiet_nil ?_
  refine wpS_nil ?_
  refine then_normal ?_
  refine wp_seq ?_
  refine wp_cond_split rfl (fun h2 => ?_) (fun h2 => ?_)
  · have hk1 : k + 1 ≤ 16 := by have : (k : Int) < 16 := (by simpa using h2); omega
    clear h2
    refine wp_skip ?_
    refine then_normal ?_
    refine wp_seq ?_
    refine wp_block ?_
    refine wp_seq ?_
    refine wp_region_N [(0, 1), (1, 1)] (by kernel_rfl) ?_
    refine wpS_this [0, 1] rfl (by kernel_rfl) (by simp only [pickL, nthL, List.cons_append, List.nil_append]; rfl) ?_
    repeat (go_big_quiet_step (fail))
    refine wpQuiet_nil ?_
    refine wpS_nil ?_
    refine then_normal ?_
    refine wp_region_N [(0, 1), (1, 1), (2, 1), (3, 1), (4, 3), (5, 1), (6, 3)] (by kernel_rfl) ?_
    refine wpS_this [0, 1, 2, 3] rfl (by kernel_rfl) (by simp only [pickL, nthL, List.cons_append, List.nil_append]; rfl) ?_
    repeat (go_big_quiet_step (fail))
    refine wpQuiet_nil ?_
    refine wpS_doesV1 (i := 4) (d := some 14) (rem := [_]) (out := [_, _, _]) rfl (by rfl) rfl rfl eg (hc k ((show k < 16 by omega))) rfl (rfl) HM1.out [1, 1] rfl covS_nil rfl rfl ?_
    rintro W4 hm3 -
    have HM5 := Lib.hid hm3
    clear hm3
    simp only [Act.put, List.setIfInBounds_toArray, List.set_cons_succ, List.set_cons_zero]
    refine wpS_read (i := 5) (d := some 15) rfl (by rfl) (run_addrSlE ((show k < 16 by omega)) rfl rfl rfl) rfl ?_
    simp only [Act.put, List.setIfInBounds_toArray, List.set_cons_succ, List.set_cons_zero]
    refine wpS_storeA (i := 6) (L2 := [_, _]) (cs' := rgC (⟨r.s, r.p, upd (fun i => if i < k then f i else r.e i) k (f k)⟩) (sl)) rfl (by rfl) rfl rfl rfl (by kernel_rfl) (by rfl) HM5.out 2 rfl rfl (Nat.ble_eq_true_of_le (by rw [rgC_len]; show _ + 2 ≤ _; have := (show k < 16 by omega); omega)) (rgC_setE ((show k < 16 by omega)) ((f k))) covS_nil rfl ?_
    rintro W7 hm6 -
    have HM8 := Lib.hid hm6
    clear hm6
    refine wpS_nil ?_
    refine block_normal ?_
    refine then_normal ?_
    refine wp_region_N [(0, 1), (1, 1)] (by kernel_rfl) ?_
    refine wpS_this [0, 1] rfl (by kernel_rfl) (by simp only [pickL, nthL, List.cons_append, List.nil_append]; rfl) ?_
    repeat (go_big_quiet_step (fail))
    refine wpQuiet_nil ?_
    refine wpS_nil ?_
    refine then_normal ?_
    refine ⟨by kernel_rfl, ?_⟩
    refine ⟨16 - (k + 1), by omega, k + 1, rfl, rfl, hk1, ?_⟩
    rw [← upd_next]
    exact (Mem.only (M := [_, _, _]) HM8.out [0, 0, 0] rfl)
  · have hk8 : Hid (16 ≤ k) := Lib.hid (by have : ¬ (k : Int) < 16 := (by simpa using h2); omega)
    clear h2
    refine wp_exit ?_
    refine then_exit (then_exit (block_exit ?_))
    refine bodyPost_end (results_none rfl _ _ _) rfl ?_
    rw [show k = 16 by have := hk8.out; omega] at HM1
    exact does_ret (Mem.only (M := [_, _, _]) HM1.out [0, 0, 0] rfl) rfl rfl
set_option maxHeartbeats 4000000 in
set_option maxRecDepth 100000 in
theorem join1_d (b1 b2 : Nat) (a b : Rg) (va vb : Value) (k : Nat) (hk : k < 8) : Does Try.prog 53 #[.int .i64 (k : Int), .pointer (some ⟨b1, 0, none⟩), .pointer (some ⟨b2, 0, none⟩)] [boxT b1 (.cells (rgC a (va)).toArray 30 (0, 0)), boxT b2 (.cells (rgC b (vb)).toArray 30 (0, 0))] (.int .i64 (max (a.s k) (b.s k))) [boxT b1 (.cells (rgC a (va)).toArray 30 (0, 0)), boxT b2 (.cells (rgC b (vb)).toArray 30 (0, 0))] := by
  intro w H hp
  have HM0 := Lib.hid (mem_refl hp)
  clear hp
  go_enter Try.func53, Try.ntmps53
  refine wp_seq ?_
  refine wp_region_N [(0, 1)] (by kernel_rfl) ?_
  refine wpS_this [0] rfl (by kernel_rfl) (by simp only [pickL, nthL, List.cons_append, List.nil_append]; rfl) ?_
  repeat (go_big_quiet_step (fail))
  refine wpQuiet_nil ?_
  refine wpS_nil ?_
  refine then_normal ?_
  refine wp_seq ?_
  refine wp_region_M (fun k => k ∈ ([] : List Nat)) [(0, 1), (1, 1), (2, 1), (3, 1), (4, 1), (5, 1), (6, 1), (7, 1), (8, 1), (9, 1)] (by kernel_rfl) (by kernel_rfl) HM0.out ?_
  intro W1 hm2
  have HM3 := Lib.hid hm2
  clear hm2
  refine wpS_this [0, 1] rfl (by kernel_rfl) (by simp only [pickL, nthL, List.cons_append, List.nil_append]; rfl) ?_
  repeat (go_big_quiet_step (fail))
  refine wpQuiet_nil ?_
  refine wpS_read (i := 2) (d := some 7) rfl (by rfl) (run_addrSt (hk) rfl rfl rfl) rfl ?_
  simp only [Act.put, List.setIfInBounds_toArray, List.set_cons_succ, List.set_cons_zero]
  refine wpS_load1 (i := 3) (d := some 8) (u := _) rfl (by rfl) rfl rfl (HM3.out.sub1 0 rfl (rgC_s (hk))) Try.underlying3 rfl rfl ?_
  simp only [Act.put, List.setIfInBounds_toArray, List.set_cons_succ, List.set_cons_zero]
  refine wpS_this [4, 5] rfl (by kernel_rfl) (by simp only [pickL, nthL, List.cons_append, List.nil_append]; rfl) ?_
  repeat (go_big_quiet_step (fail))
  refine wpQuiet_nil ?_
  refine wpS_read (i := 6) (d := some 11) rfl (by rfl) (run_addrSt (hk) rfl rfl rfl) rfl ?_
  simp only [Act.put, List.setIfInBounds_toArray, List.set_cons_succ, List.set_cons_zero]
  refine wpS_load1 (i := 7) (d := some 12) (u := _) rfl (by rfl) rfl rfl (HM3.out.sub1 1 rfl (rgC_s (hk))) Try.underlying3 rfl rfl ?_
  simp only [Act.put, List.setIfInBounds_toArray, List.set_cons_succ, List.set_cons_zero]
  refine wpS_this [8, 9] rfl (by kernel_rfl) (by simp only [pickL, nthL, List.cons_append, List.nil_append]; rfl) ?_
  repeat (go_big_quiet_step (fail))
  refine wpQuiet_nil ?_
  refine wpS_nil ?_
  refine then_normal ?_
  refine wp_ret ?_
  refine bodyPost_ret (results_tmp rfl _ _ _) rfl ?_
  exact does_ret (Mem.only (M := [_, _]) HM3.out [0, 0] rfl) (congrArg (Value.int .i64) (by rw [Int.max_def]; split <;> split <;> omega)) rfl
set_option maxHeartbeats 4000000 in
set_option maxRecDepth 100000 in
theorem join2_d (b1 b2 : Nat) (a b : Rg) (va vb : Value) (k : Nat) (hk : k < 16) : Does Try.prog 55 #[.int .i64 (k : Int), .pointer (some ⟨b1, 0, none⟩), .pointer (some ⟨b2, 0, none⟩)] [boxT b1 (.cells (rgC a (va)).toArray 30 (0, 0)), boxT b2 (.cells (rgC b (vb)).toArray 30 (0, 0))] (.agg #[.int .i64 (joinE (a.e k) (b.e k)).1, .int .i64 (joinE (a.e k) (b.e k)).2]) [boxT b1 (.cells (rgC a (va)).toArray 30 (0, 0)), boxT b2 (.cells (rgC b (vb)).toArray 30 (0, 0))] := by
  intro w H hp
  have HM0 := Lib.hid (mem_refl hp)
  clear hp
  go_enter Try.func55, Try.ntmps55
  refine wp_seq ?_
  refine wp_region_N [(0, 3)] (by kernel_rfl) ?_
  refine wpS_alloc (i := 0) (dd := 4) (z := .agg #[.int .i64 0, .int .i64 0]) (cs := #[.int .i64 0, .int .i64 0]) rfl (by rfl) rfl (by kernel_rfl) rfl HM0.out covS_nil rfl ?_
  rintro b3 W2 hm1 -
  have HM4 := Lib.hid hm1
  clear hm1
  simp only [Act.put, List.setIfInBounds_toArray, List.set_cons_succ, List.set_cons_zero]
  refine wpS_nil ?_
  refine then_normal ?_
  refine wp_seq ?_
  refine wp_region_M (fun k => k ∈ ([b3, b1, b2] : List Nat)) [(0, 1), (1, 1), (2, 1), (3, 1), (4, 1), (5, 1), (6, 1), (7, 1), (8, 3), (9, 4)] (by kernel_rfl) (by kernel_rfl) HM4.out ?_
  intro W5 hm6
  have HM7 := Lib.hid hm6
  clear hm6
  refine wpS_this [0, 1] rfl (by kernel_rfl) (by simp only [pickL, nthL, List.cons_append, List.nil_append]; rfl) ?_
  repeat (go_big_quiet_step (fail))
  refine wpQuiet_nil ?_
  refine wpS_read (i := 2) (d := some 7) rfl (by rfl) (run_addrEnt (hk) rfl rfl rfl) rfl ?_
  simp only [Act.put, List.setIfInBounds_toArray, List.set_cons_succ, List.set_cons_zero]
  refine wpS_loadA (i := 3) (d := some 8) (cells := eC _) rfl (by rfl) rfl rfl (HM7.out.sub 1 rfl (rgC_e (hk))) Try.underlying27 rfl (by kernel_rfl) rfl ?_
  dsimp only [eC]
  simp only [Act.put, List.setIfInBounds_toArray, List.set_cons_succ, List.set_cons_zero]
  refine wpS_this [4, 5] rfl (by kernel_rfl) (by simp only [pickL, nthL, List.cons_append, List.nil_append]; rfl) ?_
  repeat (go_big_quiet_step (fail))
  refine wpQuiet_nil ?_
  refine wpS_read (i := 6) (d := some 11) rfl (by rfl) (run_addrEnt (hk) rfl rfl rfl) rfl ?_
  simp only [Act.put, List.setIfInBounds_toArray, List.set_cons_succ, List.set_cons_zero]
  refine wpS_loadA (i := 7) (d := some 12) (cells := eC _) rfl (by rfl) rfl rfl (HM7.out.sub 2 rfl (rgC_e (hk))) Try.underlying27 rfl (by kernel_rfl) rfl ?_
  dsimp only [eC]
  simp only [Act.put, List.setIfInBounds_toArray, List.set_cons_succ, List.set_cons_zero]
  refine wpS_does2 (i := 8) (d := some 13) (rem := [_, _, _]) (out := [_, _, _]) rfl (by rfl) rfl Try.call56 (ejoin_d (a.e k).1 (a.e k).2 (b.e k).1 (b.e k).2 (joinE (a.e k) (b.e k)).1 (joinE (a.e k) (b.e k)).2 rfl) rfl rfl HM7.out [] rfl (covS_box 0 rfl (covS_box 1 rfl (covS_box 2 rfl covS_nil))) rfl rfl ?_
  rintro W9 hm8 hg10
  have HM11 := Lib.hid hm8
  clear hm8
  simp only [Act.put, List.setIfInBounds_toArray, List.set_cons_succ, List.set_cons_zero]
  refine wpS_storeA4 (i := 9) (L2 := [_, _]) (cs' := [_, _]) rfl (by rfl) rfl rfl rfl (by kernel_rfl) (by rfl) HM11.out 0 rfl rfl rfl rfl  rfl ?_
  rintro W13 hm12
  have HM15 := Lib.hid hm12
  clear hm12
  refine wpS_nil ?_
  refine then_normal ?_
  refine wp_ret ?_
  refine ret_cell rfl HM15.out 0 rfl rfl Try.underlying27 rfl (by kernel_rfl) rfl ?_
  exact does_ret (Mem.only (M := [_, _]) HM15.out [1, 1] rfl) rfl rfl
set_option maxHeartbeats 4000000 in
set_option maxRecDepth 100000 in
theorem numbers_d (c : Nat) (hcc : c ≤ 100) (g : Nat) (cap : Array Value) (args : Nat → Array Value) (ha : ∀ k : Nat, #[] ++ #[Value.int .i64 (k : Int)] ++ cap = args k) (R : At) (p : Nat → Bool) (eg : ∀ args w, (callFunc g args).run Try.prog w = .ok (.enter g args) w) (hc : ∀ k : Nat, k < c → Does Try.prog g (args k) [R] (.bool (p k)) [R]) : DoesU Try.prog 35 #[.int .i64 (c : Int), .func (.func g) #[] cap] [R] (fun u => [rowT elemI u (selN p c), R]) := by
  intro w H hp
  have HM0 := Lib.hid (mem_refl hp)
  clear hp
  go_enter Try.func35, Try.ntmps35
  refine wp_seq ?_
  refine wp_region_N [(0, 1)] (by kernel_rfl) ?_
  refine wpS_this [0] rfl (by kernel_rfl) (by simp only [pickL, nthL, List.cons_append, List.nil_append]; rfl) ?_
  repeat (go_big_quiet_step (fail))
  refine wpQuiet_nil ?_
  refine wpS_nil ?_
  refine then_normal ?_
  refine wp_seq ?_
  refine wp_region_N [(0, 1)] (by kernel_rfl) ?_
  refine wpS_this [0] rfl (by kernel_rfl) (by simp only [pickL, nthL, List.cons_append, List.nil_append]; rfl) ?_
  repeat (go_big_quiet_step (fail))
  refine wpQuiet_nil ?_
  refine wpS_nil ?_
  refine then_normal ?_
  refine wp_seq ?_
  refine wp_seq ?_
  refine wp_region_N [(0, 1), (1, 1)] (by kernel_rfl) ?_
  refine wpS_this [0, 1] rfl (by kernel_rfl) (by simp only [pickL, nthL, List.cons_append, List.nil_append]; rfl) ?_
  repeat (go_big_quiet_step (fail))
  refine wpQuiet_nil ?_
  refine wpS_nil ?_
  refine then_normal ?_
  refine wp_block ?_
  refine wp_loop_F [5, 6, 8, 9, 10, 11, 12, 13, 14, 15, 16, 17, 18] (fun n vs W' => ∃ (k : Nat) (u : Value), n = c - k ∧ vs 8 = .int .i64 (k : Int) ∧ vs 5 = u ∧ k ≤ c ∧ Mem [rowT elemI u (selN p k), R] H w W') (n0 := c) ?_ ?_
  · exact ⟨0, _, rfl, rfl, rfl, Nat.zero_le _, Mem.nilRow elemI (Mem.only (M := [_]) HM0.out [0] rfl)⟩
  rintro n vs W' ⟨k, u, rfl, e8, e5, hk, hm⟩
  simp only [putAll, List.map_cons, List.map_nil, Act.put, List.setIfInBounds_toArray, List.set_cons_succ, List.set_cons_zero]
  rw [e8, e5]
  clear e8 e5
  have hln := selN_len p k
  have HM1 := Lib.hid hm
  clear hm
  refine wp_seq ?_
  refine wp_region_N [(0, 1)] (by kernel_rfl) ?_
  refine wpS_this [0] rfl (by kernel_rfl) (by simp only [pickL, nthL, List.cons_append, List.nil_append]; rfl) ?_
  repeat (go_big_quiet_step (fail))
  refine wpQuiet_nil ?_
  refine wpS_nil ?_
  refine then_normal ?_
  refine wp_seq ?_
  refine wp_cond_split rfl (fun h2 => ?_) (fun h2 => ?_)
  · have hk1 : k + 1 ≤ c := by have : (k : Int) < (c : Int) := (by simpa using h2); omega
    clear h2
    refine wp_skip ?_
    refine then_normal ?_
    refine wp_seq ?_
    refine wp_block ?_
    refine wp_seq ?_
    refine wp_region_N [(0, 1), (1, 1)] (by kernel_rfl) ?_
    refine wpS_this [0, 1] rfl (by kernel_rfl) (by simp only [pickL, nthL, List.cons_append, List.nil_append]; rfl) ?_
    repeat (go_big_quiet_step (fail))
    refine wpQuiet_nil ?_
    refine wpS_nil ?_
    refine then_normal ?_
    refine wp_seq ?_
    rcases Bool.eq_false_or_eq_true (p k) with hp | hp
    · replace hp := Lib.hid hp
      refine wp_region_N [(0, 1), (1, 1), (2, 3)] (by kernel_rfl) ?_
      refine wpS_this [0, 1] rfl (by kernel_rfl) (by simp only [pickL, nthL, List.cons_append, List.nil_append]; rfl) ?_
      repeat (go_big_quiet_step (fail))
      refine wpQuiet_nil ?_
      refine wpS_doesV1 (i := 2) (d := some 13) (rem := [_]) (out := [_, _]) rfl (by rfl) rfl rfl eg (hc k (by omega)) rfl (ha k) HM1.out [1] rfl covS_nil rfl rfl ?_
      rintro W4 hm3 -
      have HM5 := Lib.hid hm3
      clear hm3
      simp only [Act.put, List.setIfInBounds_toArray, List.set_cons_succ, List.set_cons_zero]
      rw [hp.out]
      refine wpS_nil ?_
      refine then_normal ?_
      refine wp_cond_true rfl ?_
      refine wp_region_N [(0, 1), (1, 1), (2, 3), (3, 3), (4, 1)] (by kernel_rfl) ?_
      refine wpS_this [0, 1] rfl (by kernel_rfl) (by simp only [pickL, nthL, List.cons_append, List.nil_append]; rfl) ?_
      repeat (go_big_quiet_step (fail))
      refine wpQuiet_nil ?_
      refine wpS_build1 elemI (i := 2) (dd := 16) (y := ((k : Nat) : Int)) rfl (by rfl) rfl rfl rfl (by decide) HM5.out covS_nil rfl ?_
      rintro b8 W9 hm10 -
      have HM11 := Lib.hid hm10
      clear hm10
      simp only [Act.put, List.setIfInBounds_toArray, List.set_cons_succ, List.set_cons_zero]
      refine wpS_append (E := elemI) (i := 3) (d := some 17) (L2 := [_, _]) rfl (by rfl) rfl HM11.out 2 rfl rfl ((HM11.out.src 0 rfl rowT_reads)) rfl (by simp only [List.length_cons, List.length_nil]; show _ * 8 ≤ _; omega) rfl covS_nil rfl ?_
      rintro u14 W15 hm16 -
      have HM17 := Lib.hid hm16
      clear hm16
      simp only [Act.put, List.setIfInBounds_toArray, List.set_cons_succ, List.set_cons_zero]
      refine wpS_this [4] rfl (by kernel_rfl) (by simp only [pickL, nthL, List.cons_append, List.nil_append]; rfl) ?_
      repeat (go_big_quiet_step (fail))
      refine wpQuiet_nil ?_
      refine wpS_nil ?_
      refine block_normal ?_
      refine then_normal ?_
      refine wp_region_N [(0, 1), (1, 1)] (by kernel_rfl) ?_
      refine wpS_this [0, 1] rfl (by kernel_rfl) (by simp only [pickL, nthL, List.cons_append, List.nil_append]; rfl) ?_
      repeat (go_big_quiet_step (fail))
      refine wpQuiet_nil ?_
      refine wpS_nil ?_
      refine then_normal ?_
      refine ⟨by kernel_rfl, ?_⟩
      refine ⟨c - (k + 1), by omega, k + 1, _, rfl, rfl, rfl, hk1, ?_⟩
      rw [selN_hit hp.out]
      exact (Mem.only (M := [_, _]) HM17.out [0, 1] rfl)
    · replace hp := Lib.hid hp
      refine wp_region_N [(0, 1), (1, 1), (2, 3)] (by kernel_rfl) ?_
      refine wpS_this [0, 1] rfl (by kernel_rfl) (by simp only [pickL, nthL, List.cons_append, List.nil_append]; rfl) ?_
      repeat (go_big_quiet_step (fail))
      refine wpQuiet_nil ?_
      refine wpS_doesV1 (i := 2) (d := some 13) (rem := [_]) (out := [_, _]) rfl (by rfl) rfl rfl eg (hc k (by omega)) rfl (ha k) HM1.out [1] rfl covS_nil rfl rfl ?_
      rintro W19 hm18 -
      have HM20 := Lib.hid hm18
      clear hm18
      simp only [Act.put, List.setIfInBounds_toArray, List.set_cons_succ, List.set_cons_zero]
      rw [hp.out]
      refine wpS_nil ?_
      refine then_normal ?_
      refine wp_cond_false rfl ?_
      refine wp_skip ?_
      refine block_normal ?_
      refine then_normal ?_
      refine wp_region_N [(0, 1), (1, 1)] (by kernel_rfl) ?_
      refine wpS_this [0, 1] rfl (by kernel_rfl) (by simp only [pickL, nthL, List.cons_append, List.nil_append]; rfl) ?_
      repeat (go_big_quiet_step (fail))
      refine wpQuiet_nil ?_
      refine wpS_nil ?_
      refine then_normal ?_
      refine ⟨by kernel_rfl, ?_⟩
      refine ⟨c - (k + 1), by omega, k + 1, _, rfl, rfl, rfl, hk1, ?_⟩
      rw [selN_miss hp.out]
      exact (Mem.only (M := [_, _]) HM20.out [1, 0] rfl)
  · have hk8 : Hid (c ≤ k) := Lib.hid (by have : ¬ (k : Int) < (c : Int) := (by simpa using h2); omega)
    clear h2
    refine wp_exit ?_
    refine then_exit (then_exit (block_exit ?_))
    refine then_normal ?_
    refine wp_seq ?_
    refine wp_region_N [(0, 1), (1, 1)] (by kernel_rfl) ?_
    refine wpS_this [0, 1] rfl (by kernel_rfl) (by simp only [pickL, nthL, List.cons_append, List.nil_append]; rfl) ?_
    repeat (go_big_quiet_step (fail))
    refine wpQuiet_nil ?_
    refine wpS_nil ?_
    refine then_normal ?_
    refine wp_ret ?_
    refine bodyPost_ret (results_tmp rfl _ _ _) rfl ?_
    rw [show k = c by have := hk8.out; omega] at HM1
    exact doesU_ret (post := fun u => [rowT elemI u (selN p c), R]) (Mem.only (M := [_, _]) HM1.out [0, 0] rfl) rfl
end
end Go.Proofs.Ytdfmfcbeebfdhaa
