/- RgK: RgB, RgD, RgK. -/
import Derived.Test.YtcchkkdbagpgjaaGreatRgV
import Derived.Test.YtcchkkdbagpgjaaGreatRgC
import Derived.Test.YtcchkkdbagpgjaaGreatPA
namespace Go.Proofs.YtcchkkdbagpgjaaGreat
section
open Go Go.RowKit Go.BigFrame
theorem rnode_any (n : Int) (w : World) : Gives Tryz.prog 42 #[.int .i64 n] w (.bool (nodeE n)) := by
 unfold Gives
 by_cases q0 : 0 ≤ n <;> by_cases q1 : n < 8
 all_goals try (exfalso; omega)
 all_goals first | (have H : Hid (nodeE n = true) := Lib.hid (by simp [nodeE]; omega)) | (have H : Hid (nodeE n = false) := Lib.hid (by simp [nodeE]; omega))
 all_goals
  go_enter Tryz.func42, Tryz.ntmps42
  go_wp2
  all_goals go_ret
  all_goals exact ⟨by rw [H.out]; rfl, Later.ex (by repeat (first | exact ext_refl _ | refine ext_alloc ?_ _ | refine ext_later ?_ _ | refine ext_drew ?_ | refine ext_drewN ?_ _))⟩
end
section
open Go Go.RowKit Go.BigFrame
theorem all_next {p : Nat → Prop} {k : Nat} (h : ∀ j, j < k → p j) (hk : p k) : ∀ j, j < k + 1 → p j := fun j hj => by
 rcases Nat.lt_or_eq_of_le (Nat.le_of_lt_succ hj) with h1 | rfl
 ·exact h j h1
 ·exact hk
end
section
open Go Go.RowKit Go.BigFrame
section
variable {ops : Array Oper} {S : Nat → Prop} {Q : Act → World → Prop} {a : Act} {W w : World} {H0 : Nat → Prop} {rest : List (Nat × Nat)} {i : Nat} {o : Oper} {L : List At} {d : Option Tmp}
set_option maxRecDepth 100000 in
theorem run_sliceSt {x : Operand} {b : Nat} (ho : o.op = .slice 37 x none none none) (hx : a.eval x = .pointer (some ⟨b, 0, none⟩)) : (execOp a.eval o).run Tryz.prog W = .ok (.value (.slice (some ⟨b, 0, none⟩) 8 8)) W := by
 have hu : (underlying 37).run Tryz.prog W = .ok (.array 8 3) W := by simp [underlying, Tryz.underlying37, go_sem]
 have hs := int_size W
 unfold execOp
 simp only [ho, hx, Option.map_none, Instr.sliceAt, Instr.sliceBounds, Instr.sureAddr, Sem.run_bind, Sem.run_pure, Result.andThen_ok, hu, hs]
 simp [addr_off, go_sem]
theorem run_sliceEnt {x : Operand} {b off : Nat} (ho : o.op = .slice 47 x none none none) (hx : a.eval x = .pointer (some ⟨b, off, none⟩)) : (execOp a.eval o).run Tryz.prog W = .ok (.value (.slice (some ⟨b, off, none⟩) 16 16)) W := by
 have hu : (underlying 47).run Tryz.prog W = .ok (.array 16 46) W := by simp [underlying, go_sem]
 have hs := ent_size W
 unfold execOp
 simp only [ho, hx, Option.map_none, Instr.sliceAt, Instr.sliceBounds, Instr.sureAddr, Sem.run_bind, Sem.run_pure, Result.andThen_ok, hu, hs]
 simp [addr_off, go_sem]
set_option maxRecDepth 100000 in
theorem run_addrSlI {x ix : Operand} {b n c j : Nat} (hj : j < n) (ho : o.op = .indexAddr 42 x ix) (hx : a.eval x = .slice (some ⟨b, 0, none⟩) n c) (hix : a.eval ix = .int .i64 (j : Int)) : (execOp a.eval o).run Tryz.prog W = .ok (.value (.pointer (some ⟨b, j, none⟩))) W := by
 have hu : (underlying 42).run Tryz.prog W = .ok (.slice 3) W := by simp [underlying, Tryz.underlying42, go_sem]
 have hs := int_size W
 unfold execOp
 simp only [ho, hx, hix, Instr.indexAt, asIntOf, Sem.run_bind, Sem.run_pure, Result.andThen_ok, hu]
 simp [hs, hj, addr_off, go_sem]
set_option maxRecDepth 100000 in
theorem run_addrSlE {x ix : Operand} {b off n c j : Nat} (hj : j < n) (ho : o.op = .indexAddr 223 x ix) (hx : a.eval x = .slice (some ⟨b, off, none⟩) n c) (hix : a.eval ix = .int .i64 (j : Int)) : (execOp a.eval o).run Tryz.prog W = .ok (.value (.pointer (some ⟨b, off + j * 2, none⟩))) W := by
 have hu : (underlying 223).run Tryz.prog W = .ok (.slice 46) W := by simp [underlying, Tryz.underlying223, go_sem]
 have hs := ent_size W
 unfold execOp
 simp only [ho, hx, hix, Instr.indexAt, asIntOf, Sem.run_bind, Sem.run_pure, Result.andThen_ok, hu]
 simp [hs, hj, addr_off, go_sem]
end
theorem all8_no {f : Nat → Int} {p : Int → Bool} {k : Nat} (hk : k < 8) (h : p (f k) = false) : (tab8 f).all p = false := by
 rw [← Bool.not_eq_true, all8]
 intro h1
 rw [h1 k hk] at h
 cases h
theorem all16_no {f : Nat → En} {p : En → Bool} {k : Nat} (hk : k < 16) (h : p (f k) = false) : (tab16 f).all p = false := by
 rw [← Bool.not_eq_true, all16]
 intro h1
 rw [h1 k hk] at h
 cases h
theorem upd_none {β : Type} (f g : Nat → β) : (fun i => if i < 0 then f i else g i) = g := by
 funext j
 rw [if_neg (by omega)]
theorem rgC_setSl (r : Rg) (sl sl' : Value) : (rgC r sl).set 10 sl' = rgC r sl' := by kernel_rfl
theorem cmpB (a b : Pl) : decide (((a.1, a.2.1, a.2.2) : Pl) = (b.1, b.2.1, b.2.2)) = (cmpP a b == 0) := by
 rw [Bool.eq_iff_iff, decide_eq_true_iff, beq_iff_eq, cmpP_zero]
theorem istat_any (n : Int) (w : World) : Gives Tryz.prog 176 #[.int .i64 n] w (.bool (statB n)) := by
 unfold Gives
 by_cases q0 : 0 ≤ n <;> by_cases q1 : n ≤ 4
 all_goals try (exfalso; omega)
 all_goals first | (have H : Hid (statB n = true) := Lib.hid (by simp [statB]; omega)) | (have H : Hid (statB n = false) := Lib.hid (by simp [statB]; omega))
 all_goals
  go_enter Tryz.func176, Tryz.ntmps176
  go_wp2
  all_goals go_ret
  all_goals exact ⟨by rw [H.out]; rfl, Later.ex (by repeat (first | exact ext_refl _ | refine ext_alloc ?_ _ | refine ext_later ?_ _ | refine ext_drew ?_ | refine ext_drewN ?_ _))⟩
theorem istat_d (n : Int) : Does Tryz.prog 176 #[.int .i64 n] [] (.bool (statB n)) [] := Does.of_any fun w => istat_any n w
set_option maxHeartbeats 4000000 in
set_option maxRecDepth 100000 in
theorem everyS_d (b : Nat) (a : Rg) (sl : Value) : Does Tryz.prog 175 #[.slice (some ⟨b, 0, none⟩) 8 8, .func (.func 176) #[] #[]] [boxT b (.cells (rgC a (sl)).toArray 49 (0, 0))] (.bool ((tab8 a.s).all statB)) [boxT b (.cells (rgC a (sl)).toArray 49 (0, 0))] := by
 intro w H hp
 have HM0 := Lib.hid (mem_refl hp)
 clear hp
 go_enter Tryz.func175, Tryz.ntmps175
 refine wp_seq (wQ ?_)
 refine wp_seq (wp_seq (wQ ?_))
 refine wp_block ?_
 refine wp_loop_F [4, 6, 9, 10, 11, 12, 13, 14, 15, 16, 17] (fun n vs W' => ∃ k : Nat, n = 8 - k ∧ vs 9 = .int .i64 (k : Int) ∧ k ≤ 8 ∧ (∀ j, j < k → statB (a.s j) = true) ∧ Mem [boxT b (.cells (rgC a (sl)).toArray 49 (0, 0))] H w W') (n0 := 8) ?_ ?_
 ·exact ⟨0, rfl, rfl, Nat.zero_le _, fun j h => by omega, (Mem.only (M := [_]) HM0.out [0] rfl)⟩
 rintro n vs W' ⟨k, rfl, e9, hk, hf', hm⟩
 simp only [putAll, List.map_cons, List.map_nil, Act.put, List.setIfInBounds_toArray, List.set_cons_succ, List.set_cons_zero]
 rw [e9]
 clear e9
 have hf := Lib.hid hf'
 clear hf'
 have HM1 := Lib.hid hm
 clear hm
 refine wp_seq (wQ ?_)
 refine wp_seq ?_
 refine wp_cond_split rfl (fun h2 => ?_) (fun h2 => ?_)
 ·have hk1 : k + 1 ≤ 8 := by have : (k : Int) < 8 := (by simpa using h2); omega
  clear h2
  refine wp_skip (then_normal (wp_seq (wp_block (wp_seq (wN [(0, 1), (1, 1), (2, 1)] ?_)))))
  refine wR 0 (run_addrSlI (show k < 8 by omega) rfl rfl rfl) ?_
  refine wM 1 _ (HM1.out.sub1 0 rfl (rgC_s (show k < 8 by omega))) Tryz.underlying3 ?_
  refine wT [2] ?_
  refine wZ (wp_seq ?_)
  rcases Bool.eq_false_or_eq_true (statB (a.s k)) with hst | hst
  ·replace hst := Lib.hid hst
   refine wN [(0, 1), (1, 1), (2, 3), (3, 1)] (wT [0, 1] ?_)
   refine wpS_doesV1 (i := 2) (d := some 15) (rem := [_]) (out := [_]) rfl (by rfl) rfl rfl Tryz.call176 (istat_d (a.s k)) rfl rfl HM1.out [] rfl covS_nil rfl rfl ?_
   rintro W4 hm3 -
   rw [hst.out]
   have HM5 := Lib.hid hm3
   clear hm3
   simp only [Act.put, List.setIfInBounds_toArray, List.set_cons_succ, List.set_cons_zero]
   refine wT [3] ?_
   refine wZ (wp_cond_false rfl (wp_skip (block_normal (then_normal (wQ ?_)))))
   refine ⟨by kernel_rfl, ?_⟩
   refine ⟨8 - (k + 1), by omega, k + 1, rfl, rfl, hk1, all_next hf.out hst.out, (Mem.only (M := [_]) HM5.out [0] rfl)⟩
  ·replace hst := Lib.hid hst
   refine wN [(0, 1), (1, 1), (2, 3), (3, 1)] (wT [0, 1] ?_)
   refine wpS_doesV1 (i := 2) (d := some 15) (rem := [_]) (out := [_]) rfl (by rfl) rfl rfl Tryz.call176 (istat_d (a.s k)) rfl rfl HM1.out [] rfl covS_nil rfl rfl ?_
   rintro W7 hm6 -
   rw [hst.out]
   have HM8 := Lib.hid hm6
   clear hm6
   simp only [Act.put, List.setIfInBounds_toArray, List.set_cons_succ, List.set_cons_zero]
   refine wT [3] ?_
   refine wZ (wp_cond_true rfl (wp_seq (wQ ?_)))
   refine wp_ret ?_
   refine block_ret (then_ret (then_ret (block_ret (then_ret ?_))))
   refine bodyPost_ret (results_tmp rfl _ _ _) rfl ?_
   rw [all8_no (show k < 8 by omega) hst.out]
   exact does_ret (Mem.only (M := [_]) HM8.out [0] rfl) rfl rfl
 ·have hk8 : Hid (8 ≤ k) := Lib.hid (by have : ¬ (k : Int) < 8 := (by simpa using h2); omega)
  clear h2
  refine wp_exit ?_
  refine then_exit (then_exit (block_exit ?_))
  refine then_normal (wp_seq (wQ ?_))
  refine wp_ret (bodyPost_ret (results_tmp rfl _ _ _) rfl ?_)
  rw [all8.2 fun j hj => hf.out j (by have := hk8.out; omega)]
  exact does_ret (Mem.only (M := [_]) HM1.out [0] rfl) rfl rfl
set_option maxHeartbeats 4000000 in
set_option maxRecDepth 100000 in
theorem everyE_d (b : Nat) (a : Rg) (sl : Value) : Does Tryz.prog 178 #[.slice (some ⟨b, 11, none⟩) 16 16, .func (.func 179) #[] #[]] [boxT b (.cells (rgC a (sl)).toArray 49 (0, 0))] (.bool ((tab16 a.e).all mayE)) [boxT b (.cells (rgC a (sl)).toArray 49 (0, 0))] := by
 intro w H hp
 have HM0 := Lib.hid (mem_refl hp)
 clear hp
 go_enter Tryz.func178, Tryz.ntmps178
 refine wp_seq (wQ ?_)
 refine wp_seq (wp_seq (wQ ?_))
 refine wp_block ?_
 refine wp_loop_F [4, 6, 9, 10, 11, 12, 13, 14, 15, 16, 17] (fun n vs W' => ∃ k : Nat, n = 16 - k ∧ vs 9 = .int .i64 (k : Int) ∧ k ≤ 16 ∧ (∀ j, j < k → mayE (a.e j) = true) ∧ Mem [boxT b (.cells (rgC a (sl)).toArray 49 (0, 0))] H w W') (n0 := 16) ?_ ?_
 ·exact ⟨0, rfl, rfl, Nat.zero_le _, fun j h => by omega, (Mem.only (M := [_]) HM0.out [0] rfl)⟩
 rintro n vs W' ⟨k, rfl, e9, hk, hf', hm⟩
 simp only [putAll, List.map_cons, List.map_nil, Act.put, List.setIfInBounds_toArray, List.set_cons_succ, List.set_cons_zero]
 rw [e9]
 clear e9
 have hf := Lib.hid hf'
 clear hf'
 have HM1 := Lib.hid hm
 clear hm
 refine wp_seq (wQ ?_)
 refine wp_seq ?_
 refine wp_cond_split rfl (fun h2 => ?_) (fun h2 => ?_)
 ·have hk1 : k + 1 ≤ 16 := by have : (k : Int) < 16 := (by simpa using h2); omega
  clear h2
  refine wp_skip (then_normal (wp_seq (wp_block (wp_seq (wN [(0, 1), (1, 1), (2, 3), (3, 3)] ?_)))))
  refine wR 0 (run_addrSlE (show k < 16 by omega) rfl rfl rfl) ?_
  refine wL 1 (eC _) (HM1.out.sub 0 rfl (rgC_e (show k < 16 by omega))) Tryz.underlying46 ?_
  dsimp only [eC]
  refine wpS_alloc (i := 2) (dd := 6) (z := .agg #[.int .i64 0, .int .i64 0]) (cs := #[.int .i64 0, .int .i64 0]) rfl (by rfl) rfl (by kernel_rfl) rfl HM1.out covS_nil rfl ?_
  rintro b5 W4 hm3 -
  have HM6 := Lib.hid hm3
  clear hm3
  simp only [Act.put, List.setIfInBounds_toArray, List.set_cons_succ, List.set_cons_zero]
  refine wXh 3 [_] [_, _] HM6 0 fun W8 HM9 => ?_
  refine wZ (wp_seq ?_)
  rcases Bool.eq_false_or_eq_true (mayE (a.e k)) with hst | hst
  ·replace hst := Lib.hid hst
   refine wN [(0, 1), (1, 1), (2, 3), (3, 1)] ?_
   have Cb6 := Mem.cell HM9.out 0 rfl
   refine wT [0, 1] ?_
   clear Cb6
   refine wpS_doesV1 (i := 2) (d := some 15) (rem := [_, _]) (out := [_, _]) rfl (by rfl) rfl rfl Tryz.call179 (emay_d (a.e k).1 (a.e k).2) rfl rfl HM9.out [] rfl covS_nil rfl rfl ?_
   rintro W11 hm10 -
   rw [show mayE ((a.e k).1, (a.e k).2) = mayE (a.e k) from rfl, hst.out]
   have HM12 := Lib.hid hm10
   clear hm10
   simp only [Act.put, List.setIfInBounds_toArray, List.set_cons_succ, List.set_cons_zero]
   refine wT [3] ?_
   refine wZ (wp_cond_false rfl (wp_skip (block_normal (then_normal (wQ ?_)))))
   refine ⟨by kernel_rfl, ?_⟩
   refine ⟨16 - (k + 1), by omega, k + 1, rfl, rfl, hk1, all_next hf.out hst.out, (Mem.only (M := [_]) HM12.out [1] rfl)⟩
  ·replace hst := Lib.hid hst
   refine wN [(0, 1), (1, 1), (2, 3), (3, 1)] ?_
   have Cb6 := Mem.cell HM9.out 0 rfl
   refine wT [0, 1] ?_
   clear Cb6
   refine wpS_doesV1 (i := 2) (d := some 15) (rem := [_, _]) (out := [_, _]) rfl (by rfl) rfl rfl Tryz.call179 (emay_d (a.e k).1 (a.e k).2) rfl rfl HM9.out [] rfl covS_nil rfl rfl ?_
   rintro W14 hm13 -
   rw [show mayE ((a.e k).1, (a.e k).2) = mayE (a.e k) from rfl, hst.out]
   have HM15 := Lib.hid hm13
   clear hm13
   simp only [Act.put, List.setIfInBounds_toArray, List.set_cons_succ, List.set_cons_zero]
   refine wT [3] ?_
   refine wZ (wp_cond_true rfl (wp_seq (wQ ?_)))
   refine wp_ret ?_
   refine block_ret (then_ret (then_ret (block_ret (then_ret ?_))))
   refine bodyPost_ret (results_tmp rfl _ _ _) rfl ?_
   rw [all16_no (show k < 16 by omega) hst.out]
   exact does_ret (Mem.only (M := [_]) HM15.out [1] rfl) rfl rfl
 ·have hk8 : Hid (16 ≤ k) := Lib.hid (by have : ¬ (k : Int) < 16 := (by simpa using h2); omega)
  clear h2
  refine wp_exit ?_
  refine then_exit (then_exit (block_exit ?_))
  refine then_normal (wp_seq (wQ ?_))
  refine wp_ret (bodyPost_ret (results_tmp rfl _ _ _) rfl ?_)
  rw [all16.2 fun j hj => hf.out j (by have := hk8.out; omega)]
  exact does_ret (Mem.only (M := [_]) HM1.out [0] rfl) rfl rfl
end
end Go.Proofs.YtcchkkdbagpgjaaGreat
