/- Lead: rows looked through, arrays compared. -/
import Derived.Test.YtdfmfcbeebfdhaaLdM
import Derived.Test.YtdfmfcbeebfdhaaClmH
import Derived.Test.YtdfmfcbeebfdhaaPlaC10
namespace Go.Proofs.Ytdfmfcbeebfdhaa
open Go Go.RowKit Go.BigFrame

theorem rdRow_src {v : Value} {l : List Int} : Reads elemI (rdRow v l) v l := fun W H h => by
  have hr := rdRow_reads W H h
  obtain ⟨x, h⟩ := h
  dsimp only at h
  by_cases hx : x.2.2 = true
  · rw [if_pos hx] at h
    obtain ⟨H1, H2, ⟨h1, _⟩, _⟩ := h
    subst h1
    exact ⟨hr, _, _, rfl, Nat.le_refl _, fun h => by cases h⟩
  · rw [if_neg hx] at h
    obtain ⟨H1, H2, ⟨⟨h1, h1'⟩, _⟩, _⟩ := h
    subst h1 h1'
    exact ⟨.inl ⟨rfl, _, _, rfl⟩, none, 0, rfl, Nat.zero_le _, fun _ => rfl⟩
theorem arr_reads {b n : Nat} {t : TypeId} {l : List Int} (hn : l.length = n) : ∀ W H, (arrT b t l).p W H → RowAt elemI W (.slice (some ⟨b, 0, none⟩) n n) l := fun W H h => by
  subst hn
  exact arr_row h.1
theorem list_tab {l : List Int} {n : Nat} (h : l.length = n) : (List.range n).map (fun j => l.getD j 0) = l := by
  subst h
  apply List.ext_getElem?
  intro j
  rw [List.getElem?_map]
  by_cases hj : j < l.length
  · rw [List.getElem?_range hj, Option.map_some, List.getD_eq_getElem?_getD, List.getElem?_eq_getElem hj]
    rfl
  · rw [List.getElem?_eq_none (by rw [List.length_range]; omega), List.getElem?_eq_none (by omega)]
    rfl
theorem run_eqA16 {o : Oper} {a : Act} {W : World} {x y : Operand} {tt : TypeId} {l m : List Int} {b : Bool} (hl : l.length = 16) (hm : m.length = 16) (hb : decide (l = m) = b) (ho : o.op = .binOp .eql 68 x y tt) (hx : a.eval x = aV l) (hy : a.eval y = aV m) : (execOp a.eval o).run Try.prog W = .ok (.value (.bool b)) W := by
  subst hb
  have hg : (eqGuard .eql 68 x y (aV l) (aV m)).run Try.prog W = .ok () W := run_eqGuard_agg W .eql _ x y _ _ (by kernel_rfl)
  obtain ⟨i0, hin, hz0, hz1, hz2⟩ := info_parts elemI.info
  have hd : decide (l = m) = decide ((List.range 16).map (fun j => l.getD j 0) = (List.range 16).map fun j => m.getD j 0) := by rw [list_tab hl, list_tab hm]
  have he : (Op.equalIn 10000 68 (aV l) (aV m)).run Try.prog W = .ok (decide (l = m)) W := by
    rw [hd, run_equalIn_array W 9999 _ _ is16.under hin, show Try.prog.cellsOf 3 = 1 by kernel_rfl]
    refine run_items (f := fun j => l.getD j 0) (g := fun j => m.getD j 0) _ fun j hj => ?_
    have hj16 := List.mem_range.1 hj
    have e1 : ∀ z : List Int, z.length = 16 → ((z.map iV).toArray)[j * 1]? = some (.int .i64 (z.getD j 0)) := fun z hz => by
      rw [Nat.mul_one, List.getElem?_toArray, List.getElem?_map, List.getD_eq_getElem?_getD, List.getElem?_eq_getElem (by omega)]
      rfl
    refine ⟨_, _, int_part (e1 l hl) W, int_part (e1 m hm) W, ?_⟩
    rw [run_equalIn_int W 9998 3 .i64 .i64 _ _ Try.underlying3]
    generalize l.getD j 0 = u
    generalize m.getD j 0 = v
    by_cases h : u = v <;> simp [h]
  unfold execOp
  simp only [ho, hx, hy, Sem.run_bind, hg, Result.andThen_ok]
  rw [run_eql_struct, he]
  rfl
/-- Where a number stands in a row. -/
def idxF (x : Int) : Nat → List Int → Int
  | _, [] => -1
  | k, y :: l => if x = y then (k : Int) else idxF x (k + 1) l
theorem idxF_end {l : List Int} {k : Nat} {x : Int} (h : l.length ≤ k) : idxF x k (l.drop k) = -1 := by
  rw [List.drop_eq_nil_of_le h]
  rfl
theorem idxF_step {l : List Int} {k : Nat} {x y : Int} (h : l[k]? = some y) (hy : ¬ x = y) : idxF x k (l.drop k) = idxF x (k + 1) (l.drop (k + 1)) := by
  have h1 := (List.getElem?_eq_some_iff.1 h).1
  have h2 := (List.getElem?_eq_some_iff.1 h).2
  rw [List.drop_eq_getElem_cons h1, h2]
  exact if_neg hy
theorem idxF_stop {l : List Int} {k : Nat} {x y : Int} (h : l[k]? = some y) (hy : x = y) : idxF x k (l.drop k) = (k : Int) := by
  have h1 := (List.getElem?_eq_some_iff.1 h).1
  have h2 := (List.getElem?_eq_some_iff.1 h).2
  rw [List.drop_eq_getElem_cons h1, h2]
  exact if_pos hy
theorem idxF_has {x : Int} : ∀ {l : List Int} {k : Nat}, decide (0 ≤ idxF x k l) = l.contains x
  | [], _ => rfl
  | y :: l, k => by
    have ih := idxF_has (x := x) (l := l) (k := k + 1)
    rw [List.contains_cons]
    by_cases h : x = y
    · rw [show idxF x k (y :: l) = (k : Int) from if_pos h, decide_eq_true (by omega), beq_iff_eq.2 h]
      rfl
    · rw [show idxF x k (y :: l) = idxF x (k + 1) l from if_neg h, ih, beq_eq_false_iff_ne.2 h]
      rfl
theorem take_ext {x y : List Int} (hl : x.length = y.length) (h : x.take x.length = y.take x.length) : x = y := by
  rw [List.take_length] at h
  rw [h, List.take_of_length_le (by omega)]
theorem take_step {x y : List Int} {k : Nat} {a : Int} (hx : x[k]? = some a) (hy : y[k]? = some a) (h : x.take k = y.take k) : x.take (k + 1) = y.take (k + 1) := by
  rw [List.take_add_one, List.take_add_one, hx, hy, h]
theorem ne_at {x y : List Int} {k : Nat} {a b : Int} (hx : x[k]? = some a) (hy : y[k]? = some b) (h : a ≠ b) : x ≠ y := fun e => by
  rw [e, hy] at hx
  exact h (Option.some.inj hx).symm
set_option maxHeartbeats 4000000 in
set_option maxRecDepth 100000 in
theorem sindex_d (R : At) (v : Value) (l : List Int) (x : Int) (hR : ∀ W H, R.p W H → RowAt elemI W v l) (hll : l.length ≤ 140737488351232) : Does Try.prog 65 #[v, .int .i64 x] [R] (.int .i64 (idxF x 0 l)) [R] := by
  intro w H hp
  have HM0 := Lib.hid (mem_refl hp)
  clear hp
  obtain ⟨p, cap, rfl, -⟩ := (HM0.out.row 0 rfl hR).form
  go_enter Try.func65, Try.ntmps65
  refine wp_seq ?_
  refine wp_region_N [(0, 1)] (by kernel_rfl) ?_
  refine wpS_this [0] rfl (by kernel_rfl) (by simp only [pickL, nthL, List.cons_append, List.nil_append]; rfl) ?_
  repeat (go_big_quiet_step (fail))
  refine wpQuiet_nil ?_
  refine wpS_nil ?_
  refine then_normal ?_
  refine wp_seq ?_
  refine wp_seq ?_
  refine wp_region_N [(0, 1), (1, 1), (2, 1)] (by kernel_rfl) ?_
  refine wpS_this [0, 1, 2] rfl (by kernel_rfl) (by simp only [pickL, nthL, List.cons_append, List.nil_append]; rfl) ?_
  repeat (go_big_quiet_step (fail))
  refine wpQuiet_nil ?_
  refine wpS_nil ?_
  refine then_normal ?_
  refine wp_block ?_
  refine wp_loop_F [4, 5, 8, 9, 10, 11, 12, 13, 14, 15, 16, 17, 18] (fun n vs W' => ∃ k : Nat, n = l.length - k ∧ vs 8 = .int .i64 (k : Int) ∧ k ≤ l.length ∧ idxF x k (l.drop k) = idxF x 0 l ∧ Mem [R] H w W') (n0 := l.length) ?_ ?_
  · exact ⟨0, rfl, rfl, Nat.zero_le _, rfl, (Mem.only (M := [_]) HM0.out [0] rfl)⟩
  rintro n vs W' ⟨k, rfl, e8, hk, hf, hm⟩
  simp only [putAll, List.map_cons, List.map_nil, Act.put, List.setIfInBounds_toArray, List.set_cons_succ, List.set_cons_zero]
  rw [e8]
  clear e8
  have hf := Lib.hid hf
  have HM1 := Lib.hid hm
  clear hm
  refine wp_seq ?_
  refine wp_region_N [(0, 1)] (by kernel_rfl) ?_
  refine wpS_this [0] rfl (by kernel_rfl) (by simp only [pickL, nthL, List.cons_append, List.nil_append]; rfl) ?_
  repeat (go_big_quiet_step (fail))
  refine wpQuiet_nil ?_
  refine wpS_nil ?_
  refine then_normal ?_
  refine wp_seq ?_
  refine wp_cond_split rfl (fun h2 => ?_) (fun h2 => ?_)
  · have hk1 : k + 1 ≤ l.length := by have : (k : Int) < ((l.length : Nat) : Int) := (by simpa using h2); omega
    clear h2
    obtain ⟨y, hy'⟩ : ∃ y, l[k]? = some y := ⟨_, List.getElem?_eq_getElem (hk1)⟩
    have hy := Lib.hid hy'
    clear hy'
    refine wp_skip ?_
    refine then_normal ?_
    refine wp_seq ?_
    refine wp_block ?_
    refine wp_seq ?_
    refine wp_region_N [(0, 1), (1, 1)] (by kernel_rfl) ?_
    refine wpS_this [0, 1] rfl (by kernel_rfl) (by simp only [pickL, nthL, List.cons_append, List.nil_append]; rfl) ?_
    repeat (go_big_quiet_step (fail))
    refine wpQuiet_nil ?_
    refine wpS_nil ?_
    refine then_normal ?_
    refine wp_seq ?_
    by_cases hxy : x = y
    · have g1 : (x == y) = true := beq_iff_eq.2 hxy
      replace hxy := Lib.hid hxy
      refine wp_region_N [(0, 1), (1, 1), (2, 1), (3, 1), (4, 1), (5, 1)] (by kernel_rfl) ?_
      refine wpS_this [0, 1, 2] rfl (by kernel_rfl) (by simp only [pickL, nthL, List.cons_append, List.nil_append]; rfl) ?_
      repeat (go_big_quiet_step (fail))
      refine wpQuiet_nil ?_
      refine wpS_index (E := elemI) (i := 3) (d := some 14) rfl (by rfl) rfl rfl rfl (HM1.out.row 0 rfl hR) (hy.out) rfl ?_
      intro eb3 eo4 hc5
      simp only [Act.put, List.setIfInBounds_toArray, List.set_cons_succ, List.set_cons_zero]
      refine wpS_load1 (i := 4) (d := some 15) (u := .int .i64 y) rfl (by rfl) rfl rfl (hc5 0 _ rfl) Try.underlying3 rfl rfl ?_
      simp only [Act.put, List.setIfInBounds_toArray, List.set_cons_succ, List.set_cons_zero]
      refine wpS_this [5] rfl (by kernel_rfl) (by simp only [pickL, nthL, List.cons_append, List.nil_append]; rfl) ?_
      repeat (go_big_quiet_step (fail))
      refine wpQuiet_nil ?_
      refine wpS_nil ?_
      refine then_normal ?_
      refine wp_cond_true rfl ?_
      refine wp_seq ?_
      refine wp_region_N [(0, 1), (1, 1)] (by kernel_rfl) ?_
      refine wpS_this [0, 1] rfl (by kernel_rfl) (by simp only [pickL, nthL, List.cons_append, List.nil_append]; rfl) ?_
      repeat (go_big_quiet_step (fail))
      refine wpQuiet_nil ?_
      refine wpS_nil ?_
      refine then_normal ?_
      refine wp_ret ?_
      refine block_ret (then_ret (then_ret (block_ret (then_ret ?_))))
      refine bodyPost_ret (results_tmp rfl _ _ _) rfl ?_
      have hc : idxF x 0 l = (k : Int) := by rw [← hf.out, idxF_stop hy.out hxy.out]
      rw [hc]
      exact does_ret (Mem.only (M := [_]) HM1.out [0] rfl) rfl rfl
    · have g1 : (x == y) = false := beq_eq_false_iff_ne.2 hxy
      replace hxy := Lib.hid hxy
      refine wp_region_N [(0, 1), (1, 1), (2, 1), (3, 1), (4, 1), (5, 1)] (by kernel_rfl) ?_
      refine wpS_this [0, 1, 2] rfl (by kernel_rfl) (by simp only [pickL, nthL, List.cons_append, List.nil_append]; rfl) ?_
      repeat (go_big_quiet_step (fail))
      refine wpQuiet_nil ?_
      refine wpS_index (E := elemI) (i := 3) (d := some 14) rfl (by rfl) rfl rfl rfl (HM1.out.row 0 rfl hR) (hy.out) rfl ?_
      intro eb6 eo7 hc8
      simp only [Act.put, List.setIfInBounds_toArray, List.set_cons_succ, List.set_cons_zero]
      refine wpS_load1 (i := 4) (d := some 15) (u := .int .i64 y) rfl (by rfl) rfl rfl (hc8 0 _ rfl) Try.underlying3 rfl rfl ?_
      simp only [Act.put, List.setIfInBounds_toArray, List.set_cons_succ, List.set_cons_zero]
      refine wpS_this [5] rfl (by kernel_rfl) (by simp only [pickL, nthL, List.cons_append, List.nil_append]; rfl) ?_
      repeat (go_big_quiet_step (fail))
      refine wpQuiet_nil ?_
      refine wpS_nil ?_
      refine then_normal ?_
      refine wp_cond_false rfl ?_
      refine wp_skip ?_
      refine block_normal ?_
      refine then_normal ?_
      refine wp_region_N [(0, 1), (1, 1)] (by kernel_rfl) ?_
      refine wpS_this [0, 1] rfl (by kernel_rfl) (by simp only [pickL, nthL, List.cons_append, List.nil_append]; rfl) ?_
      repeat (go_big_quiet_step (fail))
      refine wpQuiet_nil ?_
      refine wpS_nil ?_
      refine then_normal ?_
      refine ⟨by kernel_rfl, ?_⟩
      refine ⟨l.length - (k + 1), by omega, k + 1, rfl, rfl, hk1, ?_, (Mem.only (M := [_]) HM1.out [0] rfl)⟩
      rw [← hf.out, idxF_step hy.out hxy.out]
  · have hge : Hid (l.length ≤ k) := Lib.hid (by have : ¬ (k : Int) < ((l.length : Nat) : Int) := (by simpa using h2); omega)
    clear h2
    refine wp_exit ?_
    refine then_exit (then_exit (block_exit ?_))
    refine then_normal ?_
    refine wp_seq ?_
    refine wp_region_N [(0, 1)] (by kernel_rfl) ?_
    refine wpS_this [0] rfl (by kernel_rfl) (by simp only [pickL, nthL, List.cons_append, List.nil_append]; rfl) ?_
    repeat (go_big_quiet_step (fail))
    refine wpQuiet_nil ?_
    refine wpS_nil ?_
    refine then_normal ?_
    refine wp_ret ?_
    refine bodyPost_ret (results_tmp rfl _ _ _) rfl ?_
    have hc : idxF x 0 l = -1 := by rw [← hf.out, idxF_end hge.out]
    rw [hc]
    exact does_ret (Mem.only (M := [_]) HM1.out [0] rfl) rfl rfl

set_option maxHeartbeats 4000000 in
set_option maxRecDepth 100000 in
theorem contains_d (R : At) (v : Value) (l : List Int) (x : Int) (hR : ∀ W H, R.p W H → RowAt elemI W v l) (hll : l.length ≤ 140737488351232) : Does Try.prog 34 #[v, .int .i64 x] [R] (.bool (l.contains x)) [R] := by
  intro w H hp
  have HM0 := Lib.hid (mem_refl hp)
  clear hp
  go_enter Try.func34, Try.ntmps34
  refine wp_seq ?_
  refine wp_region_N [(0, 1)] (by kernel_rfl) ?_
  refine wpS_this [0] rfl (by kernel_rfl) (by simp only [pickL, nthL, List.cons_append, List.nil_append]; rfl) ?_
  repeat (go_big_quiet_step (fail))
  refine wpQuiet_nil ?_
  refine wpS_nil ?_
  refine then_normal ?_
  refine wp_seq ?_
  obtain ⟨z, hz'⟩ := int_letter (idxF x 0 l)
  rw [← idxF_has (k := 0), hz']
  have hz := Lib.hid hz'
  clear hz'
  refine wp_region_N [(0, 1), (1, 1), (2, 3), (3, 1), (4, 1)] (by kernel_rfl) ?_
  refine wpS_this [0, 1] rfl (by kernel_rfl) (by simp only [pickL, nthL, List.cons_append, List.nil_append]; rfl) ?_
  repeat (go_big_quiet_step (fail))
  refine wpQuiet_nil ?_
  refine wpS_does2 (i := 2) (d := some 7) (rem := []) (out := [_]) rfl (by rfl) rfl Try.call65 (sindex_d R v l x hR hll) rfl rfl HM0.out [0] rfl covS_nil rfl rfl ?_
  rintro W2 hm1 -
  rw [hz.out]
  have HM3 := Lib.hid hm1
  clear hm1
  simp only [Act.put, List.setIfInBounds_toArray, List.set_cons_succ, List.set_cons_zero]
  refine wpS_this [3, 4] rfl (by kernel_rfl) (by simp only [pickL, nthL, List.cons_append, List.nil_append]; rfl) ?_
  repeat (go_big_quiet_step (fail))
  refine wpQuiet_nil ?_
  refine wpS_nil ?_
  refine then_normal ?_
  refine wp_ret ?_
  refine bodyPost_ret (results_tmp rfl _ _ _) rfl ?_
  exact does_ret (Mem.only (M := [_]) HM3.out [0] rfl) rfl rfl

set_option maxHeartbeats 4000000 in
set_option maxRecDepth 100000 in
theorem sequal_d (R : At) (va vb : Value) (x m : List Int) (hA : ∀ W H, R.p W H → RowAt elemI W va x) (hB : ∀ W H, R.p W H → RowAt elemI W vb m) (hxl : x.length ≤ 1000) : Does Try.prog 58 #[va, vb] [R] (.bool (decide (x = m))) [R] := by
  intro w H hp
  have HM0 := Lib.hid (mem_refl hp)
  clear hp
  obtain ⟨p, cap, rfl, -⟩ := (HM0.out.row 0 rfl hA).form
  obtain ⟨q, dap, rfl, -⟩ := (HM0.out.row 0 rfl hB).form
  go_enter Try.func58, Try.ntmps58
  refine wp_seq ?_
  refine wp_region_N [(0, 1)] (by kernel_rfl) ?_
  refine wpS_this [0] rfl (by kernel_rfl) (by simp only [pickL, nthL, List.cons_append, List.nil_append]; rfl) ?_
  repeat (go_big_quiet_step (fail))
  refine wpQuiet_nil ?_
  refine wpS_nil ?_
  refine then_normal ?_
  refine wp_seq ?_
  refine wp_seq ?_
  by_cases hl : x.length = m.length
  · have gl : ((x.length : Int) != (m.length : Int)) = false := by rw [bne_eq_false_iff_eq]; omega
    have gl' : (x.length != m.length) = false := by rw [bne_eq_false_iff_eq]; omega
    replace hl := Lib.hid hl
    refine wp_region_N [(0, 1), (1, 1), (2, 1), (3, 1), (4, 1)] (by kernel_rfl) ?_
    refine wpS_this [0, 1, 2, 3, 4] rfl (by kernel_rfl) (by simp only [pickL, nthL, List.cons_append, List.nil_append]; rfl) ?_
    repeat (go_big_quiet_step (fail))
    refine wpQuiet_nil ?_
    refine wpS_nil ?_
    refine then_normal ?_
    refine wp_cond_false rfl ?_
    refine wp_skip ?_
    refine then_normal ?_
    refine wp_seq ?_
    refine wp_seq ?_
    refine wp_region_N [(0, 1), (1, 1), (2, 1)] (by kernel_rfl) ?_
    refine wpS_this [0, 1, 2] rfl (by kernel_rfl) (by simp only [pickL, nthL, List.cons_append, List.nil_append]; rfl) ?_
    repeat (go_big_quiet_step (fail))
    refine wpQuiet_nil ?_
    refine wpS_nil ?_
    refine then_normal ?_
    refine wp_block ?_
    refine wp_loop_F [4, 5, 13, 14, 15, 16, 17, 18, 19, 20, 21, 22, 23, 24, 25] (fun n vs W' => ∃ k : Nat, n = x.length - k ∧ vs 13 = .int .i64 (k : Int) ∧ k ≤ x.length ∧ x.take k = m.take k ∧ Mem [R] H w W') (n0 := x.length) ?_ ?_
    · exact ⟨0, rfl, rfl, Nat.zero_le _, rfl, (Mem.only (M := [_]) HM0.out [0] rfl)⟩
    rintro n vs W' ⟨k, rfl, e13, hk, hf, hm⟩
    simp only [putAll, List.map_cons, List.map_nil, Act.put, List.setIfInBounds_toArray, List.set_cons_succ, List.set_cons_zero]
    rw [e13]
    clear e13
    have hf := Lib.hid hf
    have HM1 := Lib.hid hm
    clear hm
    refine wp_seq ?_
    refine wp_region_N [(0, 1)] (by kernel_rfl) ?_
    refine wpS_this [0] rfl (by kernel_rfl) (by simp only [pickL, nthL, List.cons_append, List.nil_append]; rfl) ?_
    repeat (go_big_quiet_step (fail))
    refine wpQuiet_nil ?_
    refine wpS_nil ?_
    refine then_normal ?_
    refine wp_seq ?_
    refine wp_cond_split rfl (fun h2 => ?_) (fun h2 => ?_)
    · have hk1 : k + 1 ≤ x.length := by have : (k : Int) < ((x.length : Nat) : Int) := (by simpa using h2); omega
      clear h2
      obtain ⟨z, hz'⟩ : ∃ y, x[k]? = some y := ⟨_, List.getElem?_eq_getElem (hk1)⟩
      have hz := Lib.hid hz'
      clear hz'
      obtain ⟨t, ht'⟩ : ∃ y, m[k]? = some y := ⟨_, List.getElem?_eq_getElem (by have := hl.out; omega)⟩
      have ht := Lib.hid ht'
      clear ht'
      refine wp_skip ?_
      refine then_normal ?_
      refine wp_seq ?_
      refine wp_block ?_
      refine wp_seq ?_
      refine wp_region_N [(0, 1), (1, 1)] (by kernel_rfl) ?_
      refine wpS_this [0, 1] rfl (by kernel_rfl) (by simp only [pickL, nthL, List.cons_append, List.nil_append]; rfl) ?_
      repeat (go_big_quiet_step (fail))
      refine wpQuiet_nil ?_
      refine wpS_nil ?_
      refine then_normal ?_
      refine wp_seq ?_
      by_cases hzt : z = t
      · have g1 : (z != t) = false := by rw [bne_eq_false_iff_eq]; exact hzt
        replace hzt := Lib.hid hzt.symm
        refine wp_region_M (fun k => k ∈ ([] : List Nat)) [(0, 1), (1, 1), (2, 1), (3, 1), (4, 1), (5, 1), (6, 1), (7, 1), (8, 1)] (by kernel_rfl) (by kernel_rfl) HM1.out ?_
        intro W3 hm4
        have HM5 := Lib.hid hm4
        clear hm4
        refine wpS_this [0, 1] rfl (by kernel_rfl) (by simp only [pickL, nthL, List.cons_append, List.nil_append]; rfl) ?_
        repeat (go_big_quiet_step (fail))
        refine wpQuiet_nil ?_
        refine wpS_index (E := elemI) (i := 2) (d := some 18) rfl (by rfl) rfl rfl rfl (HM5.out.row 0 rfl hA) (hz.out) rfl ?_
        intro eb6 eo7 hc8
        simp only [Act.put, List.setIfInBounds_toArray, List.set_cons_succ, List.set_cons_zero]
        refine wpS_load1 (i := 3) (d := some 19) (u := .int .i64 z) rfl (by rfl) rfl rfl (hc8 0 _ rfl) Try.underlying3 rfl rfl ?_
        simp only [Act.put, List.setIfInBounds_toArray, List.set_cons_succ, List.set_cons_zero]
        refine wpS_this [4, 5] rfl (by kernel_rfl) (by simp only [pickL, nthL, List.cons_append, List.nil_append]; rfl) ?_
        repeat (go_big_quiet_step (fail))
        refine wpQuiet_nil ?_
        refine wpS_index (E := elemI) (i := 6) (d := some 22) rfl (by rfl) rfl rfl rfl (HM5.out.row 0 rfl hB) (ht.out) rfl ?_
        intro eb9 eo10 hc11
        simp only [Act.put, List.setIfInBounds_toArray, List.set_cons_succ, List.set_cons_zero]
        refine wpS_load1 (i := 7) (d := some 23) (u := .int .i64 t) rfl (by rfl) rfl rfl (hc11 0 _ rfl) Try.underlying3 rfl rfl ?_
        simp only [Act.put, List.setIfInBounds_toArray, List.set_cons_succ, List.set_cons_zero]
        refine wpS_this [8] rfl (by kernel_rfl) (by simp only [pickL, nthL, List.cons_append, List.nil_append]; rfl) ?_
        repeat (go_big_quiet_step (fail))
        refine wpQuiet_nil ?_
        refine wpS_nil ?_
        refine then_normal ?_
        refine wp_cond_false rfl ?_
        refine wp_skip ?_
        refine block_normal ?_
        refine then_normal ?_
        refine wp_region_N [(0, 1), (1, 1)] (by kernel_rfl) ?_
        refine wpS_this [0, 1] rfl (by kernel_rfl) (by simp only [pickL, nthL, List.cons_append, List.nil_append]; rfl) ?_
        repeat (go_big_quiet_step (fail))
        refine wpQuiet_nil ?_
        refine wpS_nil ?_
        refine then_normal ?_
        refine ⟨by kernel_rfl, ?_⟩
        refine ⟨x.length - (k + 1), by omega, k + 1, rfl, rfl, hk1, ?_, (Mem.only (M := [_]) HM5.out [0] rfl)⟩
        exact take_step hz.out (by rw [ht.out, hzt.out]) hf.out
      · have g1 : (z != t) = true := bne_iff_ne.2 hzt
        replace hzt := Lib.hid hzt
        refine wp_region_M (fun k => k ∈ ([] : List Nat)) [(0, 1), (1, 1), (2, 1), (3, 1), (4, 1), (5, 1), (6, 1), (7, 1), (8, 1)] (by kernel_rfl) (by kernel_rfl) HM1.out ?_
        intro W12 hm13
        have HM14 := Lib.hid hm13
        clear hm13
        refine wpS_this [0, 1] rfl (by kernel_rfl) (by simp only [pickL, nthL, List.cons_append, List.nil_append]; rfl) ?_
        repeat (go_big_quiet_step (fail))
        refine wpQuiet_nil ?_
        refine wpS_index (E := elemI) (i := 2) (d := some 18) rfl (by rfl) rfl rfl rfl (HM14.out.row 0 rfl hA) (hz.out) rfl ?_
        intro eb15 eo16 hc17
        simp only [Act.put, List.setIfInBounds_toArray, List.set_cons_succ, List.set_cons_zero]
        refine wpS_load1 (i := 3) (d := some 19) (u := .int .i64 z) rfl (by rfl) rfl rfl (hc17 0 _ rfl) Try.underlying3 rfl rfl ?_
        simp only [Act.put, List.setIfInBounds_toArray, List.set_cons_succ, List.set_cons_zero]
        refine wpS_this [4, 5] rfl (by kernel_rfl) (by simp only [pickL, nthL, List.cons_append, List.nil_append]; rfl) ?_
        repeat (go_big_quiet_step (fail))
        refine wpQuiet_nil ?_
        refine wpS_index (E := elemI) (i := 6) (d := some 22) rfl (by rfl) rfl rfl rfl (HM14.out.row 0 rfl hB) (ht.out) rfl ?_
        intro eb18 eo19 hc20
        simp only [Act.put, List.setIfInBounds_toArray, List.set_cons_succ, List.set_cons_zero]
        refine wpS_load1 (i := 7) (d := some 23) (u := .int .i64 t) rfl (by rfl) rfl rfl (hc20 0 _ rfl) Try.underlying3 rfl rfl ?_
        simp only [Act.put, List.setIfInBounds_toArray, List.set_cons_succ, List.set_cons_zero]
        refine wpS_this [8] rfl (by kernel_rfl) (by simp only [pickL, nthL, List.cons_append, List.nil_append]; rfl) ?_
        repeat (go_big_quiet_step (fail))
        refine wpQuiet_nil ?_
        refine wpS_nil ?_
        refine then_normal ?_
        refine wp_cond_true rfl ?_
        refine wp_seq ?_
        refine wp_region_N [(0, 1)] (by kernel_rfl) ?_
        refine wpS_this [0] rfl (by kernel_rfl) (by simp only [pickL, nthL, List.cons_append, List.nil_append]; rfl) ?_
        repeat (go_big_quiet_step (fail))
        refine wpQuiet_nil ?_
        refine wpS_nil ?_
        refine then_normal ?_
        refine wp_ret ?_
        refine block_ret (then_ret (then_ret (block_ret (then_ret ?_))))
        refine bodyPost_ret (results_tmp rfl _ _ _) rfl ?_
        rw [decide_eq_false (ne_at hz.out ht.out hzt.out)]
        exact does_ret (Mem.only (M := [_]) HM14.out [0] rfl) rfl rfl
    · have hge : Hid (x.length ≤ k) := Lib.hid (by have : ¬ (k : Int) < ((x.length : Nat) : Int) := (by simpa using h2); omega)
      clear h2
      refine wp_exit ?_
      refine then_exit (then_exit (block_exit ?_))
      refine then_normal ?_
      refine wp_seq ?_
      refine wp_region_N [(0, 1)] (by kernel_rfl) ?_
      refine wpS_this [0] rfl (by kernel_rfl) (by simp only [pickL, nthL, List.cons_append, List.nil_append]; rfl) ?_
      repeat (go_big_quiet_step (fail))
      refine wpQuiet_nil ?_
      refine wpS_nil ?_
      refine then_normal ?_
      refine wp_ret ?_
      refine bodyPost_ret (results_tmp rfl _ _ _) rfl ?_
      have hkl : k = x.length := by have := hge.out; omega
      rw [decide_eq_true (take_ext hl.out (by rw [← hkl]; exact hf.out))]
      exact does_ret (Mem.only (M := [_]) HM1.out [0] rfl) rfl rfl
  · have gl : ((x.length : Int) != (m.length : Int)) = true := by rw [bne_iff_ne]; omega
    have gl' : (x.length != m.length) = true := by rw [bne_iff_ne]; omega
    replace hl := Lib.hid hl
    refine wp_region_N [(0, 1), (1, 1), (2, 1), (3, 1), (4, 1)] (by kernel_rfl) ?_
    refine wpS_this [0, 1, 2, 3, 4] rfl (by kernel_rfl) (by simp only [pickL, nthL, List.cons_append, List.nil_append]; rfl) ?_
    repeat (go_big_quiet_step (fail))
    refine wpQuiet_nil ?_
    refine wpS_nil ?_
    refine then_normal ?_
    refine wp_cond_true rfl ?_
    refine wp_seq ?_
    refine wp_region_N [(0, 1)] (by kernel_rfl) ?_
    refine wpS_this [0] rfl (by kernel_rfl) (by simp only [pickL, nthL, List.cons_append, List.nil_append]; rfl) ?_
    repeat (go_big_quiet_step (fail))
    refine wpQuiet_nil ?_
    refine wpS_nil ?_
    refine then_normal ?_
    refine wp_ret ?_
    refine then_ret ?_
    refine bodyPost_ret (results_tmp rfl _ _ _) rfl ?_
    rw [decide_eq_false (fun e => hl.out (congrArg List.length e))]
    exact does_ret (Mem.only (M := [_]) HM0.out [0] rfl) rfl rfl

theorem ldnode_any (n : Int) (w : World) : Gives Try.prog 24 #[.int .i64 n] w (.bool (nodeE n)) := by
  unfold Gives
  by_cases q0 : 0 ≤ n <;> by_cases q1 : n < 8
  all_goals try (exfalso; omega)
  all_goals first | (have H : Hid (nodeE n = true) := Lib.hid (by simp [nodeE]; omega)) | (have H : Hid (nodeE n = false) := Lib.hid (by simp [nodeE]; omega))
  all_goals
    go_enter Try.func24, Try.ntmps24
    go_wp2
    all_goals go_ret
    all_goals exact ⟨by rw [H.out]; rfl, Later.ex (by repeat (first | exact ext_refl _ | refine ext_alloc ?_ _ | refine ext_later ?_ _ | refine ext_drew ?_ | refine ext_drewN ?_ _))⟩
theorem ldnode_d (n : Int) : Does Try.prog 24 #[.int .i64 n] [] (.bool (nodeE n)) [] := Does.of_any fun w => ldnode_any n w
end Go.Proofs.Ytdfmfcbeebfdhaa
