/- Lead: what the landed lead does. -/
import Derived.Test.YtdfmfcbeebfdhaaLdK
import Derived.Test.YtdfmfcbeebfdhaaLdM
namespace Go.Proofs.Ytdfmfcbeebfdhaa
open Go Go.RowKit Go.BigFrame

def leadF (here l : List Int) : Int := (l.find? fun n => here.contains n).getD (-1)
theorem leadF_step {here l : List Int} {k : Nat} {y : Int} (h : l[k]? = some y) (hy : here.contains y = false) : leadF here (l.drop k) = leadF here (l.drop (k + 1)) := by
  have h1 := (List.getElem?_eq_some_iff.1 h).1
  have h2 := (List.getElem?_eq_some_iff.1 h).2
  rw [List.drop_eq_getElem_cons h1, h2]
  unfold leadF
  rw [List.find?_cons, hy]
theorem leadF_stop {here l : List Int} {k : Nat} {y : Int} (h : l[k]? = some y) (hy : here.contains y = true) : leadF here (l.drop k) = y := by
  have h1 := (List.getElem?_eq_some_iff.1 h).1
  have h2 := (List.getElem?_eq_some_iff.1 h).2
  rw [List.drop_eq_getElem_cons h1, h2]
  unfold leadF
  rw [List.find?_cons, hy]
  rfl
theorem leadF_end {here l : List Int} {k : Nat} (h : l.length ≤ k) : leadF here (l.drop k) = -1 := by
  rw [List.drop_eq_nil_of_le h]
  rfl
def tabK (f : Nat → Int) (k : Nat) : List Int := (List.range 16).map fun p => if p < k then f p else 0
theorem tabK_len (f : Nat → Int) (k : Nat) : (tabK f k).length = 16 := by simp [tabK]
theorem tabK_zero (f : Nat → Int) : tabK f 0 = List.replicate 16 0 := rfl
theorem tabK_set (f : Nat → Int) {k : Nat} (hk : k < 16) : (tabK f k).set k (f k) = tabK f (k + 1) := by
  apply List.ext_getElem?
  intro j
  rw [List.getElem?_set]
  by_cases hj : j < 16
  · have e : ∀ m, (tabK f m)[j]? = some (if j < m then f j else 0) := fun m => by simp [tabK, hj]
    rw [e, e]
    by_cases h : k = j
    · subst h
      rw [if_pos rfl, if_pos (by rw [tabK_len]; exact hk), if_pos (by omega)]
    · rw [if_neg h]
      by_cases h2 : j < k
      · rw [if_pos h2, if_pos (by omega)]
      · rw [if_neg h2, if_neg (by omega)]
  · rw [if_neg (by omega), List.getElem?_eq_none (by rw [tabK_len]; omega), List.getElem?_eq_none (by rw [tabK_len]; omega)]
theorem tabK_end (f : Nat → Int) : tabK f 16 = (List.range 16).map f := List.map_congr_left fun _p hp => if_pos (List.mem_range.1 hp)
/-- Statuses are set along a row. -/
def setG (l : List Int) (g : Nat → Bool) (v : Int) (f : Nat → Int) (k : Nat) : Nat → Int := fun i => if ((l.take k).contains (i : Int) && g i) = true then v else f i
theorem setG_zero (l : List Int) (g : Nat → Bool) (v : Int) (f : Nat → Int) : setG l g v f 0 = f := by
  funext i
  unfold setG
  rw [List.take_zero]
  exact if_neg (by simp)
theorem setG_hit {l : List Int} {g : Nat → Bool} {v : Int} {f : Nat → Int} {k m : Nat} (h : l[k]? = some (m : Int)) (hg : g m = true) : upd (setG l g v f k) m v = setG l g v f (k + 1) := by
  funext i
  unfold upd setG
  rw [contains_take h]
  by_cases e : i = m
  · subst e
    rw [if_pos rfl, hg, beq_self_eq_true]
    simp
  · rw [if_neg e, show (((m : Int) == (i : Int))) = false from beq_eq_false_iff_ne.2 (by omega), Bool.or_false]
theorem setG_miss {l : List Int} {g : Nat → Bool} {v : Int} {f : Nat → Int} {k m : Nat} (h : l[k]? = some (m : Int)) (hg : g m = false) : setG l g v f k = setG l g v f (k + 1) := by
  funext i
  unfold setG
  rw [contains_take h]
  by_cases e : i = m
  · subst e
    rw [hg]
    simp
  · rw [show (((m : Int) == (i : Int))) = false from beq_eq_false_iff_ne.2 (by omega), Bool.or_false]
theorem setG_mem (a : Rg) (p : Pl) (e : Nat → En) : eqR ⟨setG (ofR a 1 2) (fun _ => true) 2 a.s (ofR a 1 2).length, p, e⟩ ⟨memS a, p, e⟩ := by
  refine ⟨fun i hi => ?_, rfl, fun _ _ => rfl⟩
  show setG (ofR a 1 2) (fun _ => true) 2 a.s (ofR a 1 2).length i = memS a i
  unfold setG memS
  rw [List.take_length, Bool.and_true]
  by_cases h : 1 ≤ a.s i ∧ a.s i ≤ 2
  · rw [if_pos h, if_pos (List.contains_iff_mem.2 ((ofR_memN hi).2 h))]
  · rw [if_neg h, if_neg (fun h1 => h ((ofR_memN hi).1 (List.contains_iff_mem.1 h1)))]
theorem setG_gone (a : Rg) : eqR ⟨setG (ofR a 3 3) (goneB a) 4 a.s (ofR a 3 3).length, a.p, a.e⟩ (goneR a) := by
  refine ⟨fun i hi => ?_, rfl, fun _ _ => rfl⟩
  show setG (ofR a 3 3) (goneB a) 4 a.s (ofR a 3 3).length i = if goneB a i = true then 4 else a.s i
  unfold setG
  rw [List.take_length]
  by_cases h : goneB a i = true
  · have h3 : 3 ≤ a.s i ∧ a.s i ≤ 3 := by
      unfold goneB at h
      exact of_decide_eq_true (Bool.and_eq_true_iff.1 h).1
    rw [if_pos h, h, if_pos (by rw [List.contains_iff_mem.2 ((ofR_memN hi).2 h3)]; rfl)]
  · rw [if_neg h, if_neg (by rw [show goneB a i = false from by simpa using h, Bool.and_false]; simp)]
theorem gone_at {a : Rg} {m : Nat} (h : 3 ≤ a.s m ∧ a.s m ≤ 3) : goneB a m = (!(ownersL a).contains (m : Int) && !(targetsL a).contains (m : Int)) := by
  unfold goneB
  rw [decide_eq_true h, Bool.true_and]
/-- What withMembers hands back: its targets are read of the argument, or a row of its own. -/
def withT (u : Value) (b : Rg) (e : Int) (R : At) : At := exT fun s : Value × At => [prT (u = .tuple #[rgV b s.1, .int .i64 e] ∧ Reads elemI (listT [s.2, R]) s.1 b.p.2.2), s.2, R]
section
variable {L : List At} {H0 : Nat → Prop} {w W : World}
theorem Mem.toWith {b : Rg} {e : Int} {R X : At} {sl : Value} (hr : Reads elemI (listT [X, R]) sl b.p.2.2) (h : Mem (X :: R :: L) H0 w W) : Mem (withT (.tuple #[rgV b sl, .int .i64 e]) b e R :: L) H0 w W := Mem.addEx (sl, X) (Mem.addPr ⟨rfl, hr⟩ h)
theorem Mem.ofWith {u : Value} {b : Rg} {e : Int} {R : At} (h : Mem (withT u b e R :: L) H0 w W) : ∃ p c X, u = .tuple #[rgV b (.slice p b.p.2.2.length c), .int .i64 e] ∧ Reads elemI (listT [X, R]) (.slice p b.p.2.2.length c) b.p.2.2 ∧ Mem (X :: R :: L) H0 w W := by
  obtain ⟨s, h⟩ := Mem.ex h
  obtain ⟨⟨h1, h2⟩, h⟩ := Mem.pr h
  have h3 : Mem (listT [s.2, R] :: L) H0 w W := SEnd.mono h fun _ h => stars_split (l := [s.2, R]) h
  obtain ⟨p, c, e1⟩ := row_form (Mem.src h3 0 rfl h2)
  rw [e1] at h1 h2
  exact ⟨p, c, s.2, h1, h2, h⟩
end
set_option maxHeartbeats 4000000 in
set_option maxRecDepth 100000 in
theorem gleader_d (R : At) (va : Value) (a : Rg) (ha : Reads elemI R va a.p.2.2) (la : a.p.2.2.length ≤ 1000) (vh : Value) (here : List Int) (hh : ∀ W H, R.p W H → RowAt elemI W vh here) (lh : here.length ≤ 1000) : Does Try.prog 14 #[rgV a va, vh] [R] (.int .i64 (leaderR a here)) [R] := by
  intro w H hp
  have HM0 := Lib.hid (mem_refl hp)
  clear hp
  obtain ⟨pa, ca, rfl⟩ := row_form (Mem.src HM0.out 0 rfl ha)
  go_enter Try.func14, Try.ntmps14
  refine wp_seq ?_
  obtain ⟨l, hl'⟩ : ∃ y, ofR a 2 3 = y := ⟨_, rfl⟩
  have hll : l.length ≤ 8 := by rw [← hl']; exact ofR_le a 2 3
  have hl := Lib.hid hl'
  clear hl'
  refine wp_region_N [(0, 3), (1, 1)] (by kernel_rfl) ?_
  refine wpS_boxA (i := 0) (dd := 2) rfl (by rfl) rfl rfl HM0.out covS_nil rfl ?_
  rintro b3 W2 hm1 -
  have HM4 := Lib.hid hm1
  clear hm1
  simp only [Act.put, List.setIfInBounds_toArray, List.set_cons_succ, List.set_cons_zero]
  refine wpS_this [1] rfl (by kernel_rfl) (by simp only [pickL, nthL, List.cons_append, List.nil_append]; rfl) ?_
  repeat (go_big_quiet_step (fail))
  refine wpQuiet_nil ?_
  refine wpS_nil ?_
  refine then_normal ?_
  refine wp_seq ?_
  refine wp_seq ?_
  refine wp_region_N [(0, 1), (1, 3), (2, 1), (3, 1)] (by kernel_rfl) ?_
  refine wpS_loadA (i := 0) (d := some 7) (cells := rgC (a) (.slice pa a.p.2.2.length ca)) rfl (by rfl) rfl rfl (HM4.out.sub 0 rfl (fun k u h => by rw [Nat.zero_add]; exact h)) Try.underlying30 rfl (by kernel_rfl) rfl ?_
  simp only [Act.put, List.setIfInBounds_toArray, List.set_cons_succ, List.set_cons_zero]
  refine wpS_doesU3 (i := 1) (d := some 8) (rem := [_]) rfl (by rfl) rfl Try.call15 (gof_d R _ a ha la 2 3) rfl rfl rfl HM4.out [1] rfl covS_nil (fun _ => rfl) rfl ?_
  rintro u7 W6 hm5 -
  rw [hl.out] at hm5
  obtain ⟨pl, cl, rfl⟩ := row_form (Mem.src hm5 0 rfl rowT_reads)
  have HM8 := Lib.hid hm5
  clear hm5
  simp only [Act.put, List.setIfInBounds_toArray, List.set_cons_succ, List.set_cons_zero]
  refine wpS_this [2, 3] rfl (by kernel_rfl) (by simp only [pickL, nthL, List.cons_append, List.nil_append]; rfl) ?_
  repeat (go_big_quiet_step (fail))
  refine wpQuiet_nil ?_
  refine wpS_nil ?_
  refine then_normal ?_
  refine wp_block ?_
  refine wp_loop_F [4, 6, 10, 11, 12, 13, 14, 15, 16, 17, 18] (fun n vs W' => ∃ k : Nat, n = l.length - k ∧ vs 10 = .int .i64 (k : Int) ∧ k ≤ l.length ∧ leadF here (l.drop k) = leadF here l ∧ Mem [boxT b3 (.cells (rgC a (.slice pa a.p.2.2.length ca)).toArray 30 (0, 0)), rowT elemI (.slice pl l.length cl) l, R] H w W') (n0 := l.length) ?_ ?_
  · exact ⟨0, rfl, rfl, Nat.zero_le _, rfl, (Mem.only (M := [_, _, _]) HM8.out [2, 0, 0] rfl)⟩
  rintro n vs W' ⟨k, rfl, e10, hk, hf, hm⟩
  simp only [putAll, List.map_cons, List.map_nil, Act.put, List.setIfInBounds_toArray, List.set_cons_succ, List.set_cons_zero]
  rw [e10]
  clear e10
  have hf := Lib.hid hf
  have HM9 := Lib.hid hm
  clear hm
  refine wp_seq ?_
  refine wp_region_N [(0, 1)] (by kernel_rfl) ?_
  refine wpS_this [0] rfl (by kernel_rfl) (by simp only [pickL, nthL, List.cons_append, List.nil_append]; rfl) ?_
  repeat (go_big_quiet_step (fail))
  refine wpQuiet_nil ?_
  refine wpS_nil ?_
  refine then_normal ?_
  refine wp_seq ?_
  refine wp_cond_split rfl (fun h10 => ?_) (fun h10 => ?_)
  · have hk1 : k + 1 ≤ l.length := by have : (k : Int) < ((l.length : Nat) : Int) := (by simpa using h10); omega
    clear h10
    obtain ⟨y, hy'⟩ : ∃ y, l[k]? = some y := ⟨_, List.getElem?_eq_getElem (hk1)⟩
    have hy := Lib.hid hy'
    clear hy'
    refine wp_skip ?_
    refine then_normal ?_
    refine wp_seq ?_
    refine wp_block ?_
    refine wp_seq ?_
    refine wp_region_N [(0, 1), (1, 1), (2, 1)] (by kernel_rfl) ?_
    refine wpS_index (E := elemI) (i := 0) (d := some 12) rfl (by rfl) rfl rfl rfl (HM9.out.row 1 rfl rowOwn) (hy.out) rfl ?_
    intro eb11 eo12 hc13
    simp only [Act.put, List.setIfInBounds_toArray, List.set_cons_succ, List.set_cons_zero]
    refine wpS_load1 (i := 1) (d := some 13) (u := .int .i64 y) rfl (by rfl) rfl rfl (hc13 0 _ rfl) Try.underlying3 rfl rfl ?_
    simp only [Act.put, List.setIfInBounds_toArray, List.set_cons_succ, List.set_cons_zero]
    refine wpS_this [2] rfl (by kernel_rfl) (by simp only [pickL, nthL, List.cons_append, List.nil_append]; rfl) ?_
    repeat (go_big_quiet_step (fail))
    refine wpQuiet_nil ?_
    refine wpS_nil ?_
    refine then_normal ?_
    refine wp_seq ?_
    rcases Bool.eq_false_or_eq_true (here.contains y) with hc | hc
    · replace hc := Lib.hid hc
      refine wp_region_N [(0, 1), (1, 1), (2, 3)] (by kernel_rfl) ?_
      refine wpS_this [0, 1] rfl (by kernel_rfl) (by simp only [pickL, nthL, List.cons_append, List.nil_append]; rfl) ?_
      repeat (go_big_quiet_step (fail))
      refine wpQuiet_nil ?_
      refine wpS_does2 (i := 2) (d := some 16) (rem := [_, _]) (out := [_, _, _]) rfl (by rfl) rfl Try.call34 (contains_d R _ here y hh (Nat.le_trans lh (by decide))) rfl rfl HM9.out [2] rfl covS_nil rfl rfl ?_
      rintro W15 hm14 -
      rw [hc.out]
      have HM16 := Lib.hid hm14
      clear hm14
      simp only [Act.put, List.setIfInBounds_toArray, List.set_cons_succ, List.set_cons_zero]
      refine wpS_nil ?_
      refine then_normal ?_
      refine wp_cond_true rfl ?_
      refine wp_seq ?_
      refine wp_region_N [(0, 1), (1, 1)] (by kernel_rfl) ?_
      refine wpS_this [0, 1] rfl (by kernel_rfl) (by simp only [pickL, nthL, List.cons_append, List.nil_append]; rfl) ?_
      repeat (go_big_quiet_step (fail))
      refine wpQuiet_nil ?_
      refine wpS_nil ?_
      refine then_normal ?_
      refine wp_ret ?_
      refine block_ret (then_ret (then_ret (block_ret (then_ret ?_))))
      refine bodyPost_ret (results_tmp rfl _ _ _) rfl ?_
      have hq : leaderR a here = y := by unfold leaderR; rw [hl.out]; exact hf.out.symm.trans (leadF_stop hy.out hc.out)
      rw [hq]
      exact does_ret (Mem.only (M := [_]) HM16.out [0] rfl) rfl rfl
    · replace hc := Lib.hid hc
      refine wp_region_N [(0, 1), (1, 1), (2, 3)] (by kernel_rfl) ?_
      refine wpS_this [0, 1] rfl (by kernel_rfl) (by simp only [pickL, nthL, List.cons_append, List.nil_append]; rfl) ?_
      repeat (go_big_quiet_step (fail))
      refine wpQuiet_nil ?_
      refine wpS_does2 (i := 2) (d := some 16) (rem := [_, _]) (out := [_, _, _]) rfl (by rfl) rfl Try.call34 (contains_d R _ here y hh (Nat.le_trans lh (by decide))) rfl rfl HM9.out [2] rfl covS_nil rfl rfl ?_
      rintro W18 hm17 -
      rw [hc.out]
      have HM19 := Lib.hid hm17
      clear hm17
      simp only [Act.put, List.setIfInBounds_toArray, List.set_cons_succ, List.set_cons_zero]
      refine wpS_nil ?_
      refine then_normal ?_
      refine wp_cond_false rfl ?_
      refine wp_skip ?_
      refine block_normal ?_
      refine then_normal ?_
      refine wp_region_N [(0, 1), (1, 1)] (by kernel_rfl) ?_
      refine wpS_this [0, 1] rfl (by kernel_rfl) (by simp only [pickL, nthL, List.cons_append, List.nil_append]; rfl) ?_
      repeat (go_big_quiet_step (fail))
      refine wpQuiet_nil ?_
      refine wpS_nil ?_
      refine then_normal ?_
      refine ⟨by kernel_rfl, ?_⟩
      refine ⟨l.length - (k + 1), by omega, k + 1, rfl, rfl, hk1, ?_, (Mem.only (M := [_, _, _]) HM19.out [1, 1, 0] rfl)⟩
      rw [← hf.out, leadF_step hy.out hc.out]
  · have hge : Hid (l.length ≤ k) := Lib.hid (by have : ¬ (k : Int) < ((l.length : Nat) : Int) := (by simpa using h10); omega)
    clear h10
    refine wp_exit ?_
    refine then_exit (then_exit (block_exit ?_))
    refine then_normal ?_
    refine wp_seq ?_
    refine wp_region_N [(0, 1)] (by kernel_rfl) ?_
    refine wpS_this [0] rfl (by kernel_rfl) (by simp only [pickL, nthL, List.cons_append, List.nil_append]; rfl) ?_
    repeat (go_big_quiet_step (fail))
    refine wpQuiet_nil ?_
    refine wpS_nil ?_
    refine then_normal ?_
    refine wp_ret ?_
    refine bodyPost_ret (results_tmp rfl _ _ _) rfl ?_
    have hq : leaderR a here = -1 := by unfold leaderR; rw [hl.out]; exact hf.out.symm.trans (leadF_end hge.out)
    rw [hq]
    exact does_ret (Mem.only (M := [_]) HM9.out [2] rfl) rfl rfl

set_option maxHeartbeats 4000000 in
set_option maxRecDepth 100000 in
theorem owners12_d (R : At) (va : Value) (a : Rg) (ha : Reads elemI R va a.p.2.2) (la : a.p.2.2.length ≤ 1000) : Does Try.prog 49 #[rgV a va] [R] (aV (ownersL a)) [R] := by
  intro w H hp
  have HM0 := Lib.hid (mem_refl hp)
  clear hp
  obtain ⟨pa, ca, rfl⟩ := row_form (Mem.src HM0.out 0 rfl ha)
  go_enter Try.func49, Try.ntmps49
  refine wp_seq ?_
  refine wp_region_N [(0, 3), (1, 3)] (by kernel_rfl) ?_
  refine wpS_boxA (i := 0) (dd := 1) rfl (by rfl) rfl rfl HM0.out covS_nil rfl ?_
  rintro b3 W2 hm1 -
  have HM4 := Lib.hid hm1
  clear hm1
  simp only [Act.put, List.setIfInBounds_toArray, List.set_cons_succ, List.set_cons_zero]
  refine wpS_alloc (i := 1) (dd := 2) (z := aV (List.replicate 16 0)) (cs := (((List.replicate 16 0) : List Int).map iV).toArray) rfl (by rfl) rfl (by kernel_rfl) rfl HM4.out covS_nil rfl ?_
  rintro rb W6 hm5 -
  have HM7 := Lib.hid hm5
  clear hm5
  simp only [Act.put, List.setIfInBounds_toArray, List.set_cons_succ, List.set_cons_zero]
  refine wpS_nil ?_
  refine then_normal ?_
  refine wp_seq ?_
  refine wp_region_N [(0, 3)] (by kernel_rfl) ?_
  refine wpS_alloc (i := 0) (dd := 3) (z := aV (List.replicate 16 0)) (cs := (((List.replicate 16 0) : List Int).map iV).toArray) rfl (by rfl) rfl (by kernel_rfl) rfl HM7.out covS_nil rfl ?_
  rintro ob W9 hm8 -
  have HM10 := Lib.hid hm8
  clear hm8
  simp only [Act.put, List.setIfInBounds_toArray, List.set_cons_succ, List.set_cons_zero]
  refine wpS_nil ?_
  refine then_normal ?_
  refine wp_seq ?_
  refine wp_seq ?_
  refine wp_region_N [(0, 1)] (by kernel_rfl) ?_
  refine wpS_this [0] rfl (by kernel_rfl) (by simp only [pickL, nthL, List.cons_append, List.nil_append]; rfl) ?_
  repeat (go_big_quiet_step (fail))
  refine wpQuiet_nil ?_
  refine wpS_nil ?_
  refine then_normal ?_
  refine wp_block ?_
  refine wp_loop_F [4, 5, 6, 7, 8, 9, 10, 11, 12, 13] (fun n vs W' => ∃ k : Nat, n = 16 - k ∧ vs 5 = .int .i64 (k : Int) ∧ k ≤ 16 ∧ Mem [arrT ob 68 (tabK (fun p : Nat => ownerR a p) k), boxT b3 (.cells (rgC a (.slice pa a.p.2.2.length ca)).toArray 30 (0, 0)), arrT rb 68 (List.replicate 16 0), R] H w W') (n0 := 16) ?_ ?_
  · refine ⟨0, rfl, rfl, Nat.zero_le _, ?_⟩
    rw [tabK_zero]
    exact (Mem.only (M := [_, _, _, _]) HM10.out [0, 1, 0, 0] rfl)
  rintro n vs W' ⟨k, rfl, e5, hk, hm⟩
  simp only [putAll, List.map_cons, List.map_nil, Act.put, List.setIfInBounds_toArray, List.set_cons_succ, List.set_cons_zero]
  rw [e5]
  clear e5
  have HM11 := Lib.hid hm
  clear hm
  refine wp_seq ?_
  refine wp_region_N [(0, 1)] (by kernel_rfl) ?_
  refine wpS_this [0] rfl (by kernel_rfl) (by simp only [pickL, nthL, List.cons_append, List.nil_append]; rfl) ?_
  repeat (go_big_quiet_step (fail))
  refine wpQuiet_nil ?_
  refine wpS_nil ?_
  refine then_normal ?_
  refine wp_seq ?_
  refine wp_cond_split rfl (fun h12 => ?_) (fun h12 => ?_)
  · have hk1 : k + 1 ≤ 16 := by have : (k : Int) < 16 := (by simpa using h12); omega
    clear h12
    refine wp_skip ?_
    refine then_normal ?_
    refine wp_seq ?_
    refine wp_block ?_
    refine wp_seq ?_
    refine wp_region_N [(0, 1), (1, 1)] (by kernel_rfl) ?_
    refine wpS_this [0, 1] rfl (by kernel_rfl) (by simp only [pickL, nthL, List.cons_append, List.nil_append]; rfl) ?_
    repeat (go_big_quiet_step (fail))
    refine wpQuiet_nil ?_
    refine wpS_nil ?_
    refine then_normal ?_
    refine wp_region_N [(0, 1), (1, 1), (2, 1), (3, 3), (4, 1), (5, 3)] (by kernel_rfl) ?_
    refine wpS_this [0] rfl (by kernel_rfl) (by simp only [pickL, nthL, List.cons_append, List.nil_append]; rfl) ?_
    repeat (go_big_quiet_step (fail))
    refine wpQuiet_nil ?_
    refine wpS_loadA (i := 1) (d := some 9) (cells := rgC (a) (.slice pa a.p.2.2.length ca)) rfl (by rfl) rfl rfl (HM11.out.sub 1 rfl (fun k u h => by rw [Nat.zero_add]; exact h)) Try.underlying30 rfl (by kernel_rfl) rfl ?_
    simp only [Act.put, List.setIfInBounds_toArray, List.set_cons_succ, List.set_cons_zero]
    refine wpS_this [2] rfl (by kernel_rfl) (by simp only [pickL, nthL, List.cons_append, List.nil_append]; rfl) ?_
    repeat (go_big_quiet_step (fail))
    refine wpQuiet_nil ?_
    refine wpS_does2 (i := 3) (d := some 11) (rem := [_, _, _]) (out := [_, _, _, _]) rfl (by rfl) rfl Try.call46 (gowner_d R _ a ha la (k : Int)) rfl rfl HM11.out [3] rfl covS_nil rfl rfl ?_
    rintro W14 hm13 -
    have HM15 := Lib.hid hm13
    clear hm13
    simp only [Act.put, List.setIfInBounds_toArray, List.set_cons_succ, List.set_cons_zero]
    refine wpS_addrArr (i := 4) (d := some 12) (b := ob) (j := k) is16 rfl (by rfl) rfl rfl rfl (by omega) rfl ?_
    simp only [Act.put, List.setIfInBounds_toArray, List.set_cons_succ, List.set_cons_zero]
    refine wpS_setEl (i := 5) (z := (ownerR a (k : Int))) (L2 := [_, _, _]) rfl (by rfl) rfl rfl rfl HM15.out 1 rfl rfl (by rw [tabK_len]; omega) covS_nil rfl ?_
    rintro W17 hm16 -
    have HM18 := Lib.hid hm16
    clear hm16
    refine wpS_nil ?_
    refine block_normal ?_
    refine then_normal ?_
    refine wp_region_N [(0, 1), (1, 1)] (by kernel_rfl) ?_
    refine wpS_this [0, 1] rfl (by kernel_rfl) (by simp only [pickL, nthL, List.cons_append, List.nil_append]; rfl) ?_
    repeat (go_big_quiet_step (fail))
    refine wpQuiet_nil ?_
    refine wpS_nil ?_
    refine then_normal ?_
    refine ⟨by kernel_rfl, ?_⟩
    refine ⟨16 - (k + 1), by omega, k + 1, rfl, rfl, hk1, ?_⟩
    rw [← tabK_set (fun p : Nat => ownerR a p) (show k < 16 by omega)]
    exact (Mem.only (M := [_, _, _, _]) HM18.out [0, 1, 1, 0] rfl)
  · have hk16 : Hid (16 ≤ k) := Lib.hid (by have : ¬ (k : Int) < 16 := (by simpa using h12); omega)
    clear h12
    refine wp_exit ?_
    refine then_exit (then_exit (block_exit ?_))
    refine then_normal ?_
    refine wp_seq ?_
    refine wp_region_N [(0, 1), (1, 3)] (by kernel_rfl) ?_
    refine wpS_loadArr (i := 0) (d := some 14) is16 rfl (by rfl) rfl rfl HM11.out 0 rfl (tabK_len _ _) rfl ?_
    simp only [Act.put, List.setIfInBounds_toArray, List.set_cons_succ, List.set_cons_zero]
    refine wpS_storeArr (i := 1) (L2 := [_, _, _]) is16 rfl (by rfl) rfl rfl rfl HM11.out 2 rfl rfl (List.length_replicate) (tabK_len _ _) covS_nil rfl ?_
    rintro W20 hm19 -
    have HM21 := Lib.hid hm19
    clear hm19
    refine wpS_nil ?_
    refine then_normal ?_
    refine wp_ret ?_
    refine ret_arr rfl is16 HM21.out 0 rfl rfl (tabK_len _ _) rfl ?_
    rw [show k = 16 by have := hk16.out; omega]
    exact does_ret (Mem.only (M := [_]) HM21.out [3] rfl) (by rw [tabK_end]; rfl) rfl

set_option maxHeartbeats 4000000 in
set_option maxRecDepth 100000 in
theorem targets_d (R : At) (va : Value) (a : Rg) (ha : Reads elemI R va a.p.2.2) (la : a.p.2.2.length ≤ 1000) : Does Try.prog 50 #[rgV a va] [R] (aV (targetsL a)) [R] := by
  intro w H hp
  have HM0 := Lib.hid (mem_refl hp)
  clear hp
  obtain ⟨pa, ca, rfl⟩ := row_form (Mem.src HM0.out 0 rfl ha)
  go_enter Try.func50, Try.ntmps50
  refine wp_seq ?_
  refine wp_region_N [(0, 3), (1, 3)] (by kernel_rfl) ?_
  refine wpS_boxA (i := 0) (dd := 1) rfl (by rfl) rfl rfl HM0.out covS_nil rfl ?_
  rintro b3 W2 hm1 -
  have HM4 := Lib.hid hm1
  clear hm1
  simp only [Act.put, List.setIfInBounds_toArray, List.set_cons_succ, List.set_cons_zero]
  refine wpS_alloc (i := 1) (dd := 2) (z := aV (List.replicate 16 0)) (cs := (((List.replicate 16 0) : List Int).map iV).toArray) rfl (by rfl) rfl (by kernel_rfl) rfl HM4.out covS_nil rfl ?_
  rintro rb W6 hm5 -
  have HM7 := Lib.hid hm5
  clear hm5
  simp only [Act.put, List.setIfInBounds_toArray, List.set_cons_succ, List.set_cons_zero]
  refine wpS_nil ?_
  refine then_normal ?_
  refine wp_seq ?_
  refine wp_region_N [(0, 3)] (by kernel_rfl) ?_
  refine wpS_alloc (i := 0) (dd := 3) (z := aV (List.replicate 16 0)) (cs := (((List.replicate 16 0) : List Int).map iV).toArray) rfl (by rfl) rfl (by kernel_rfl) rfl HM7.out covS_nil rfl ?_
  rintro ob W9 hm8 -
  have HM10 := Lib.hid hm8
  clear hm8
  simp only [Act.put, List.setIfInBounds_toArray, List.set_cons_succ, List.set_cons_zero]
  refine wpS_nil ?_
  refine then_normal ?_
  refine wp_seq ?_
  refine wp_seq ?_
  refine wp_region_N [(0, 1)] (by kernel_rfl) ?_
  refine wpS_this [0] rfl (by kernel_rfl) (by simp only [pickL, nthL, List.cons_append, List.nil_append]; rfl) ?_
  repeat (go_big_quiet_step (fail))
  refine wpQuiet_nil ?_
  refine wpS_nil ?_
  refine then_normal ?_
  refine wp_block ?_
  refine wp_loop_F [4, 5, 6, 7, 8, 9, 10, 11, 12, 13] (fun n vs W' => ∃ k : Nat, n = 16 - k ∧ vs 5 = .int .i64 (k : Int) ∧ k ≤ 16 ∧ Mem [arrT ob 68 (tabK (fun p : Nat => targetR a p) k), boxT b3 (.cells (rgC a (.slice pa a.p.2.2.length ca)).toArray 30 (0, 0)), arrT rb 68 (List.replicate 16 0), R] H w W') (n0 := 16) ?_ ?_
  · refine ⟨0, rfl, rfl, Nat.zero_le _, ?_⟩
    rw [tabK_zero]
    exact (Mem.only (M := [_, _, _, _]) HM10.out [0, 1, 0, 0] rfl)
  rintro n vs W' ⟨k, rfl, e5, hk, hm⟩
  simp only [putAll, List.map_cons, List.map_nil, Act.put, List.setIfInBounds_toArray, List.set_cons_succ, List.set_cons_zero]
  rw [e5]
  clear e5
  have HM11 := Lib.hid hm
  clear hm
  refine wp_seq ?_
  refine wp_region_N [(0, 1)] (by kernel_rfl) ?_
  refine wpS_this [0] rfl (by kernel_rfl) (by simp only [pickL, nthL, List.cons_append, List.nil_append]; rfl) ?_
  repeat (go_big_quiet_step (fail))
  refine wpQuiet_nil ?_
  refine wpS_nil ?_
  refine then_normal ?_
  refine wp_seq ?_
  refine wp_cond_split rfl (fun h12 => ?_) (fun h12 => ?_)
  · have hk1 : k + 1 ≤ 16 := by have : (k : Int) < 16 := (by simpa using h12); omega
    clear h12
    refine wp_skip ?_
    refine then_normal ?_
    refine wp_seq ?_
    refine wp_block ?_
    refine wp_seq ?_
    refine wp_region_N [(0, 1), (1, 1)] (by kernel_rfl) ?_
    refine wpS_this [0, 1] rfl (by kernel_rfl) (by simp only [pickL, nthL, List.cons_append, List.nil_append]; rfl) ?_
    repeat (go_big_quiet_step (fail))
    refine wpQuiet_nil ?_
    refine wpS_nil ?_
    refine then_normal ?_
    refine wp_region_N [(0, 1), (1, 1), (2, 1), (3, 3), (4, 1), (5, 3)] (by kernel_rfl) ?_
    refine wpS_this [0] rfl (by kernel_rfl) (by simp only [pickL, nthL, List.cons_append, List.nil_append]; rfl) ?_
    repeat (go_big_quiet_step (fail))
    refine wpQuiet_nil ?_
    refine wpS_loadA (i := 1) (d := some 9) (cells := rgC (a) (.slice pa a.p.2.2.length ca)) rfl (by rfl) rfl rfl (HM11.out.sub 1 rfl (fun k u h => by rw [Nat.zero_add]; exact h)) Try.underlying30 rfl (by kernel_rfl) rfl ?_
    simp only [Act.put, List.setIfInBounds_toArray, List.set_cons_succ, List.set_cons_zero]
    refine wpS_this [2] rfl (by kernel_rfl) (by simp only [pickL, nthL, List.cons_append, List.nil_append]; rfl) ?_
    repeat (go_big_quiet_step (fail))
    refine wpQuiet_nil ?_
    refine wpS_does2 (i := 3) (d := some 11) (rem := [_, _, _]) (out := [_, _, _, _]) rfl (by rfl) rfl Try.call16 (gtarget_d R _ a ha la (k : Int)) rfl rfl HM11.out [3] rfl covS_nil rfl rfl ?_
    rintro W14 hm13 -
    have HM15 := Lib.hid hm13
    clear hm13
    simp only [Act.put, List.setIfInBounds_toArray, List.set_cons_succ, List.set_cons_zero]
    refine wpS_addrArr (i := 4) (d := some 12) (b := ob) (j := k) is16 rfl (by rfl) rfl rfl rfl (by omega) rfl ?_
    simp only [Act.put, List.setIfInBounds_toArray, List.set_cons_succ, List.set_cons_zero]
    refine wpS_setEl (i := 5) (z := (targetR a (k : Int))) (L2 := [_, _, _]) rfl (by rfl) rfl rfl rfl HM15.out 1 rfl rfl (by rw [tabK_len]; omega) covS_nil rfl ?_
    rintro W17 hm16 -
    have HM18 := Lib.hid hm16
    clear hm16
    refine wpS_nil ?_
    refine block_normal ?_
    refine then_normal ?_
    refine wp_region_N [(0, 1), (1, 1)] (by kernel_rfl) ?_
    refine wpS_this [0, 1] rfl (by kernel_rfl) (by simp only [pickL, nthL, List.cons_append, List.nil_append]; rfl) ?_
    repeat (go_big_quiet_step (fail))
    refine wpQuiet_nil ?_
    refine wpS_nil ?_
    refine then_normal ?_
    refine ⟨by kernel_rfl, ?_⟩
    refine ⟨16 - (k + 1), by omega, k + 1, rfl, rfl, hk1, ?_⟩
    rw [← tabK_set (fun p : Nat => targetR a p) (show k < 16 by omega)]
    exact (Mem.only (M := [_, _, _, _]) HM18.out [0, 1, 1, 0] rfl)
  · have hk16 : Hid (16 ≤ k) := Lib.hid (by have : ¬ (k : Int) < 16 := (by simpa using h12); omega)
    clear h12
    refine wp_exit ?_
    refine then_exit (then_exit (block_exit ?_))
    refine then_normal ?_
    refine wp_seq ?_
    refine wp_region_N [(0, 1), (1, 3)] (by kernel_rfl) ?_
    refine wpS_loadArr (i := 0) (d := some 14) is16 rfl (by rfl) rfl rfl HM11.out 0 rfl (tabK_len _ _) rfl ?_
    simp only [Act.put, List.setIfInBounds_toArray, List.set_cons_succ, List.set_cons_zero]
    refine wpS_storeArr (i := 1) (L2 := [_, _, _]) is16 rfl (by rfl) rfl rfl rfl HM11.out 2 rfl rfl (List.length_replicate) (tabK_len _ _) covS_nil rfl ?_
    rintro W20 hm19 -
    have HM21 := Lib.hid hm19
    clear hm19
    refine wpS_nil ?_
    refine then_normal ?_
    refine wp_ret ?_
    refine ret_arr rfl is16 HM21.out 0 rfl rfl (tabK_len _ _) rfl ?_
    rw [show k = 16 by have := hk16.out; omega]
    exact does_ret (Mem.only (M := [_]) HM21.out [3] rfl) (by rw [tabK_end]; rfl) rfl

set_option maxHeartbeats 4000000 in
set_option maxRecDepth 100000 in
theorem hasPlan_d (R : At) (va : Value) (a : Rg) (ha : Reads elemI R va a.p.2.2) (la : a.p.2.2.length ≤ 1000) : Does Try.prog 48 #[rgV a va] [R] (.bool (hasP a)) [R] := by
  intro w H hp
  have HM0 := Lib.hid (mem_refl hp)
  clear hp
  obtain ⟨pa, ca, rfl⟩ := row_form (Mem.src HM0.out 0 rfl ha)
  go_enter Try.func48, Try.ntmps48
  refine wp_seq ?_
  refine wp_region_N [(0, 3), (1, 1)] (by kernel_rfl) ?_
  refine wpS_boxA (i := 0) (dd := 1) rfl (by rfl) rfl rfl HM0.out covS_nil rfl ?_
  rintro b3 W2 hm1 -
  have HM4 := Lib.hid hm1
  clear hm1
  simp only [Act.put, List.setIfInBounds_toArray, List.set_cons_succ, List.set_cons_zero]
  refine wpS_this [1] rfl (by kernel_rfl) (by simp only [pickL, nthL, List.cons_append, List.nil_append]; rfl) ?_
  repeat (go_big_quiet_step (fail))
  refine wpQuiet_nil ?_
  refine wpS_nil ?_
  refine then_normal ?_
  refine wp_seq ?_
  refine wp_region_N [(0, 1), (1, 3), (2, 1), (3, 1)] (by kernel_rfl) ?_
  refine wpS_loadA (i := 0) (d := some 3) (cells := rgC (a) (.slice pa a.p.2.2.length ca)) rfl (by rfl) rfl rfl (HM4.out.sub 0 rfl (fun k u h => by rw [Nat.zero_add]; exact h)) Try.underlying30 rfl (by kernel_rfl) rfl ?_
  simp only [Act.put, List.setIfInBounds_toArray, List.set_cons_succ, List.set_cons_zero]
  refine wpS_does2 (i := 1) (d := some 4) (rem := [_]) (out := [_, _]) rfl (by rfl) rfl Try.call16 (gtarget_d R _ a ha la 0) rfl rfl HM4.out [1] rfl covS_nil rfl rfl ?_
  rintro W6 hm5 -
  have HM7 := Lib.hid hm5
  clear hm5
  simp only [Act.put, List.setIfInBounds_toArray, List.set_cons_succ, List.set_cons_zero]
  refine wpS_this [2, 3] rfl (by kernel_rfl) (by simp only [pickL, nthL, List.cons_append, List.nil_append]; rfl) ?_
  repeat (go_big_quiet_step (fail))
  refine wpQuiet_nil ?_
  refine wpS_nil ?_
  refine then_normal ?_
  refine wp_ret ?_
  refine bodyPost_ret (results_tmp rfl _ _ _) rfl ?_
  exact does_ret (Mem.only (M := [_]) HM7.out [0] rfl) rfl rfl

set_option maxHeartbeats 4000000 in
set_option maxRecDepth 100000 in
theorem hasAny_d (R : At) (va : Value) (a : Rg) (ha : Reads elemI R va a.p.2.2) (la : a.p.2.2.length ≤ 1000) (x : Int) : Does Try.prog 47 #[rgV a va, .int .i64 x] [R] (.bool (decide (ofR a x x ≠ []))) [R] := by
  intro w H hp
  have HM0 := Lib.hid (mem_refl hp)
  clear hp
  obtain ⟨pa, ca, rfl⟩ := row_form (Mem.src HM0.out 0 rfl ha)
  go_enter Try.func47, Try.ntmps47
  refine wp_seq ?_
  obtain ⟨l, hl'⟩ : ∃ y, ofR a x x = y := ⟨_, rfl⟩
  have hl := Lib.hid hl'
  clear hl'
  refine wp_region_N [(0, 3), (1, 1)] (by kernel_rfl) ?_
  refine wpS_boxA (i := 0) (dd := 2) rfl (by rfl) rfl rfl HM0.out covS_nil rfl ?_
  rintro b3 W2 hm1 -
  have HM4 := Lib.hid hm1
  clear hm1
  simp only [Act.put, List.setIfInBounds_toArray, List.set_cons_succ, List.set_cons_zero]
  refine wpS_this [1] rfl (by kernel_rfl) (by simp only [pickL, nthL, List.cons_append, List.nil_append]; rfl) ?_
  repeat (go_big_quiet_step (fail))
  refine wpQuiet_nil ?_
  refine wpS_nil ?_
  refine then_normal ?_
  refine wp_seq ?_
  rcases l with _ | ⟨y, l⟩
  · have hb : Hid (decide (ofR a x x ≠ []) = false) := Lib.hid (by rw [hl.out]; rfl)
    rw [hb.out]
    refine wp_region_N [(0, 1), (1, 1), (2, 1), (3, 3), (4, 1), (5, 1), (6, 1)] (by kernel_rfl) ?_
    refine wpS_loadA (i := 0) (d := some 5) (cells := rgC (a) (.slice pa a.p.2.2.length ca)) rfl (by rfl) rfl rfl (HM4.out.sub 0 rfl (fun k u h => by rw [Nat.zero_add]; exact h)) Try.underlying30 rfl (by kernel_rfl) rfl ?_
    simp only [Act.put, List.setIfInBounds_toArray, List.set_cons_succ, List.set_cons_zero]
    refine wpS_this [1, 2] rfl (by kernel_rfl) (by simp only [pickL, nthL, List.cons_append, List.nil_append]; rfl) ?_
    repeat (go_big_quiet_step (fail))
    refine wpQuiet_nil ?_
    refine wpS_doesU3 (i := 3) (d := some 8) (rem := [_]) rfl (by rfl) rfl Try.call15 (gof_d R _ a ha la x x) rfl rfl rfl HM4.out [1] rfl covS_nil (fun _ => rfl) rfl ?_
    rintro u7 W6 hm5 -
    rw [hl.out] at hm5
    obtain ⟨pl, cl, rfl⟩ := row_form (Mem.src hm5 0 rfl rowT_reads)
    have HM8 := Lib.hid hm5
    clear hm5
    simp only [Act.put, List.setIfInBounds_toArray, List.set_cons_succ, List.set_cons_zero]
    refine wpS_this [4, 5, 6] rfl (by kernel_rfl) (by simp only [pickL, nthL, List.cons_append, List.nil_append]; rfl) ?_
    repeat (go_big_quiet_step (fail))
    refine wpQuiet_nil ?_
    refine wpS_nil ?_
    refine then_normal ?_
    refine wp_ret ?_
    refine bodyPost_ret (results_tmp rfl _ _ _) rfl ?_
    exact does_ret (Mem.only (M := [_]) HM8.out [1] rfl) rfl rfl
  · have hb : Hid (decide (ofR a x x ≠ []) = true) := Lib.hid (by rw [hl.out]; rfl)
    rw [hb.out]
    have g1 : decide (0 < (y :: l).length) = true := decide_eq_true (Nat.succ_pos _)
    have g2 : decide ((0 : Int) < ((y :: l).length : Int)) = true := decide_eq_true (by simp)
    refine wp_region_N [(0, 1), (1, 1), (2, 1), (3, 3), (4, 1), (5, 1), (6, 1)] (by kernel_rfl) ?_
    refine wpS_loadA (i := 0) (d := some 5) (cells := rgC (a) (.slice pa a.p.2.2.length ca)) rfl (by rfl) rfl rfl (HM4.out.sub 0 rfl (fun k u h => by rw [Nat.zero_add]; exact h)) Try.underlying30 rfl (by kernel_rfl) rfl ?_
    simp only [Act.put, List.setIfInBounds_toArray, List.set_cons_succ, List.set_cons_zero]
    refine wpS_this [1, 2] rfl (by kernel_rfl) (by simp only [pickL, nthL, List.cons_append, List.nil_append]; rfl) ?_
    repeat (go_big_quiet_step (fail))
    refine wpQuiet_nil ?_
    refine wpS_doesU3 (i := 3) (d := some 8) (rem := [_]) rfl (by rfl) rfl Try.call15 (gof_d R _ a ha la x x) rfl rfl rfl HM4.out [1] rfl covS_nil (fun _ => rfl) rfl ?_
    rintro u11 W10 hm9 -
    rw [hl.out] at hm9
    obtain ⟨pl, cl, rfl⟩ := row_form (Mem.src hm9 0 rfl rowT_reads)
    have HM12 := Lib.hid hm9
    clear hm9
    simp only [Act.put, List.setIfInBounds_toArray, List.set_cons_succ, List.set_cons_zero]
    refine wpS_this [4, 5, 6] rfl (by kernel_rfl) (by simp only [pickL, nthL, List.cons_append, List.nil_append]; rfl) ?_
    repeat (go_big_quiet_step (fail))
    refine wpQuiet_nil ?_
    refine wpS_nil ?_
    refine then_normal ?_
    refine wp_ret ?_
    refine bodyPost_ret (results_tmp rfl _ _ _) rfl ?_
    exact does_ret (Mem.only (M := [_]) HM12.out [1] rfl) rfl rfl

set_option maxHeartbeats 4000000 in
set_option maxRecDepth 100000 in
theorem present_d (R : At) (va : Value) (a : Rg) (ha : Reads elemI R va a.p.2.2) (la : a.p.2.2.length ≤ 1000) : Does Try.prog 57 #[rgV a va] [R] (aV (nowL a)) [R] := by
  intro w H hp
  have HM0 := Lib.hid (mem_refl hp)
  clear hp
  obtain ⟨pa, ca, rfl⟩ := row_form (Mem.src HM0.out 0 rfl ha)
  go_enter Try.func57, Try.ntmps57
  refine wp_seq ?_
  refine wp_region_N [(0, 3), (1, 3)] (by kernel_rfl) ?_
  refine wpS_boxA (i := 0) (dd := 1) rfl (by rfl) rfl rfl HM0.out covS_nil rfl ?_
  rintro b3 W2 hm1 -
  have HM4 := Lib.hid hm1
  clear hm1
  simp only [Act.put, List.setIfInBounds_toArray, List.set_cons_succ, List.set_cons_zero]
  refine wpS_alloc (i := 1) (dd := 2) (z := aV (List.replicate 16 0)) (cs := (((List.replicate 16 0) : List Int).map iV).toArray) rfl (by rfl) rfl (by kernel_rfl) rfl HM4.out covS_nil rfl ?_
  rintro rb W6 hm5 -
  have HM7 := Lib.hid hm5
  clear hm5
  simp only [Act.put, List.setIfInBounds_toArray, List.set_cons_succ, List.set_cons_zero]
  refine wpS_nil ?_
  refine then_normal ?_
  refine wp_seq ?_
  refine wp_seq ?_
  rcases Bool.eq_false_or_eq_true (hasP a) with hp | hp
  · have hc : Hid (nowL a = targetsL a) := Lib.hid (if_pos hp)
    replace hp := Lib.hid hp
    refine wp_region_N [(0, 1), (1, 3)] (by kernel_rfl) ?_
    refine wpS_loadA (i := 0) (d := some 3) (cells := rgC (a) (.slice pa a.p.2.2.length ca)) rfl (by rfl) rfl rfl (HM7.out.sub 1 rfl (fun k u h => by rw [Nat.zero_add]; exact h)) Try.underlying30 rfl (by kernel_rfl) rfl ?_
    simp only [Act.put, List.setIfInBounds_toArray, List.set_cons_succ, List.set_cons_zero]
    refine wpS_does1 (i := 1) (d := some 4) (rem := [_, _]) (out := [_, _, _]) rfl (by rfl) rfl Try.call48 (hasPlan_d R _ a ha la) rfl HM7.out [2] rfl covS_nil rfl rfl ?_
    rintro W9 hm8 -
    rw [hp.out]
    have HM10 := Lib.hid hm8
    clear hm8
    simp only [Act.put, List.setIfInBounds_toArray, List.set_cons_succ, List.set_cons_zero]
    refine wpS_nil ?_
    refine then_normal ?_
    refine wp_cond_true rfl ?_
    refine wp_seq ?_
    refine wp_region_N [(0, 1), (1, 3), (2, 3)] (by kernel_rfl) ?_
    refine wpS_loadA (i := 0) (d := some 5) (cells := rgC (a) (.slice pa a.p.2.2.length ca)) rfl (by rfl) rfl rfl (HM10.out.sub 2 rfl (fun k u h => by rw [Nat.zero_add]; exact h)) Try.underlying30 rfl (by kernel_rfl) rfl ?_
    simp only [Act.put, List.setIfInBounds_toArray, List.set_cons_succ, List.set_cons_zero]
    refine wpS_does1 (i := 1) (d := some 6) (rem := [_, _]) (out := [_, _, _]) rfl (by rfl) rfl Try.call50 (targets_d R _ a ha la) rfl HM10.out [0] rfl covS_nil rfl rfl ?_
    rintro W12 hm11 -
    have HM13 := Lib.hid hm11
    clear hm11
    simp only [Act.put, List.setIfInBounds_toArray, List.set_cons_succ, List.set_cons_zero]
    refine wpS_storeArr (i := 2) (L2 := [_, _]) is16 rfl (by rfl) rfl rfl rfl HM13.out 1 rfl rfl (List.length_replicate) (targetsL_len a) covS_nil rfl ?_
    rintro W15 hm14 -
    have HM16 := Lib.hid hm14
    clear hm14
    refine wpS_nil ?_
    refine then_normal ?_
    refine wp_ret ?_
    refine then_ret ?_
    refine ret_arr rfl is16 HM16.out 0 rfl rfl (by first | exact targetsL_len a | exact ownersL_len a) rfl ?_
    exact does_ret (Mem.only (M := [_]) HM16.out [1] rfl) (by rw [hc.out]) rfl
  · have hc : Hid (nowL a = ownersL a) := Lib.hid (if_neg (by rw [hp]; simp))
    replace hp := Lib.hid hp
    refine wp_region_N [(0, 1), (1, 3)] (by kernel_rfl) ?_
    refine wpS_loadA (i := 0) (d := some 3) (cells := rgC (a) (.slice pa a.p.2.2.length ca)) rfl (by rfl) rfl rfl (HM7.out.sub 1 rfl (fun k u h => by rw [Nat.zero_add]; exact h)) Try.underlying30 rfl (by kernel_rfl) rfl ?_
    simp only [Act.put, List.setIfInBounds_toArray, List.set_cons_succ, List.set_cons_zero]
    refine wpS_does1 (i := 1) (d := some 4) (rem := [_, _]) (out := [_, _, _]) rfl (by rfl) rfl Try.call48 (hasPlan_d R _ a ha la) rfl HM7.out [2] rfl covS_nil rfl rfl ?_
    rintro W18 hm17 -
    rw [hp.out]
    have HM19 := Lib.hid hm17
    clear hm17
    simp only [Act.put, List.setIfInBounds_toArray, List.set_cons_succ, List.set_cons_zero]
    refine wpS_nil ?_
    refine then_normal ?_
    refine wp_cond_false rfl ?_
    refine wp_skip ?_
    refine then_normal ?_
    refine wp_seq ?_
    refine wp_region_N [(0, 1), (1, 3), (2, 3)] (by kernel_rfl) ?_
    refine wpS_loadA (i := 0) (d := some 7) (cells := rgC (a) (.slice pa a.p.2.2.length ca)) rfl (by rfl) rfl rfl (HM19.out.sub 2 rfl (fun k u h => by rw [Nat.zero_add]; exact h)) Try.underlying30 rfl (by kernel_rfl) rfl ?_
    simp only [Act.put, List.setIfInBounds_toArray, List.set_cons_succ, List.set_cons_zero]
    refine wpS_does1 (i := 1) (d := some 8) (rem := [_, _]) (out := [_, _, _]) rfl (by rfl) rfl Try.call49 (owners12_d R _ a ha la) rfl HM19.out [0] rfl covS_nil rfl rfl ?_
    rintro W21 hm20 -
    have HM22 := Lib.hid hm20
    clear hm20
    simp only [Act.put, List.setIfInBounds_toArray, List.set_cons_succ, List.set_cons_zero]
    refine wpS_storeArr (i := 2) (L2 := [_, _]) is16 rfl (by rfl) rfl rfl rfl HM22.out 1 rfl rfl (List.length_replicate) (ownersL_len a) covS_nil rfl ?_
    rintro W24 hm23 -
    have HM25 := Lib.hid hm23
    clear hm23
    refine wpS_nil ?_
    refine then_normal ?_
    refine wp_ret ?_
    refine ret_arr rfl is16 HM25.out 0 rfl rfl (by first | exact targetsL_len a | exact ownersL_len a) rfl ?_
    exact does_ret (Mem.only (M := [_]) HM25.out [1] rfl) (by rw [hc.out]) rfl

end Go.Proofs.Ytdfmfcbeebfdhaa
