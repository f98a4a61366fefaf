/- Rings: RingOf. -/
import Derived.Test.YtihhopoplcelfaaRgE
namespace Go.Proofs.Ytihhopoplcelfaa
open Go Go.RowKit Go.BigFrame

theorem hvy1m (a : Rg) (x : Hc) : (x.n ≤ 100 ∧ hvy 0 [x] = 0 ∧ mayR a = true) ∨ (x.n ≤ 100 ∧ hvy 0 [x] = 0 ∧ mayR a = false) ∨ (¬ x.n ≤ 100 ∧ 0 < hvy 0 [x]) := by
  rcases hvy1 x with ⟨h1, h2⟩ | h
  · cases mayR a
    · exact .inr (.inl ⟨h1, h2, rfl⟩)
    · exact .inl ⟨h1, h2, rfl⟩
  · exact .inr (.inr h)
theorem row_formN {W : World} {v : Value} {xs : List Int} {n : Nat} (hn : xs.length = n) (h : SrcE elemI W v xs) : ∃ p c, v = .slice p n c := by
  subst hn
  exact row_form h
def cntL (a : Rg) (s : Nat) : Nat := (List.range 8).countP fun i => decide (a.s i < (s : Int))
theorem cnt_step (a : Rg) (s : Nat) : ∀ l : List Nat, (l.countP fun i => decide (a.s i < ((s + 1 : Nat) : Int))) = (l.countP fun i => decide (a.s i < (s : Int))) + (l.filter fun i => decide ((s : Int) ≤ a.s i ∧ a.s i ≤ (s : Int))).length
  | [] => rfl
  | x :: l => by
    have ih := cnt_step a s l
    rw [List.countP_cons, List.countP_cons, List.filter_cons, ih]
    by_cases h1 : a.s x < (s : Int)
    · rw [decide_eq_true h1, decide_eq_true (show a.s x < ((s + 1 : Nat) : Int) by omega), decide_eq_false (show ¬ ((s : Int) ≤ a.s x ∧ a.s x ≤ (s : Int)) by omega)]
      simp only [if_true, Bool.false_eq_true, if_false]
      omega
    · by_cases h2 : a.s x = (s : Int)
      · rw [decide_eq_false h1, decide_eq_true (show a.s x < ((s + 1 : Nat) : Int) by omega), decide_eq_true (show (s : Int) ≤ a.s x ∧ a.s x ≤ (s : Int) by omega)]
        simp only [if_true, Bool.false_eq_true, if_false, List.length_cons]
        omega
      · rw [decide_eq_false h1, decide_eq_false (show ¬ a.s x < ((s + 1 : Nat) : Int) by omega), decide_eq_false (show ¬ ((s : Int) ≤ a.s x ∧ a.s x ≤ (s : Int)) by omega)]
        simp only [Bool.false_eq_true, if_false]
        omega
theorem cntL_step (a : Rg) (s : Nat) : cntL a (s + 1) = cntL a s + (ofR a s s).length := by
  unfold ofR
  rw [List.length_map]
  exact cnt_step a s _
theorem cntL_le (a : Rg) (s : Nat) : cntL a s ≤ 8 := Nat.le_trans List.countP_le_length (by simp)
theorem cntL_zero {a : Rg} (h : mayR a = true) : cntL a 0 = 0 := by
  unfold cntL
  rw [List.countP_eq_zero]
  intro i hi
  unfold mayR at h
  rw [Bool.and_eq_true, all8] at h
  have := of_decide_eq_true (h.1 i (List.mem_range.1 hi))
  simp
  omega
theorem may_stat {a : Rg} (h : mayR a = true) {i : Nat} (hi : i < 8) : 0 ≤ a.s i ∧ a.s i ≤ 4 := by
  unfold mayR at h
  rw [Bool.and_eq_true, all8] at h
  exact of_decide_eq_true (h.1 i hi)
theorem cntL_all {a : Rg} (h : mayR a = true) : cntL a 5 = 8 := by
  unfold cntL
  have h1 : (List.range 8).countP (fun i => decide (a.s i < ((5 : Nat) : Int))) = (List.range 8).length := by
    rw [List.countP_eq_length]
    intro i hi
    have := may_stat h (List.mem_range.1 hi)
    exact decide_eq_true (by omega)
  rw [h1, List.length_range]
theorem ofR_all {a : Rg} (h : mayR a = true) : (ofR a 0 4).length = 8 := by
  unfold ofR
  rw [List.length_map, List.filter_eq_self.2, List.length_range]
  intro i hi
  exact decide_eq_true (may_stat h (List.mem_range.1 hi))
theorem ofR_none {a : Rg} {f t : Int} (h : ¬ f ≤ t) : ofR a f t = [] := by
  unfold ofR
  rw [List.map_eq_nil_iff, List.filter_eq_nil_iff]
  intro i _ h1
  have := of_decide_eq_true h1
  omega
theorem ofR_le (a : Rg) (f t : Int) : (ofR a f t).length ≤ 8 := by
  unfold ofR
  rw [List.length_map]
  exact Nat.le_trans (List.length_filter_le _ _) (by simp)
theorem ofR_at {a : Rg} {f t x : Int} {j : Nat} (h : (ofR a f t)[j]? = some x) : ∃ m : Nat, x = (m : Int) ∧ m < 8 ∧ f ≤ a.s m ∧ a.s m ≤ t := by
  have hm := List.mem_of_getElem? h
  unfold ofR at hm
  rw [List.mem_map] at hm
  obtain ⟨m, hm, rfl⟩ := hm
  rw [List.mem_filter] at hm
  have h2 := of_decide_eq_true hm.2
  exact ⟨m, rfl, List.mem_range.1 hm.1, h2.1, h2.2⟩
theorem ofR_asc (a : Rg) (f t : Int) : (ofR a f t).Pairwise (· < ·) := by
  unfold ofR
  rw [List.pairwise_map]
  refine List.Pairwise.imp ?_ (List.Pairwise.filter _ (List.pairwise_lt_range (n := 8)))
  intro x y h
  omega
theorem ofR_next {a : Rg} {f t x y : Int} {j : Nat} (hx : (ofR a f t)[j]? = some x) (hy : (ofR a f t)[j + 1]? = some y) : x < y := by
  obtain ⟨h1, e1⟩ := List.getElem?_eq_some_iff.1 hx
  obtain ⟨h2, e2⟩ := List.getElem?_eq_some_iff.1 hy
  have h3 := List.pairwise_iff_getElem.1 (ofR_asc a f t) j (j + 1) h1 h2 (by omega)
  rwa [e1, e2] at h3
set_option maxHeartbeats 4000000 in
set_option maxRecDepth 100000 in
theorem of_d (W0 : World) (va : Value) (a : Rg) (ha : SrcE elemI W0 va a.p.2.2) (fr : Int) (to : Int)  : Does Try.prog 6 #[rgV a va, .int .i64 fr, .int .i64 to] [oldT W0] (.bool true) [oldT W0] := by
  intro w H hp
  have HM0 := Lib.hid (mem_refl hp)
  clear hp
  obtain ⟨pa, ca, rfl⟩ := row_form ha
  go_enter Try.func6, Try.ntmps6
  refine wp_seq ?_
  refine wp_region_N [(0, 3), (1, 1)] (by kernel_rfl) ?_
  refine wpS_boxA (i := 0) (dd := 3) rfl (by rfl) rfl rfl HM0.out covS_nil rfl ?_
  rintro b3 W2 hm1 -
  have HM4 := Lib.hid hm1
  clear hm1
  simp only [Act.put, List.setIfInBounds_toArray, List.set_cons_succ, List.set_cons_zero]
  refine wpS_this [1] rfl (by kernel_rfl) (by simp only [pickL, nthL, List.cons_append, List.nil_append]; rfl) ?_
  repeat (go_big_quiet_step (fail))
  refine wpQuiet_nil ?_
  refine wpS_nil ?_
  refine then_normal ?_
  refine wp_seq ?_
  refine wp_seq ?_
  rcases hvy1m a ⟨a, pa, a.p.2.2.length, ca⟩ with ⟨hw, hfw, hmy⟩ | ⟨hw, hfw, hmy⟩ | ⟨hw, hfw⟩
  · replace hw : a.p.2.2.length ≤ 100 := hw
    replace hfw : Hid (hvy 0 [⟨a, pa, a.p.2.2.length, ca⟩] = 0) := Lib.hid hfw
    have la : a.p.2.2.length ≤ 1000 := by omega
    clear hw
    replace hmy := Lib.hid hmy
    refine wp_region_N [(0, 1), (1, 3), (2, 3), (3, 1), (4, 1), (5, 1), (6, 3), (7, 1), (8, 1)] (by kernel_rfl) ?_
    refine wpS_loadA (i := 0) (d := some 12) (cells := rgC (a) (.slice pa a.p.2.2.length ca)) rfl (by rfl) rfl rfl (HM4.out.sub 0 rfl (fun k u h => by rw [Nat.zero_add]; exact h)) Try.underlying30 rfl (by kernel_rfl) rfl ?_
    simp only [Act.put, List.setIfInBounds_toArray, List.set_cons_succ, List.set_cons_zero]
    refine wpS_buildN elemR (i := 1) (dd := 13) (n := 1) (xs := [⟨a, pa, a.p.2.2.length, ca⟩]) (cs := (rgC a (.slice pa a.p.2.2.length ca) ++ []).toArray) rfl (by rfl) (fun _ => by kernel_rfl) rfl rfl HM4.out covS_nil rfl ?_
    rintro b7 W8 hm9 -
    have HM10 := Lib.hid hm9
    clear hm9
    simp only [Act.put, List.setIfInBounds_toArray, List.set_cons_succ, List.set_cons_zero]
    refine wpS_does1 (i := 2) (d := some 14) (rem := [_, _]) (out := [_, _, _]) rfl (by rfl) rfl Try.call8 (heavy_d (rowT elemR _ _) _ _ rowOwnE (Nat.le_of_ble_eq_true rfl)) rfl HM10.out [0] rfl covS_nil rfl rfl ?_
    rintro W12 hm11 -
    rw [hfw.out]
    have HM13 := Lib.hid hm11
    clear hm11
    simp only [Act.put, List.setIfInBounds_toArray, List.set_cons_succ, List.set_cons_zero]
    refine wpS_this [3, 4] rfl (by kernel_rfl) (by simp only [pickL, nthL, List.cons_append, List.nil_append]; rfl) ?_
    repeat (go_big_quiet_step (fail))
    refine wpQuiet_nil ?_
    refine wpS_loadA (i := 5) (d := some 17) (cells := rgC (a) (.slice pa a.p.2.2.length ca)) rfl (by rfl) rfl rfl (HM13.out.sub 1 rfl (fun k u h => by rw [Nat.zero_add]; exact h)) Try.underlying30 rfl (by kernel_rfl) rfl ?_
    simp only [Act.put, List.setIfInBounds_toArray, List.set_cons_succ, List.set_cons_zero]
    refine wpS_does1 (i := 6) (d := some 18) (rem := [_, _]) (out := [_, _, _]) rfl (by rfl) rfl Try.call13 (gmay_d (oldT W0) _ a (srcOld ha) la) rfl HM13.out [2] rfl covS_nil rfl rfl ?_
    rintro W15 hm14 -
    rw [hmy.out]
    have HM16 := Lib.hid hm14
    clear hm14
    simp only [Act.put, List.setIfInBounds_toArray, List.set_cons_succ, List.set_cons_zero]
    refine wpS_this [7, 8] rfl (by kernel_rfl) (by simp only [pickL, nthL, List.cons_append, List.nil_append]; rfl) ?_
    repeat (go_big_quiet_step (fail))
    refine wpQuiet_nil ?_
    refine wpS_nil ?_
    refine then_normal ?_
    refine wp_cond_false rfl ?_
    refine wp_skip ?_
    refine then_normal ?_
    refine wp_seq ?_
    refine wp_region_N [(0, 1)] (by kernel_rfl) ?_
    refine wpS_this [0] rfl (by kernel_rfl) (by simp only [pickL, nthL, List.cons_append, List.nil_append]; rfl) ?_
    repeat (go_big_quiet_step (fail))
    refine wpQuiet_nil ?_
    refine wpS_nil ?_
    refine then_normal ?_
    refine wp_seq ?_
    refine wp_seq ?_
    refine wp_region_N [(0, 1)] (by kernel_rfl) ?_
    refine wpS_this [0] rfl (by kernel_rfl) (by simp only [pickL, nthL, List.cons_append, List.nil_append]; rfl) ?_
    repeat (go_big_quiet_step (fail))
    refine wpQuiet_nil ?_
    refine wpS_nil ?_
    refine then_normal ?_
    refine wp_block ?_
    refine wp_loop_F [6, 7, 8, 9, 10, 11, 22, 23, 24, 25, 26, 27, 28, 29, 30, 31, 32, 33, 34, 35, 36, 37, 38, 39, 40, 41, 42, 43, 44, 45, 46, 47, 48, 49, 50, 51, 52, 53, 54, 55, 56, 57, 58, 59, 60, 61, 62, 63, 64, 65, 66, 67, 68] (fun n vs W' => ∃ (s : Nat) (q : Int), n = 5 - s ∧ vs 8 = .int .i64 (s : Int) ∧ vs 7 = .int .i64 q ∧ s ≤ 5 ∧ q = (cntL a s : Int) ∧ Mem [boxT b3 (.cells (rgC a (.slice pa a.p.2.2.length ca)).toArray 30 (0, 0)), oldT W0] H w W') (n0 := 5) ?_ ?_
    · exact ⟨0, 0, rfl, rfl, rfl, by omega, by rw [cntL_zero hmy.out]; rfl, (Mem.only (M := [_, _]) HM16.out [2, 0] rfl)⟩
    rintro n vs W' ⟨s, q, rfl, e8, e7, hs, hq', hm⟩
    simp only [putAll, List.map_cons, List.map_nil, Act.put, List.setIfInBounds_toArray, List.set_cons_succ, List.set_cons_zero]
    rw [e8, e7]
    clear e8 e7
    have hq0 : 0 ≤ q := by omega
    have hq8 : q ≤ 8 := by have := cntL_le a s; omega
    have hq := Lib.hid hq'
    clear hq'
    have HM17 := Lib.hid hm
    clear hm
    refine wp_seq ?_
    refine wp_seq ?_
    refine wp_region_N [(0, 1), (1, 1)] (by kernel_rfl) ?_
    refine wpS_this [0, 1] rfl (by kernel_rfl) (by simp only [pickL, nthL, List.cons_append, List.nil_append]; rfl) ?_
    repeat (go_big_quiet_step (fail))
    refine wpQuiet_nil ?_
    refine wpS_nil ?_
    refine then_normal ?_
    refine wp_cond_split rfl (fun h18 => ?_) (fun h18 => ?_)
    · have hs1 : s + 1 ≤ 5 := by have : (s : Int) ≤ 4 := (by simpa using h18); omega
      clear h18
      refine wp_skip ?_
      refine then_normal ?_
      refine wp_seq ?_
      refine wp_block ?_
      refine wp_seq ?_
      obtain ⟨l, hl'⟩ : ∃ y, ofR a s s = y := ⟨_, rfl⟩
      have hll : l.length ≤ 8 := by rw [← hl']; exact ofR_le a s s
      have hl := Lib.hid hl'
      clear hl'
      refine wp_region_N [(0, 1), (1, 1), (2, 1), (3, 3), (4, 1)] (by kernel_rfl) ?_
      refine wpS_loadA (i := 0) (d := some 26) (cells := rgC (a) (.slice pa a.p.2.2.length ca)) rfl (by rfl) rfl rfl (HM17.out.sub 0 rfl (fun k u h => by rw [Nat.zero_add]; exact h)) Try.underlying30 rfl (by kernel_rfl) rfl ?_
      simp only [Act.put, List.setIfInBounds_toArray, List.set_cons_succ, List.set_cons_zero]
      refine wpS_this [1, 2] rfl (by kernel_rfl) (by simp only [pickL, nthL, List.cons_append, List.nil_append]; rfl) ?_
      repeat (go_big_quiet_step (fail))
      refine wpQuiet_nil ?_
      refine wpS_doesU3 (i := 3) (d := some 29) (rem := [_]) rfl (by rfl) rfl Try.call19 (gof_d (oldT W0) _ a (srcOld ha) la (s : Int) (s : Int)) rfl rfl rfl HM17.out [1] rfl covS_nil (fun _ => rfl) rfl ?_
      rintro u21 W20 hm19 -
      rw [hl.out] at hm19
      obtain ⟨pl, cl, rfl⟩ := row_form (Mem.src hm19 0 rfl rowT_reads)
      have HM22 := Lib.hid hm19
      clear hm19
      simp only [Act.put, List.setIfInBounds_toArray, List.set_cons_succ, List.set_cons_zero]
      refine wpS_this [4] rfl (by kernel_rfl) (by simp only [pickL, nthL, List.cons_append, List.nil_append]; rfl) ?_
      repeat (go_big_quiet_step (fail))
      refine wpQuiet_nil ?_
      refine wpS_nil ?_
      refine then_normal ?_
      refine wp_seq ?_
      refine wp_seq ?_
      refine wp_region_N [(0, 1), (1, 1), (2, 1)] (by kernel_rfl) ?_
      refine wpS_this [0, 1, 2] rfl (by kernel_rfl) (by simp only [pickL, nthL, List.cons_append, List.nil_append]; rfl) ?_
      repeat (go_big_quiet_step (fail))
      refine wpQuiet_nil ?_
      refine wpS_nil ?_
      refine then_normal ?_
      refine wp_block ?_
      refine wp_loop_F [6, 10, 11, 32, 33, 34, 35, 36, 37, 38, 39, 40, 41, 42, 43, 44, 45, 46, 47, 48, 49, 50, 51, 52, 53, 54, 55, 56, 57, 58, 59, 60, 61, 62, 63, 64] (fun n ws W' => ∃ i : Nat, n = l.length - i ∧ ws 32 = .int .i64 (i : Int) ∧ i ≤ l.length ∧ Mem [rowT elemI (.slice pl l.length cl) l, boxT b3 (.cells (rgC a (.slice pa a.p.2.2.length ca)).toArray 30 (0, 0)), oldT W0] H w W') (n0 := l.length) ?_ ?_
      · exact ⟨0, rfl, rfl, Nat.zero_le _, (Mem.only (M := [_, _, _]) HM22.out [0, 1, 0] rfl)⟩
      rintro n ws W' ⟨i, rfl, e32, hi, hm1⟩
      simp only [putAll, List.map_cons, List.map_nil, Act.put, List.setIfInBounds_toArray, List.set_cons_succ, List.set_cons_zero]
      rw [e32]
      clear e32
      have HM23 := Lib.hid hm1
      clear hm1
      refine wp_seq ?_
      refine wp_region_N [(0, 1)] (by kernel_rfl) ?_
      refine wpS_this [0] rfl (by kernel_rfl) (by simp only [pickL, nthL, List.cons_append, List.nil_append]; rfl) ?_
      repeat (go_big_quiet_step (fail))
      refine wpQuiet_nil ?_
      refine wpS_nil ?_
      refine then_normal ?_
      refine wp_seq ?_
      refine wp_cond_split rfl (fun h24 => ?_) (fun h24 => ?_)
      · have hi1 : i + 1 ≤ l.length := by have : (i : Int) < ((l.length : Nat) : Int) := (by simpa using h24); omega
        clear h24
        obtain ⟨x, hx0⟩ : ∃ y, l[i]? = some y := ⟨_, List.getElem?_eq_getElem hi1⟩
        obtain ⟨m, rfl, hm8, hms0, hms1⟩ := ofR_at (a := a) (f := s) (t := s) (by rw [hl.out]; exact hx0)
        have gms : (a.s m != (s : Int)) = false := by simp; omega
        have gm0 : decide ((m : Int) < 0) = false := decide_eq_false (by omega)
        have gm8 : decide ((8 : Int) ≤ (m : Int)) = false := decide_eq_false (by omega)
        have gm8' : decide (8 ≤ m) = false := decide_eq_false (by omega)
        have hx := Lib.hid hx0
        clear hx0 hms0 hms1
        refine wp_skip ?_
        refine then_normal ?_
        refine wp_seq ?_
        refine wp_block ?_
        refine wp_seq ?_
        refine wp_region_N [(0, 1), (1, 1), (2, 1), (3, 1), (4, 1)] (by kernel_rfl) ?_
        refine wpS_this [0] rfl (by kernel_rfl) (by simp only [pickL, nthL, List.cons_append, List.nil_append]; rfl) ?_
        repeat (go_big_quiet_step (fail))
        refine wpQuiet_nil ?_
        refine wpS_index (E := elemI) (i := 1) (d := some 35) rfl (by rfl) rfl rfl rfl (HM23.out.row 0 rfl rowOwn) (hx.out) rfl ?_
        intro eb25 eo26 hc27
        simp only [Act.put, List.setIfInBounds_toArray, List.set_cons_succ, List.set_cons_zero]
        refine wpS_load1 (i := 2) (d := some 36) (u := .int .i64 (m : Int)) rfl (by rfl) rfl rfl (hc27 0 _ rfl) Try.underlying3 rfl rfl ?_
        simp only [Act.put, List.setIfInBounds_toArray, List.set_cons_succ, List.set_cons_zero]
        refine wpS_this [3, 4] rfl (by kernel_rfl) (by simp only [pickL, nthL, List.cons_append, List.nil_append]; rfl) ?_
        repeat (go_big_quiet_step (fail))
        refine wpQuiet_nil ?_
        refine wpS_nil ?_
        refine then_normal ?_
        refine wp_seq ?_
        rcases (show i = 0 ∨ ∃ j, i = j + 1 from by cases i <;> simp) with hi0 | ⟨j, hij⟩
        · have g1 : decide ((0 : Int) < (i : Int)) = false := decide_eq_false (by omega)
          have g1n : decide (0 < i) = false := decide_eq_false (by omega)
          clear hi0
          refine wp_region_N [(0, 1), (1, 1), (2, 1), (3, 1), (4, 1), (5, 1), (6, 1), (7, 1), (8, 1), (9, 1), (10, 1), (11, 1), (12, 1), (13, 1), (14, 1), (15, 1), (16, 1), (17, 1), (18, 1), (19, 1), (20, 1), (21, 1), (22, 1), (23, 1), (24, 1), (25, 1), (26, 1)] (by kernel_rfl) ?_
          refine wpS_this [0, 1, 2, 3, 4, 5, 6, 7, 8] rfl (by kernel_rfl) (by simp only [pickL, nthL, List.cons_append, List.nil_append]; rfl) ?_
          repeat (go_big_quiet_step (fail))
          refine wpQuiet_nil ?_
          refine wpS_read (i := 9) (d := some 46) rfl (by rfl) (run_addrSt (hm8) rfl rfl rfl) rfl ?_
          simp only [Act.put, List.setIfInBounds_toArray, List.set_cons_succ, List.set_cons_zero]
          refine wpS_load1 (i := 10) (d := some 47) (u := _) rfl (by rfl) rfl rfl (HM23.out.sub1 1 rfl (rgC_s (hm8))) Try.underlying3 rfl rfl ?_
          simp only [Act.put, List.setIfInBounds_toArray, List.set_cons_succ, List.set_cons_zero]
          refine wpS_this [11, 12, 13, 14, 15, 16, 17, 18, 19, 20] rfl (by kernel_rfl) (by simp only [pickL, nthL, List.cons_append, List.nil_append]; rfl) ?_
          repeat (go_big_quiet_step (fail))
          refine wpQuiet_nil ?_
          refine wpS_skip (i := 21) (d := some 58) rfl (by rfl) rfl ?_
          simp only [Act.put, List.setIfInBounds_toArray, List.set_cons_succ, List.set_cons_zero]
          refine wpS_skip (i := 22) (d := some 59) rfl (by rfl) rfl ?_
          simp only [Act.put, List.setIfInBounds_toArray, List.set_cons_succ, List.set_cons_zero]
          refine wpS_skip (i := 23) (d := some 60) rfl (by rfl) rfl ?_
          simp only [Act.put, List.setIfInBounds_toArray, List.set_cons_succ, List.set_cons_zero]
          refine wpS_this [24, 25, 26] rfl (by kernel_rfl) (by simp only [pickL, nthL, List.cons_append, List.nil_append]; rfl) ?_
          repeat (go_big_quiet_step (fail))
          refine wpQuiet_nil ?_
          refine wpS_nil ?_
          refine then_normal ?_
          refine wp_cond_false rfl ?_
          refine wp_skip ?_
          refine block_normal ?_
          refine then_normal ?_
          refine wp_region_N [(0, 1), (1, 1)] (by kernel_rfl) ?_
          refine wpS_this [0, 1] rfl (by kernel_rfl) (by simp only [pickL, nthL, List.cons_append, List.nil_append]; rfl) ?_
          repeat (go_big_quiet_step (fail))
          refine wpQuiet_nil ?_
          refine wpS_nil ?_
          refine then_normal ?_
          refine ⟨by kernel_rfl, ?_⟩
          refine ⟨l.length - (i + 1), by omega, i + 1, rfl, rfl, hi1, (Mem.only (M := [_, _, _]) HM23.out [0, 0, 0] rfl)⟩
        · obtain ⟨y, hy'⟩ : ∃ y, l[j]? = some y := ⟨_, List.getElem?_eq_getElem (by omega)⟩
          have hyx : y < (m : Int) := ofR_next (a := a) (f := s) (t := s) (by rw [hl.out]; exact hy') (by rw [hl.out, ← hij]; exact hx.out)
          have hy := Lib.hid hy'
          clear hy'
          have g2 : decide ((m : Int) ≤ y) = false := decide_eq_false (by omega)
          have g1 : decide ((0 : Int) < (i : Int)) = true := decide_eq_true (by omega)
          have g1n : decide (0 < i) = true := decide_eq_true (by omega)
          have hij1 : Hid ((i : Int) - 1 = (j : Int)) := Lib.hid (by omega)
          replace hij := Lib.hid hij
          have hi0 : 1 ≤ i := by have := hij.out; omega
          refine wp_region_N [(0, 1), (1, 1), (2, 1), (3, 1), (4, 1), (5, 1), (6, 1), (7, 1), (8, 1), (9, 1), (10, 1), (11, 1), (12, 1), (13, 1), (14, 1), (15, 1), (16, 1), (17, 1), (18, 1), (19, 1), (20, 1), (21, 1), (22, 1), (23, 1), (24, 1), (25, 1), (26, 1)] (by kernel_rfl) ?_
          refine wpS_this [0, 1, 2, 3, 4, 5, 6, 7, 8] rfl (by kernel_rfl) (by simp only [pickL, nthL, List.cons_append, List.nil_append]; rfl) ?_
          repeat (go_big_quiet_step (fail))
          refine wpQuiet_nil ?_
          refine wpS_read (i := 9) (d := some 46) rfl (by rfl) (run_addrSt (hm8) rfl rfl rfl) rfl ?_
          simp only [Act.put, List.setIfInBounds_toArray, List.set_cons_succ, List.set_cons_zero]
          refine wpS_load1 (i := 10) (d := some 47) (u := _) rfl (by rfl) rfl rfl (HM23.out.sub1 1 rfl (rgC_s (hm8))) Try.underlying3 rfl rfl ?_
          simp only [Act.put, List.setIfInBounds_toArray, List.set_cons_succ, List.set_cons_zero]
          refine wpS_this [11, 12, 13, 14, 15, 16, 17, 18, 19, 20] rfl (by kernel_rfl) (by simp only [pickL, nthL, List.cons_append, List.nil_append]; rfl) ?_
          repeat (go_big_quiet_step (fail))
          refine wpQuiet_nil ?_
          refine wpS_this [21] rfl (by kernel_rfl) (by simp only [pickL, nthL, List.cons_append, List.nil_append]; rfl) ?_
          repeat (go_big_quiet_step (fail))
          refine wpQuiet_nil ?_
          rw [hij1.out]
          refine wpS_index (E := elemI) (i := 22) (d := some 59) rfl (by rfl) rfl rfl rfl (HM23.out.row 0 rfl rowOwn) (hy.out) rfl ?_
          intro eb28 eo29 hc30
          simp only [Act.put, List.setIfInBounds_toArray, List.set_cons_succ, List.set_cons_zero]
          refine wpS_load1 (i := 23) (d := some 60) (u := .int .i64 y) rfl (by rfl) rfl rfl (hc30 0 _ rfl) Try.underlying3 rfl rfl ?_
          simp only [Act.put, List.setIfInBounds_toArray, List.set_cons_succ, List.set_cons_zero]
          refine wpS_this [24, 25, 26] rfl (by kernel_rfl) (by simp only [pickL, nthL, List.cons_append, List.nil_append]; rfl) ?_
          repeat (go_big_quiet_step (fail))
          refine wpQuiet_nil ?_
          refine wpS_nil ?_
          refine then_normal ?_
          refine wp_cond_false rfl ?_
          refine wp_skip ?_
          refine block_normal ?_
          refine then_normal ?_
          refine wp_region_N [(0, 1), (1, 1)] (by kernel_rfl) ?_
          refine wpS_this [0, 1] rfl (by kernel_rfl) (by simp only [pickL, nthL, List.cons_append, List.nil_append]; rfl) ?_
          repeat (go_big_quiet_step (fail))
          refine wpQuiet_nil ?_
          refine wpS_nil ?_
          refine then_normal ?_
          refine ⟨by kernel_rfl, ?_⟩
          refine ⟨l.length - (i + 1), by omega, i + 1, rfl, rfl, hi1, (Mem.only (M := [_, _, _]) HM23.out [0, 0, 0] rfl)⟩
      · clear h24
        refine wp_exit ?_
        refine then_exit (then_exit (block_exit ?_))
        refine then_normal ?_
        refine wp_region_N [(0, 1), (1, 1), (2, 1), (3, 1), (4, 1)] (by kernel_rfl) ?_
        refine wpS_this [0, 1, 2, 3, 4] rfl (by kernel_rfl) (by simp only [pickL, nthL, List.cons_append, List.nil_append]; rfl) ?_
        repeat (go_big_quiet_step (fail))
        refine wpQuiet_nil ?_
        refine wpS_nil ?_
        refine block_normal ?_
        refine then_normal ?_
        refine wp_region_N [(0, 1), (1, 1), (2, 1)] (by kernel_rfl) ?_
        refine wpS_this [0, 1, 2] rfl (by kernel_rfl) (by simp only [pickL, nthL, List.cons_append, List.nil_append]; rfl) ?_
        repeat (go_big_quiet_step (fail))
        refine wpQuiet_nil ?_
        refine wpS_nil ?_
        refine then_normal ?_
        refine ⟨by kernel_rfl, ?_⟩
        refine ⟨5 - (s + 1), by omega, s + 1, q + (l.length : Int), rfl, rfl, rfl, hs1, ?_, (Mem.only (M := [_, _]) HM23.out [1, 1] rfl)⟩
        rw [hq.out, cntL_step, hl.out]
        omega
    · have hs5 : s = 5 := by have : ¬ (s : Int) ≤ 4 := (by simpa using h18); omega
      have hq2 : (q == 8) = true := beq_iff_eq.2 (by rw [hq.out, hs5, cntL_all hmy.out]; rfl)
      clear h18 hs5
      refine wp_exit ?_
      refine then_exit (then_exit (block_exit ?_))
      refine then_normal ?_
      refine wp_seq ?_
      by_cases hft : fr ≤ to
      · have gft : decide (fr ≤ to) = true := decide_eq_true hft
        clear hft
        refine wp_region_N [(0, 1), (1, 1), (2, 1), (3, 1), (4, 3), (5, 1), (6, 1), (7, 1), (8, 1), (9, 1), (10, 1), (11, 1), (12, 1), (13, 1), (14, 1), (15, 1), (16, 3), (17, 1), (18, 1), (19, 1), (20, 1), (21, 1), (22, 3), (23, 1), (24, 1)] (by kernel_rfl) ?_
        refine wpS_this [0, 1, 2] rfl (by kernel_rfl) (by simp only [pickL, nthL, List.cons_append, List.nil_append]; rfl) ?_
        repeat (go_big_quiet_step (fail))
        refine wpQuiet_nil ?_
        refine wpS_loadA (i := 3) (d := some 72) (cells := rgC (a) (.slice pa a.p.2.2.length ca)) rfl (by rfl) rfl rfl (HM17.out.sub 0 rfl (fun k u h => by rw [Nat.zero_add]; exact h)) Try.underlying30 rfl (by kernel_rfl) rfl ?_
        simp only [Act.put, List.setIfInBounds_toArray, List.set_cons_succ, List.set_cons_zero]
        refine wpS_doesU3 (i := 4) (d := some 73) (rem := [_]) rfl (by rfl) rfl Try.call19 (gof_d (oldT W0) _ a (srcOld ha) la 0 4) rfl rfl rfl HM17.out [1] rfl covS_nil (fun _ => rfl) rfl ?_
        rintro u33 W32 hm31 -
        obtain ⟨pm, cm, rfl⟩ := row_formN (ofR_all hmy.out) (Mem.src hm31 0 rfl rowT_reads)
        have HM34 := Lib.hid hm31
        clear hm31
        simp only [Act.put, List.setIfInBounds_toArray, List.set_cons_succ, List.set_cons_zero]
        refine wpS_this [5, 6, 7, 8, 9, 10, 11, 12] rfl (by kernel_rfl) (by simp only [pickL, nthL, List.cons_append, List.nil_append]; rfl) ?_
        repeat (go_big_quiet_step (fail))
        refine wpQuiet_nil ?_
        refine wpS_skip (i := 13) (d := some 82) rfl (by rfl) rfl ?_
        simp only [Act.put, List.setIfInBounds_toArray, List.set_cons_succ, List.set_cons_zero]
        refine wpS_this [14, 15] rfl (by kernel_rfl) (by simp only [pickL, nthL, List.cons_append, List.nil_append]; rfl) ?_
        repeat (go_big_quiet_step (fail))
        refine wpQuiet_nil ?_
        refine wpS_skip (i := 16) (d := some 85) rfl (by rfl) rfl ?_
        simp only [Act.put, List.setIfInBounds_toArray, List.set_cons_succ, List.set_cons_zero]
        refine wpS_this [17, 18, 19, 20, 21] rfl (by kernel_rfl) (by simp only [pickL, nthL, List.cons_append, List.nil_append]; rfl) ?_
        repeat (go_big_quiet_step (fail))
        refine wpQuiet_nil ?_
        refine wpS_does0 (i := 22) (d := some 91) (rem := [_, _, _]) (out := [_, _, _]) rfl (by rfl) rfl Try.call9 (gawake_d)  HM34.out [] rfl covS_nil rfl rfl ?_
        rintro W36 hm35 -
        have HM37 := Lib.hid hm35
        clear hm35
        simp only [Act.put, List.setIfInBounds_toArray, List.set_cons_succ, List.set_cons_zero]
        refine wpS_this [23, 24] rfl (by kernel_rfl) (by simp only [pickL, nthL, List.cons_append, List.nil_append]; rfl) ?_
        repeat (go_big_quiet_step (fail))
        refine wpQuiet_nil ?_
        refine wpS_nil ?_
        refine then_normal ?_
        refine wp_ret ?_
        refine bodyPost_ret (results_tmp rfl _ _ _) rfl ?_
        exact does_ret (Mem.only (M := [_]) HM37.out [1] rfl) rfl rfl
      · have gft : decide (fr ≤ to) = false := decide_eq_false hft
        replace hft := Lib.hid hft
        refine wp_region_N [(0, 1), (1, 1), (2, 1), (3, 1), (4, 3), (5, 1), (6, 1), (7, 1), (8, 1), (9, 1), (10, 1), (11, 1), (12, 1), (13, 1), (14, 1), (15, 1), (16, 3), (17, 1), (18, 1), (19, 1), (20, 1), (21, 1), (22, 3), (23, 1), (24, 1)] (by kernel_rfl) ?_
        refine wpS_this [0, 1, 2] rfl (by kernel_rfl) (by simp only [pickL, nthL, List.cons_append, List.nil_append]; rfl) ?_
        repeat (go_big_quiet_step (fail))
        refine wpQuiet_nil ?_
        refine wpS_loadA (i := 3) (d := some 72) (cells := rgC (a) (.slice pa a.p.2.2.length ca)) rfl (by rfl) rfl rfl (HM17.out.sub 0 rfl (fun k u h => by rw [Nat.zero_add]; exact h)) Try.underlying30 rfl (by kernel_rfl) rfl ?_
        simp only [Act.put, List.setIfInBounds_toArray, List.set_cons_succ, List.set_cons_zero]
        refine wpS_doesU3 (i := 4) (d := some 73) (rem := [_]) rfl (by rfl) rfl Try.call19 (gof_d (oldT W0) _ a (srcOld ha) la 0 4) rfl rfl rfl HM17.out [1] rfl covS_nil (fun _ => rfl) rfl ?_
        rintro u40 W39 hm38 -
        obtain ⟨pm, cm, rfl⟩ := row_formN (ofR_all hmy.out) (Mem.src hm38 0 rfl rowT_reads)
        have HM41 := Lib.hid hm38
        clear hm38
        simp only [Act.put, List.setIfInBounds_toArray, List.set_cons_succ, List.set_cons_zero]
        refine wpS_this [5, 6, 7, 8, 9, 10, 11, 12] rfl (by kernel_rfl) (by simp only [pickL, nthL, List.cons_append, List.nil_append]; rfl) ?_
        repeat (go_big_quiet_step (fail))
        refine wpQuiet_nil ?_
        refine wpS_loadA (i := 13) (d := some 82) (cells := rgC (a) (.slice pa a.p.2.2.length ca)) rfl (by rfl) rfl rfl (HM41.out.sub 2 rfl (fun k u h => by rw [Nat.zero_add]; exact h)) Try.underlying30 rfl (by kernel_rfl) rfl ?_
        simp only [Act.put, List.setIfInBounds_toArray, List.set_cons_succ, List.set_cons_zero]
        refine wpS_this [14, 15] rfl (by kernel_rfl) (by simp only [pickL, nthL, List.cons_append, List.nil_append]; rfl) ?_
        repeat (go_big_quiet_step (fail))
        refine wpQuiet_nil ?_
        refine wpS_doesU3 (i := 16) (d := some 85) (rem := [_, _]) rfl (by rfl) rfl Try.call19 (gof_d (oldT W0) _ a (srcOld ha) la fr to) rfl rfl rfl HM41.out [1] rfl covS_nil (fun _ => rfl) rfl ?_
        rintro u44 W43 hm42 -
        obtain ⟨pk, ck, rfl⟩ := row_formN ((congrArg List.length (ofR_none hft.out) : _ = 0)) (Mem.src hm42 0 rfl rowT_reads)
        have HM45 := Lib.hid hm42
        clear hm42
        simp only [Act.put, List.setIfInBounds_toArray, List.set_cons_succ, List.set_cons_zero]
        refine wpS_this [17, 18, 19, 20, 21] rfl (by kernel_rfl) (by simp only [pickL, nthL, List.cons_append, List.nil_append]; rfl) ?_
        repeat (go_big_quiet_step (fail))
        refine wpQuiet_nil ?_
        refine wpS_does0 (i := 22) (d := some 91) (rem := [_, _, _, _]) (out := [_, _, _, _]) rfl (by rfl) rfl Try.call9 (gawake_d)  HM45.out [] rfl covS_nil rfl rfl ?_
        rintro W47 hm46 -
        have HM48 := Lib.hid hm46
        clear hm46
        simp only [Act.put, List.setIfInBounds_toArray, List.set_cons_succ, List.set_cons_zero]
        refine wpS_this [23, 24] rfl (by kernel_rfl) (by simp only [pickL, nthL, List.cons_append, List.nil_append]; rfl) ?_
        repeat (go_big_quiet_step (fail))
        refine wpQuiet_nil ?_
        refine wpS_nil ?_
        refine then_normal ?_
        refine wp_ret ?_
        refine bodyPost_ret (results_tmp rfl _ _ _) rfl ?_
        exact does_ret (Mem.only (M := [_]) HM48.out [1] rfl) rfl rfl
  · replace hw : a.p.2.2.length ≤ 100 := hw
    replace hfw : Hid (hvy 0 [⟨a, pa, a.p.2.2.length, ca⟩] = 0) := Lib.hid hfw
    have la : a.p.2.2.length ≤ 1000 := by omega
    clear hw
    replace hmy := Lib.hid hmy
    refine wp_region_N [(0, 1), (1, 3), (2, 3), (3, 1), (4, 1), (5, 1), (6, 3), (7, 1), (8, 1)] (by kernel_rfl) ?_
    refine wpS_loadA (i := 0) (d := some 12) (cells := rgC (a) (.slice pa a.p.2.2.length ca)) rfl (by rfl) rfl rfl (HM4.out.sub 0 rfl (fun k u h => by rw [Nat.zero_add]; exact h)) Try.underlying30 rfl (by kernel_rfl) rfl ?_
    simp only [Act.put, List.setIfInBounds_toArray, List.set_cons_succ, List.set_cons_zero]
    refine wpS_buildN elemR (i := 1) (dd := 13) (n := 1) (xs := [⟨a, pa, a.p.2.2.length, ca⟩]) (cs := (rgC a (.slice pa a.p.2.2.length ca) ++ []).toArray) rfl (by rfl) (fun _ => by kernel_rfl) rfl rfl HM4.out covS_nil rfl ?_
    rintro b51 W52 hm53 -
    have HM54 := Lib.hid hm53
    clear hm53
    simp only [Act.put, List.setIfInBounds_toArray, List.set_cons_succ, List.set_cons_zero]
    refine wpS_does1 (i := 2) (d := some 14) (rem := [_, _]) (out := [_, _, _]) rfl (by rfl) rfl Try.call8 (heavy_d (rowT elemR _ _) _ _ rowOwnE (Nat.le_of_ble_eq_true rfl)) rfl HM54.out [0] rfl covS_nil rfl rfl ?_
    rintro W56 hm55 -
    rw [hfw.out]
    have HM57 := Lib.hid hm55
    clear hm55
    simp only [Act.put, List.setIfInBounds_toArray, List.set_cons_succ, List.set_cons_zero]
    refine wpS_this [3, 4] rfl (by kernel_rfl) (by simp only [pickL, nthL, List.cons_append, List.nil_append]; rfl) ?_
    repeat (go_big_quiet_step (fail))
    refine wpQuiet_nil ?_
    refine wpS_loadA (i := 5) (d := some 17) (cells := rgC (a) (.slice pa a.p.2.2.length ca)) rfl (by rfl) rfl rfl (HM57.out.sub 1 rfl (fun k u h => by rw [Nat.zero_add]; exact h)) Try.underlying30 rfl (by kernel_rfl) rfl ?_
    simp only [Act.put, List.setIfInBounds_toArray, List.set_cons_succ, List.set_cons_zero]
    refine wpS_does1 (i := 6) (d := some 18) (rem := [_, _]) (out := [_, _, _]) rfl (by rfl) rfl Try.call13 (gmay_d (oldT W0) _ a (srcOld ha) la) rfl HM57.out [2] rfl covS_nil rfl rfl ?_
    rintro W59 hm58 -
    rw [hmy.out]
    have HM60 := Lib.hid hm58
    clear hm58
    simp only [Act.put, List.setIfInBounds_toArray, List.set_cons_succ, List.set_cons_zero]
    refine wpS_this [7, 8] rfl (by kernel_rfl) (by simp only [pickL, nthL, List.cons_append, List.nil_append]; rfl) ?_
    repeat (go_big_quiet_step (fail))
    refine wpQuiet_nil ?_
    refine wpS_nil ?_
    refine then_normal ?_
    refine wp_cond_true rfl ?_
    refine wp_seq ?_
    refine wp_region_N [(0, 3), (1, 1)] (by kernel_rfl) ?_
    refine wpS_does0 (i := 0) (d := some 21) (rem := [_, _, _]) (out := [_, _, _]) rfl (by rfl) rfl Try.call9 (gawake_d)  HM60.out [] rfl covS_nil rfl rfl ?_
    rintro W62 hm61 -
    have HM63 := Lib.hid hm61
    clear hm61
    simp only [Act.put, List.setIfInBounds_toArray, List.set_cons_succ, List.set_cons_zero]
    refine wpS_this [1] rfl (by kernel_rfl) (by simp only [pickL, nthL, List.cons_append, List.nil_append]; rfl) ?_
    repeat (go_big_quiet_step (fail))
    refine wpQuiet_nil ?_
    refine wpS_nil ?_
    refine then_normal ?_
    refine wp_ret ?_
    refine then_ret ?_
    refine bodyPost_ret (results_tmp rfl _ _ _) rfl ?_
    exact does_ret (Mem.only (M := [_]) HM63.out [0] rfl) rfl rfl
  · clear hw
    obtain ⟨z, hz'⟩ := int_letter (hvy 0 [⟨a, pa, a.p.2.2.length, ca⟩])
    replace hfw : 0 < hvy 0 [⟨a, pa, a.p.2.2.length, ca⟩] := hfw
    rw [hz'] at hfw
    have gz : decide (0 < z) = true := decide_eq_true hfw
    clear hfw
    have hfw := Lib.hid hz'
    clear hz'
    refine wp_region_N [(0, 1), (1, 3), (2, 3), (3, 1), (4, 1), (5, 1), (6, 3), (7, 1), (8, 1)] (by kernel_rfl) ?_
    refine wpS_loadA (i := 0) (d := some 12) (cells := rgC (a) (.slice pa a.p.2.2.length ca)) rfl (by rfl) rfl rfl (HM4.out.sub 0 rfl (fun k u h => by rw [Nat.zero_add]; exact h)) Try.underlying30 rfl (by kernel_rfl) rfl ?_
    simp only [Act.put, List.setIfInBounds_toArray, List.set_cons_succ, List.set_cons_zero]
    refine wpS_buildN elemR (i := 1) (dd := 13) (n := 1) (xs := [⟨a, pa, a.p.2.2.length, ca⟩]) (cs := (rgC a (.slice pa a.p.2.2.length ca) ++ []).toArray) rfl (by rfl) (fun _ => by kernel_rfl) rfl rfl HM4.out covS_nil rfl ?_
    rintro b66 W67 hm68 -
    have HM69 := Lib.hid hm68
    clear hm68
    simp only [Act.put, List.setIfInBounds_toArray, List.set_cons_succ, List.set_cons_zero]
    refine wpS_does1 (i := 2) (d := some 14) (rem := [_, _]) (out := [_, _, _]) rfl (by rfl) rfl Try.call8 (heavy_d (rowT elemR _ _) _ _ rowOwnE (Nat.le_of_ble_eq_true rfl)) rfl HM69.out [0] rfl covS_nil rfl rfl ?_
    rintro W71 hm70 -
    rw [hfw.out]
    have HM72 := Lib.hid hm70
    clear hm70
    simp only [Act.put, List.setIfInBounds_toArray, List.set_cons_succ, List.set_cons_zero]
    refine wpS_this [3, 4] rfl (by kernel_rfl) (by simp only [pickL, nthL, List.cons_append, List.nil_append]; rfl) ?_
    repeat (go_big_quiet_step (fail))
    refine wpQuiet_nil ?_
    refine wpS_skip (i := 5) (d := some 17) rfl (by rfl) rfl ?_
    simp only [Act.put, List.setIfInBounds_toArray, List.set_cons_succ, List.set_cons_zero]
    refine wpS_skip (i := 6) (d := some 18) rfl (by rfl) rfl ?_
    simp only [Act.put, List.setIfInBounds_toArray, List.set_cons_succ, List.set_cons_zero]
    refine wpS_this [7, 8] rfl (by kernel_rfl) (by simp only [pickL, nthL, List.cons_append, List.nil_append]; rfl) ?_
    repeat (go_big_quiet_step (fail))
    refine wpQuiet_nil ?_
    refine wpS_nil ?_
    refine then_normal ?_
    refine wp_cond_true rfl ?_
    refine wp_seq ?_
    refine wp_region_N [(0, 3), (1, 1)] (by kernel_rfl) ?_
    refine wpS_does0 (i := 0) (d := some 21) (rem := [_, _, _]) (out := [_, _, _]) rfl (by rfl) rfl Try.call9 (gawake_d)  HM72.out [] rfl covS_nil rfl rfl ?_
    rintro W74 hm73 -
    have HM75 := Lib.hid hm73
    clear hm73
    simp only [Act.put, List.setIfInBounds_toArray, List.set_cons_succ, List.set_cons_zero]
    refine wpS_this [1] rfl (by kernel_rfl) (by simp only [pickL, nthL, List.cons_append, List.nil_append]; rfl) ?_
    repeat (go_big_quiet_step (fail))
    refine wpQuiet_nil ?_
    refine wpS_nil ?_
    refine then_normal ?_
    refine wp_ret ?_
    refine then_ret ?_
    refine bodyPost_ret (results_tmp rfl _ _ _) rfl ?_
    exact does_ret (Mem.only (M := [_]) HM75.out [2] rfl) rfl rfl

end Go.Proofs.Ytihhopoplcelfaa
