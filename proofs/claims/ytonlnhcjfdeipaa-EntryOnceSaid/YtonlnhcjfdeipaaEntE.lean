/- Entries: EntryOnce. -/
import Derived.Test.YtonlnhcjfdeipaaEntD
namespace Go.Proofs.Ytonlnhcjfdeipaa
open Go Go.RowKit Go.BigFrame

/-- An entry, as an element. -/
def elemE : Elem Try.prog En where
  enc x := [.int .i64 x.1, .int .i64 x.2]
  k := 2
  pos := by decide
  len _ := rfl
  one _ u hu := by
    simp only [List.mem_cons, List.not_mem_nil, or_false] at hu
    rcases hu with rfl | rfl <;> rfl
  t := 23
  sl := 34
  under := Try.underlying34
  z := .agg #[.int .i64 0, .int .i64 0]
  bytes := 16
  bpos := by decide
  info := by kernel_rfl
  zs := by kernel_rfl
theorem mod_small (m : Int) (hm : 1 ≤ m) (hm2 : m ≤ 1000) (n : Int) : ∃ k : Nat, (k : Int) < m ∧ wrap64 ((IntKind.u64.wrap n).tmod m) = (k : Int) := by
  have h0 : 0 ≤ IntKind.u64.wrap n := by
    unfold IntKind.wrap
    simp only [IntKind.signed, IntKind.bits, Bool.false_and, Bool.false_eq_true, if_false]
    exact Int.emod_nonneg _ (by decide)
  rw [Int.tmod_eq_emod_of_nonneg h0]
  have h1 := Int.emod_nonneg (IntKind.u64.wrap n) (show m ≠ 0 by omega)
  have h2 := Int.emod_lt_of_pos (IntKind.u64.wrap n) (show 0 < m by omega)
  obtain ⟨r, hr⟩ : ∃ r, IntKind.u64.wrap n % m = r := ⟨_, rfl⟩
  rw [hr] at h1 h2 ⊢
  refine ⟨r.toNat, by omega, ?_⟩
  unfold wrap64
  omega
def ow (n : Int) : Int := wrap64 ((IntKind.u64.wrap n).tmod 8)
theorem ow_node (n : Int) : 0 ≤ ow n ∧ ow n < 8 := by
  obtain ⟨k, h1, h2⟩ := mod_small 8 (by decide) (by decide) n
  unfold ow
  omega
def flE (l : List Int) (i : Nat) : En := ((i : Int) + 1, if i = 0 then 0 else ow (l.getD (i - 1) 0))
def allE (l : List Int) (k : Nat) : List En := (List.range (k + 1)).map (flE l)
theorem allE_succ (l : List Int) (k : Nat) : allE l (k + 1) = allE l k ++ [flE l (k + 1)] := by
  unfold allE
  rw [List.range_succ (n := k + 1), List.map_append]
  rfl
theorem allE_len (l : List Int) (k : Nat) : (allE l k).length = k + 1 := by simp [allE]
theorem allE_at {l : List Int} {k j : Nat} (h : j ≤ k) : (allE l k)[j]? = some (flE l j) := by
  unfold allE
  rw [List.getElem?_map, List.getElem?_range (by omega)]
  rfl
theorem flE_may (l : List Int) (i : Nat) (hi : i < 1000000) : mayE (flE l i) = true := by
  refine decide_eq_true (.inr ?_)
  unfold flE
  dsimp only
  split
  · omega
  · have := ow_node (l.getD (i - 1) 0)
    omega
theorem flE_next {l : List Int} {k : Nat} {x : Int} (h : l[k]? = some x) : flE l (k + 1) = ((k : Int) + 1 + 1, ow x) := by
  unfold flE
  rw [if_neg (by omega), Nat.add_sub_cancel, List.getD_eq_getElem?_getD, h]
  simp
theorem cmpE_trans {a b c : En} (h1 : cmpE a b ≤ 0) (h2 : cmpE b c ≤ 0) : cmpE a c ≤ 0 := by
  rw [cmpE_le] at *
  omega
def InvO (l : List Int) (K kk i : Nat) (g : En) : Prop := (∀ j, j < i → cmpE (flE l ((j + kk) % (K + 1))) g ≤ 0) ∧ (g = (0, 0) ∨ ∃ j, j ≤ K ∧ g = flE l j)
theorem invO_zero (l : List Int) (K kk : Nat) : InvO l K kk 0 (0, 0) := ⟨fun j h => by omega, .inl rfl⟩
theorem invO_step {l : List Int} {K kk i : Nat} {g : En} (h : InvO l K kk i g) : InvO l K kk (i + 1) (joinE g (flE l ((i + kk) % (K + 1)))) := by
  obtain ⟨h1, h2⟩ := h
  refine ⟨fun j hj => ?_, ?_⟩
  · rcases Nat.lt_or_eq_of_le (Nat.le_of_lt_succ hj) with hlt | rfl
    · exact cmpE_trans (h1 j hlt) (joinE_le _ _).1
    · exact (joinE_le _ _).2
  · rcases joinE_or g (flE l ((i + kk) % (K + 1))) with e | e <;> rw [e]
    · exact h2
    · exact .inr ⟨_, Nat.le_of_lt_succ (Nat.mod_lt _ (Nat.succ_pos K)), rfl⟩
theorem invO_end {l : List Int} {K kk : Nat} {g : En} (hk : kk ≤ K) (h : InvO l K kk (K + 1) g) : g = flE l K := by
  obtain ⟨h1, h2⟩ := h
  have h3 := h1 (K - kk) (by omega)
  rw [show K - kk + kk = K by omega, Nat.mod_eq_of_lt (Nat.lt_succ_self K), cmpE_le] at h3
  have e1 : (flE l K).1 = (K : Int) + 1 := rfl
  rcases h2 with rfl | ⟨j, hj, rfl⟩
  · rw [e1] at h3
    dsimp only at h3
    omega
  · have e2 : (flE l j).1 = (j : Int) + 1 := rfl
    rw [e1, e2] at h3
    obtain rfl : j = K := by omega
    rfl
set_option maxHeartbeats 4000000 in
set_option maxRecDepth 100000 in
theorem once_d (W0 : World) (v : Value) (l : List Int) (turn : Int) (hl0 : RowAt elemI W0 v l) : Does Try.prog 5 #[v, .int .i64 turn] [oldT W0] (.bool true) [oldT W0] := by
  intro w H hp
  have HM0 := Lib.hid (mem_refl hp)
  clear hp
  obtain ⟨p0, c0, rfl⟩ := rd_form hl0
  go_enter Try.func5, Try.ntmps5
  refine wp_seq ?_
  refine wp_region_N [(0, 1)] (by kernel_rfl) ?_
  refine wpS_this [0] rfl (by kernel_rfl) (by simp only [pickL, nthL, List.cons_append, List.nil_append]; rfl) ?_
  repeat (go_big_quiet_step (fail))
  refine wpQuiet_nil ?_
  refine wpS_nil ?_
  refine then_normal ?_
  refine wp_seq ?_
  refine wp_seq ?_
  by_cases hl : l.length ≤ 60
  · have g0 : decide (60 < l.length) = false := decide_eq_false (by omega)
    have g0' : decide ((60 : Int) < (l.length : Int)) = false := decide_eq_false (by omega)
    refine wp_region_N [(0, 1), (1, 1), (2, 1)] (by kernel_rfl) ?_
    refine wpS_this [0, 1, 2] rfl (by kernel_rfl) (by simp only [pickL, nthL, List.cons_append, List.nil_append]; rfl) ?_
    repeat (go_big_quiet_step (fail))
    refine wpQuiet_nil ?_
    refine wpS_nil ?_
    refine then_normal ?_
    refine wp_cond_false rfl ?_
    refine wp_skip ?_
    refine then_normal ?_
    refine wp_seq ?_
    refine wp_region_N [(0, 1), (1, 3), (2, 3)] (by kernel_rfl) ?_
    refine wpS_this [0] rfl (by kernel_rfl) (by simp only [pickL, nthL, List.cons_append, List.nil_append]; rfl) ?_
    repeat (go_big_quiet_step (fail))
    refine wpQuiet_nil ?_
    refine wpS_alloc (i := 1) (dd := 5) (z := .agg #[.int .i64 0, .int .i64 0]) (cs := #[.int .i64 0, .int .i64 0]) rfl (by rfl) rfl (by kernel_rfl) rfl HM0.out covS_nil rfl ?_
    rintro b3 W2 hm1 -
    have HM4 := Lib.hid hm1
    clear hm1
    simp only [Act.put, List.setIfInBounds_toArray, List.set_cons_succ, List.set_cons_zero]
    refine wpS_storeA (i := 2) (L2 := [_]) (cs' := [_, _]) rfl (by rfl) rfl rfl rfl (by kernel_rfl) (by rfl) HM4.out 0 rfl rfl rfl rfl covS_nil rfl ?_
    rintro W6 hm5 -
    have HM7 := Lib.hid hm5
    clear hm5
    refine wpS_nil ?_
    refine then_normal ?_
    refine wp_seq ?_
    refine wp_region_N [(0, 1), (1, 3), (2, 1)] (by kernel_rfl) ?_
    have Cb5 := Mem.cell HM7.out 0 rfl
    refine wpS_this [0] rfl (by kernel_rfl) (by simp only [pickL, nthL, List.cons_append, List.nil_append]; rfl) ?_
    repeat (go_big_quiet_step (fail))
    refine wpQuiet_nil ?_
    clear Cb5
    refine wpS_build1 elemE (i := 1) (dd := 20) (y := (1, 0)) rfl (by rfl) rfl rfl rfl (by decide) HM7.out covS_nil rfl ?_
    rintro b10 W11 hm12 -
    have HM13 := Lib.hid hm12
    clear hm12
    simp only [Act.put, List.setIfInBounds_toArray, List.set_cons_succ, List.set_cons_zero]
    refine wpS_this [2] rfl (by kernel_rfl) (by simp only [pickL, nthL, List.cons_append, List.nil_append]; rfl) ?_
    repeat (go_big_quiet_step (fail))
    refine wpQuiet_nil ?_
    refine wpS_nil ?_
    refine then_normal ?_
    refine wp_seq ?_
    refine wp_seq ?_
    refine wp_region_N [(0, 1), (1, 1), (2, 1)] (by kernel_rfl) ?_
    refine wpS_this [0, 1, 2] rfl (by kernel_rfl) (by simp only [pickL, nthL, List.cons_append, List.nil_append]; rfl) ?_
    repeat (go_big_quiet_step (fail))
    refine wpQuiet_nil ?_
    refine wpS_nil ?_
    refine then_normal ?_
    refine wp_block ?_
    refine wp_loop_F [4, 6, 8, 9, 10, 23, 24, 25, 26, 27, 28, 29, 30, 31, 32, 33, 34, 35, 36, 37, 38, 39, 40, 41, 42, 43, 44, 45, 46, 47, 48, 49, 50, 51] (fun n vs W' => ∃ (k : Nat) (A : List En) (p : Option Addr) (c : Nat) (E o : Int), n = l.length - k ∧ vs 23 = .int .i64 (k : Int) ∧ vs 6 = .slice p A.length c ∧ k ≤ l.length ∧ A = allE l k ∧ (E, o) = flE l k ∧ Mem [rowT elemE (.slice p A.length c) A, boxT b3 (.cells #[.int .i64 E, .int .i64 o] 23 (0, 0)), oldT W0] H w W') (n0 := l.length) ?_ ?_
    · exact ⟨0, [(1, 0)], _, _, 1, 0, rfl, rfl, rfl, Nat.zero_le _, rfl, rfl, (Mem.only (M := [_, _, _]) HM13.out [0, 0, 0] rfl)⟩
    rintro n vs W' ⟨k, A, p, c, E, o, rfl, e23, e6, hk, hA', hEo', hm⟩
    simp only [putAll, List.map_cons, List.map_nil, Act.put, List.setIfInBounds_toArray, List.set_cons_succ, List.set_cons_zero]
    rw [e23, e6]
    clear e23 e6
    have hE1' : E = (k : Int) + 1 := congrArg Prod.fst hEo'
    have hEb0 : 1 ≤ E := by omega
    have hEb1 : E ≤ 61 := by omega
    have hAl' : A.length = k + 1 := by rw [hA']; exact allE_len _ _
    have hA61 : A.length ≤ 61 := by omega
    have hA := Lib.hid hA'
    clear hA'
    have hEo := Lib.hid hEo'
    clear hEo'
    have hE1 := Lib.hid hE1'
    clear hE1'
    have hAl := Lib.hid hAl'
    clear hAl'
    have HM14 := Lib.hid hm
    clear hm
    refine wp_seq ?_
    refine wp_region_N [(0, 1)] (by kernel_rfl) ?_
    refine wpS_this [0] rfl (by kernel_rfl) (by simp only [pickL, nthL, List.cons_append, List.nil_append]; rfl) ?_
    repeat (go_big_quiet_step (fail))
    refine wpQuiet_nil ?_
    refine wpS_nil ?_
    refine then_normal ?_
    refine wp_seq ?_
    refine wp_cond_split rfl (fun h15 => ?_) (fun h15 => ?_)
    · have hk1 : k + 1 ≤ l.length := by have : (k : Int) < (l.length : Int) := (by simpa using h15); omega
      clear h15
      obtain ⟨x, hx'⟩ : ∃ y, l[k]? = some y := ⟨_, List.getElem?_eq_getElem hk1⟩
      obtain ⟨q, hqo'⟩ := int_letter (ow x)
      have hmq' : wrap64 ((IntKind.u64.wrap x).tmod 8) = q := hqo'
      have hqn := ow_node x
      rw [hqo'] at hqn
      have hfl' : flipE (E, o) q = ((E + 1, q), 0) := by
        have h1 : mayE (E, o) = true := by rw [hEo.out]; exact flE_may _ _ (by omega)
        have h2 : nodeE q = true := decide_eq_true hqn
        unfold flipE
        rw [if_pos ⟨h1, h2⟩, if_neg (by dsimp only; omega)]
      replace hqn := Lib.hid hqn
      have gE : (E + 1 != E + 1) = false := bne_self_eq_false _
      have hx := Lib.hid hx'
      clear hx'
      have hqo := Lib.hid hqo'
      clear hqo'
      have hmq := Lib.hid hmq'
      clear hmq'
      have hfl := Lib.hid hfl'
      clear hfl'
      refine wp_skip ?_
      refine then_normal ?_
      refine wp_seq ?_
      refine wp_block ?_
      refine wp_seq ?_
      refine wp_region_N [(0, 1), (1, 1), (2, 1)] (by kernel_rfl) ?_
      refine wpS_index (E := elemI) (i := 0) (d := some 25) rfl (by rfl) rfl rfl rfl (HM14.out.row 2 rfl (rowOld hl0)) (hx.out) rfl ?_
      intro eb16 eo17 hc18
      simp only [Act.put, List.setIfInBounds_toArray, List.set_cons_succ, List.set_cons_zero]
      refine wpS_load1 (i := 1) (d := some 26) (u := .int .i64 x) rfl (by rfl) rfl rfl (hc18 0 _ rfl) Try.underlying3 rfl rfl ?_
      simp only [Act.put, List.setIfInBounds_toArray, List.set_cons_succ, List.set_cons_zero]
      refine wpS_this [2] rfl (by kernel_rfl) (by simp only [pickL, nthL, List.cons_append, List.nil_append]; rfl) ?_
      repeat (go_big_quiet_step (fail))
      refine wpQuiet_nil ?_
      refine wpS_nil ?_
      refine then_normal ?_
      refine wp_seq ?_
      refine wp_region_N [(0, 1), (1, 1), (2, 1), (3, 1), (4, 1), (5, 3), (6, 1), (7, 1), (8, 1), (9, 3), (10, 3), (11, 1)] (by kernel_rfl) ?_
      have Cb5 := Mem.cell HM14.out 1 rfl
      refine wpS_this [0, 1, 2, 3] rfl (by kernel_rfl) (by simp only [pickL, nthL, List.cons_append, List.nil_append]; rfl) ?_
      repeat (go_big_quiet_step (fail))
      refine wpQuiet_nil ?_
      clear Cb5
      refine wpS_this [4] rfl (by kernel_rfl) (by simp only [pickL, nthL, List.cons_append, List.nil_append]; rfl) ?_
      repeat (go_big_quiet_step (fail))
      refine wpQuiet_nil ?_
      rw [hmq.out]
      refine wpS_does2 (i := 5) (d := some 33) (rem := [_, _, _]) (out := [_, _, _]) rfl (by rfl) rfl Try.call7 (flip_d E o q (E + 1) q 0 hfl.out) rfl rfl HM14.out [] rfl covS_nil rfl rfl ?_
      rintro W20 hm19 -
      have HM21 := Lib.hid hm19
      clear hm19
      simp only [Act.put, List.setIfInBounds_toArray, List.set_cons_succ, List.set_cons_zero]
      refine wpS_this [6, 7, 8] rfl (by kernel_rfl) (by simp only [pickL, nthL, List.cons_append, List.nil_append]; rfl) ?_
      repeat (go_big_quiet_step (fail))
      refine wpQuiet_nil ?_
      refine wpS_alloc (i := 9) (dd := 9) (z := .agg #[.int .i64 0, .int .i64 0]) (cs := #[.int .i64 0, .int .i64 0]) rfl (by rfl) rfl (by kernel_rfl) rfl HM21.out covS_nil rfl ?_
      rintro b24 W23 hm22 -
      have HM25 := Lib.hid hm22
      clear hm22
      simp only [Act.put, List.setIfInBounds_toArray, List.set_cons_succ, List.set_cons_zero]
      refine wpS_storeA (i := 10) (L2 := [_, _, _]) (cs' := [_, _]) rfl (by rfl) rfl rfl rfl (by kernel_rfl) (by rfl) HM25.out 0 rfl rfl rfl rfl covS_nil rfl ?_
      rintro W27 hm26 -
      have HM28 := Lib.hid hm26
      clear hm26
      refine wpS_this [11] rfl (by kernel_rfl) (by simp only [pickL, nthL, List.cons_append, List.nil_append]; rfl) ?_
      repeat (go_big_quiet_step (fail))
      refine wpQuiet_nil ?_
      refine wpS_nil ?_
      refine then_normal ?_
      refine wp_seq ?_
      refine wp_seq ?_
      refine wp_region_N [(0, 1), (1, 1), (2, 1), (3, 1), (4, 1), (5, 1), (6, 1), (7, 1), (8, 1), (9, 1)] (by kernel_rfl) ?_
      have Cb9 := Mem.cell HM28.out 0 rfl
      have Cb5 := Mem.cell HM28.out 2 rfl
      refine wpS_this [0, 1, 2, 3, 4, 5, 6, 7, 8, 9] rfl (by kernel_rfl) (by simp only [pickL, nthL, List.cons_append, List.nil_append]; rfl) ?_
      repeat (go_big_quiet_step (fail))
      refine wpQuiet_nil ?_
      clear Cb9 Cb5
      refine wpS_nil ?_
      refine then_normal ?_
      refine wp_cond_false rfl ?_
      refine wp_skip ?_
      refine then_normal ?_
      refine wp_seq ?_
      refine wp_region_N [(0, 1), (1, 3)] (by kernel_rfl) ?_
      have Cb9 := Mem.cell HM28.out 0 rfl
      refine wpS_this [0] rfl (by kernel_rfl) (by simp only [pickL, nthL, List.cons_append, List.nil_append]; rfl) ?_
      repeat (go_big_quiet_step (fail))
      refine wpQuiet_nil ?_
      clear Cb9
      refine wpS_storeA (i := 1) (L2 := [_, _, _]) (cs' := [_, _]) rfl (by rfl) rfl rfl rfl (by kernel_rfl) (by rfl) HM28.out 2 rfl rfl rfl rfl covS_nil rfl ?_
      rintro W30 hm29 -
      have HM31 := Lib.hid hm29
      clear hm29
      refine wpS_nil ?_
      refine then_normal ?_
      refine wp_region_N [(0, 1), (1, 1), (2, 3), (3, 3), (4, 1)] (by kernel_rfl) ?_
      have Cb5 := Mem.cell HM31.out 0 rfl
      refine wpS_this [0, 1] rfl (by kernel_rfl) (by simp only [pickL, nthL, List.cons_append, List.nil_append]; rfl) ?_
      repeat (go_big_quiet_step (fail))
      refine wpQuiet_nil ?_
      clear Cb5
      refine wpS_build1 elemE (i := 2) (dd := 49) (y := (E + 1, q)) rfl (by rfl) rfl rfl rfl (by decide) HM31.out covS_nil rfl ?_
      rintro b34 W35 hm36 -
      have HM37 := Lib.hid hm36
      clear hm36
      simp only [Act.put, List.setIfInBounds_toArray, List.set_cons_succ, List.set_cons_zero]
      refine wpS_append (E := elemE) (i := 3) (d := some 50) (L2 := [_, _, _, _]) rfl (by rfl) rfl HM37.out 3 rfl rfl ((HM37.out.src 0 rfl rowT_reads)) rfl (by simp only [List.length_cons, List.length_nil]; show _ * 16 ≤ _; omega) rfl covS_nil rfl ?_
      rintro v40 W41 hm42 -
      obtain ⟨v40p, v40c, rfl⟩ := row_form (Mem.src hm42 0 rfl rowT_reads)
      have HM43 := Lib.hid hm42
      clear hm42
      simp only [Act.put, List.setIfInBounds_toArray, List.set_cons_succ, List.set_cons_zero]
      refine wpS_this [4] rfl (by kernel_rfl) (by simp only [pickL, nthL, List.cons_append, List.nil_append]; rfl) ?_
      repeat (go_big_quiet_step (fail))
      refine wpQuiet_nil ?_
      refine wpS_nil ?_
      refine block_normal ?_
      refine then_normal ?_
      refine wp_region_N [(0, 1), (1, 1)] (by kernel_rfl) ?_
      refine wpS_this [0, 1] rfl (by kernel_rfl) (by simp only [pickL, nthL, List.cons_append, List.nil_append]; rfl) ?_
      repeat (go_big_quiet_step (fail))
      refine wpQuiet_nil ?_
      refine wpS_nil ?_
      refine then_normal ?_
      refine ⟨by kernel_rfl, ?_⟩
      refine ⟨l.length - (k + 1), by omega, k + 1, A ++ [(E + 1, q)], _, _, E + 1, q, rfl, rfl, rfl, hk1, ?_, ?_, (Mem.only (M := [_, _, _]) HM43.out [0, 1, 2] rfl)⟩
      · rw [allE_succ, flE_next hx.out, ← hA.out, hE1.out, hqo.out]
      · rw [flE_next hx.out, hE1.out, hqo.out]
    · have hge : Hid (l.length ≤ k) := Lib.hid (by have : ¬ (k : Int) < (l.length : Int) := (by simpa using h15); omega)
      clear h15
      refine wp_exit ?_
      refine then_exit (then_exit (block_exit ?_))
      refine then_normal ?_
      refine wp_seq ?_
      obtain ⟨kk, hkl, hmod'⟩ := mod_small (A.length : Int) (by have := hAl.out; omega) (by omega) turn
      · have hkk : kk < A.length := by omega
        clear hkl
        have hmod := Lib.hid hmod'
        clear hmod'
        refine wp_region_N [(0, 1), (1, 1), (2, 1), (3, 1), (4, 1), (5, 1), (6, 1), (7, 1)] (by kernel_rfl) ?_
        refine wpS_this [0, 1, 2, 3, 4, 5, 6, 7] rfl (by kernel_rfl) (by simp only [pickL, nthL, List.cons_append, List.nil_append]; rfl) ?_
        repeat (go_big_quiet_step (fail))
        refine wpQuiet_nil ?_
        refine wpS_nil ?_
        refine then_normal ?_
        refine wp_seq ?_
        rw [hmod.out]
        · skip
          refine wp_region_N [(0, 1), (1, 3), (2, 3)] (by kernel_rfl) ?_
          refine wpS_this [0] rfl (by kernel_rfl) (by simp only [pickL, nthL, List.cons_append, List.nil_append]; rfl) ?_
          repeat (go_big_quiet_step (fail))
          refine wpQuiet_nil ?_
          refine wpS_alloc (i := 1) (dd := 12) (z := .agg #[.int .i64 0, .int .i64 0]) (cs := #[.int .i64 0, .int .i64 0]) rfl (by rfl) rfl (by kernel_rfl) rfl HM14.out covS_nil rfl ?_
          rintro b46 W45 hm44 -
          have HM47 := Lib.hid hm44
          clear hm44
          simp only [Act.put, List.setIfInBounds_toArray, List.set_cons_succ, List.set_cons_zero]
          refine wpS_storeA (i := 2) (L2 := [_, _, _]) (cs' := [_, _]) rfl (by rfl) rfl rfl rfl (by kernel_rfl) (by rfl) HM47.out 0 rfl rfl rfl rfl covS_nil rfl ?_
          rintro W49 hm48 -
          have HM50 := Lib.hid hm48
          clear hm48
          refine wpS_nil ?_
          refine then_normal ?_
          refine wp_seq ?_
          refine wp_seq ?_
          refine wp_region_N [(0, 1), (1, 1), (2, 1)] (by kernel_rfl) ?_
          refine wpS_this [0, 1, 2] rfl (by kernel_rfl) (by simp only [pickL, nthL, List.cons_append, List.nil_append]; rfl) ?_
          repeat (go_big_quiet_step (fail))
          refine wpQuiet_nil ?_
          refine wpS_nil ?_
          refine then_normal ?_
          refine wp_block ?_
          refine wp_loop_F [13, 62, 63, 64, 65, 66, 67, 68, 69, 70, 71, 72, 73, 74, 75, 76] (fun n ws W' => ∃ (i : Nat) (g1 g2 : Int), n = A.length - i ∧ ws 62 = .int .i64 (i : Int) ∧ i ≤ A.length ∧ InvO l k kk i (g1, g2) ∧ Mem [boxT b46 (.cells #[.int .i64 g1, .int .i64 g2] 23 (0, 0)), rowT elemE (.slice p A.length c) A, boxT b3 (.cells #[.int .i64 E, .int .i64 o] 23 (0, 0)), oldT W0] H w W') (n0 := A.length) ?_ ?_
          · exact ⟨0, 0, 0, rfl, rfl, Nat.zero_le _, invO_zero _ _ _, (Mem.only (M := [_, _, _, _]) HM50.out [0, 0, 0, 0] rfl)⟩
          rintro n ws W' ⟨i, g1, g2, rfl, e62, hi, hinv', hm2⟩
          simp only [putAll, List.map_cons, List.map_nil, Act.put, List.setIfInBounds_toArray, List.set_cons_succ, List.set_cons_zero]
          rw [e62]
          clear e62
          have hinv := Lib.hid hinv'
          clear hinv'
          have HM51 := Lib.hid hm2
          clear hm2
          refine wp_seq ?_
          refine wp_region_N [(0, 1)] (by kernel_rfl) ?_
          refine wpS_this [0] rfl (by kernel_rfl) (by simp only [pickL, nthL, List.cons_append, List.nil_append]; rfl) ?_
          repeat (go_big_quiet_step (fail))
          refine wpQuiet_nil ?_
          refine wpS_nil ?_
          refine then_normal ?_
          refine wp_seq ?_
          refine wp_cond_split rfl (fun h52 => ?_) (fun h52 => ?_)
          · have hi1 : i + 1 ≤ A.length := by have : (i : Int) < (A.length : Int) := (by simpa using h52); omega
            clear h52
            obtain ⟨y1, y2, hyy'⟩ := two_letters (flE l ((i + kk) % (k + 1)))
            have hyA' : A[(i + kk) % A.length]? = some (y1, y2) := by rw [hA.out, allE_len, allE_at (Nat.le_of_lt_succ (Nat.mod_lt _ (Nat.succ_pos k))), hyy']
            obtain ⟨u1, u2, hu'⟩ := two_letters (joinE (g1, g2) (y1, y2))
            have hrm' : ((i : Int) + (kk : Int)) % (A.length : Int) = (((i + kk) % A.length : Nat) : Int) := (Int.natCast_emod (i + kk) A.length).symm
            have hyy := Lib.hid hyy'.symm
            clear hyy'
            have hyA := Lib.hid hyA'
            clear hyA'
            have hu := Lib.hid hu'
            clear hu'
            have hrm := Lib.hid hrm'
            clear hrm'
            refine wp_skip ?_
            refine then_normal ?_
            refine wp_seq ?_
            refine wp_block ?_
            refine wp_seq ?_
            refine wp_region_N [(0, 1), (1, 1)] (by kernel_rfl) ?_
            refine wpS_this [0, 1] rfl (by kernel_rfl) (by simp only [pickL, nthL, List.cons_append, List.nil_append]; rfl) ?_
            repeat (go_big_quiet_step (fail))
            refine wpQuiet_nil ?_
            refine wpS_nil ?_
            refine then_normal ?_
            refine wp_region_M (fun k => k ∈ ([] : List Nat)) [(0, 1), (1, 1), (2, 1), (3, 1), (4, 1), (5, 1), (6, 1), (7, 1), (8, 1), (9, 1), (10, 3), (11, 3)] (by kernel_rfl) (by kernel_rfl) HM51.out ?_
            intro W53 hm54
            have HM55 := Lib.hid hm54
            clear hm54
            have Cb12 := Mem.cell HM55.out 0 rfl
            refine wpS_this [0, 1, 2, 3, 4, 5, 6] rfl (by kernel_rfl) (by simp only [pickL, nthL, List.cons_append, List.nil_append]; rfl) ?_
            repeat (go_big_quiet_step (fail))
            refine wpQuiet_nil ?_
            clear Cb12
            refine wpS_this [7] rfl (by kernel_rfl) (by simp only [pickL, nthL, List.cons_append, List.nil_append]; rfl) ?_
            repeat (go_big_quiet_step (fail))
            refine wpQuiet_nil ?_
            rw [hrm.out]
            refine wpS_index (E := elemE) (i := 8) (d := some 73) rfl (by rfl) rfl rfl rfl (HM55.out.row 1 rfl fun W H h => rowAt_src (rowT_reads W H h)) (hyA.out) rfl ?_
            intro eb56 eo57 hc58
            simp only [Act.put, List.setIfInBounds_toArray, List.set_cons_succ, List.set_cons_zero]
            refine wpS_loadA (i := 9) (d := some 74) (cells := [.int .i64 y1, .int .i64 y2]) rfl (by rfl) rfl rfl hc58 Try.underlying23 rfl (by kernel_rfl) rfl ?_
            simp only [Act.put, List.setIfInBounds_toArray, List.set_cons_succ, List.set_cons_zero]
            refine wpS_does2 (i := 10) (d := some 75) (rem := [_, _, _, _]) (out := [_, _, _, _]) rfl (by rfl) rfl Try.call13 (join_d g1 g2 y1 y2 u1 u2 hu.out) rfl rfl HM55.out [] rfl covS_nil rfl rfl ?_
            rintro W60 hm59 -
            have HM61 := Lib.hid hm59
            clear hm59
            simp only [Act.put, List.setIfInBounds_toArray, List.set_cons_succ, List.set_cons_zero]
            refine wpS_storeA (i := 11) (L2 := [_, _, _]) (cs' := [_, _]) rfl (by rfl) rfl rfl rfl (by kernel_rfl) (by rfl) HM61.out 0 rfl rfl rfl rfl covS_nil rfl ?_
            rintro W63 hm62 -
            have HM64 := Lib.hid hm62
            clear hm62
            refine wpS_nil ?_
            refine block_normal ?_
            refine then_normal ?_
            refine wp_region_N [(0, 1), (1, 1)] (by kernel_rfl) ?_
            refine wpS_this [0, 1] rfl (by kernel_rfl) (by simp only [pickL, nthL, List.cons_append, List.nil_append]; rfl) ?_
            repeat (go_big_quiet_step (fail))
            refine wpQuiet_nil ?_
            refine wpS_nil ?_
            refine then_normal ?_
            refine ⟨by kernel_rfl, ?_⟩
            refine ⟨A.length - (i + 1), by omega, i + 1, u1, u2, rfl, rfl, hi1, ?_, (Mem.only (M := [_, _, _, _]) HM64.out [0, 0, 0, 0] rfl)⟩
            rw [← hu.out, hyy.out]
            exact invO_step hinv.out
          · have hge3 : Hid (A.length ≤ i) := Lib.hid (by have : ¬ (i : Int) < (A.length : Int) := (by simpa using h52); omega)
            clear h52
            refine wp_exit ?_
            refine then_exit (then_exit (block_exit ?_))
            refine then_normal ?_
            refine wp_seq ?_
            have hge2 : i = A.length := by have := hge3.out; omega
            · have hgo : ((g1, g2) : En) = (E, o) := by
                  rw [hEo.out]
                  have hkl2 : k = l.length := by have := hge.out; omega
                  refine invO_end (kk := kk) (by have := hAl.out; omega) ?_
                  have := hinv.out
                  rwa [hge2, hAl.out] at this
              have ggo : decide (((g1, g2) : En) = (E, o)) = true := decide_eq_true hgo
              replace hgo := Lib.hid hgo
              refine wp_region_N [(0, 1), (1, 1), (2, 1), (3, 1), (4, 3), (5, 1), (6, 1)] (by kernel_rfl) ?_
              have Cb12 := Mem.cell HM51.out 0 rfl
              have Cb5 := Mem.cell HM51.out 2 rfl
              refine wpS_this [0, 1] rfl (by kernel_rfl) (by simp only [pickL, nthL, List.cons_append, List.nil_append]; rfl) ?_
              repeat (go_big_quiet_step (fail))
              refine wpQuiet_nil ?_
              clear Cb12 Cb5
              refine wpS_read (i := 2) (d := some 79) rfl (by rfl) (run_eqEb (p := (g1, g2)) (q := (E, o)) ggo rfl rfl rfl) rfl ?_
              simp only [Act.put, List.setIfInBounds_toArray, List.set_cons_succ, List.set_cons_zero]
              refine wpS_this [3] rfl (by kernel_rfl) (by simp only [pickL, nthL, List.cons_append, List.nil_append]; rfl) ?_
              repeat (go_big_quiet_step (fail))
              refine wpQuiet_nil ?_
              refine wpS_does0 (i := 4) (d := some 81) (rem := [_, _, _, _]) (out := [_, _, _, _]) rfl (by rfl) rfl Try.call15 (awake_d)  HM51.out [] rfl covS_nil rfl rfl ?_
              rintro W66 hm65 -
              have HM67 := Lib.hid hm65
              clear hm65
              simp only [Act.put, List.setIfInBounds_toArray, List.set_cons_succ, List.set_cons_zero]
              refine wpS_this [5, 6] rfl (by kernel_rfl) (by simp only [pickL, nthL, List.cons_append, List.nil_append]; rfl) ?_
              repeat (go_big_quiet_step (fail))
              refine wpQuiet_nil ?_
              refine wpS_nil ?_
              refine then_normal ?_
              refine wp_ret ?_
              refine bodyPost_ret (results_tmp rfl _ _ _) rfl ?_
              exact does_ret (Mem.only (M := [_]) HM67.out [3] rfl) rfl rfl
  · have g0 : decide (60 < l.length) = true := decide_eq_true (by omega)
    have g0' : decide ((60 : Int) < (l.length : Int)) = true := decide_eq_true (by omega)
    refine wp_region_N [(0, 1), (1, 1), (2, 1)] (by kernel_rfl) ?_
    refine wpS_this [0, 1, 2] rfl (by kernel_rfl) (by simp only [pickL, nthL, List.cons_append, List.nil_append]; rfl) ?_
    repeat (go_big_quiet_step (fail))
    refine wpQuiet_nil ?_
    refine wpS_nil ?_
    refine then_normal ?_
    refine wp_cond_true rfl ?_
    refine wp_seq ?_
    refine wp_region_N [(0, 3), (1, 1)] (by kernel_rfl) ?_
    refine wpS_does0 (i := 0) (d := some 17) (rem := [_]) (out := [_]) rfl (by rfl) rfl Try.call15 (awake_d)  HM0.out [] rfl covS_nil rfl rfl ?_
    rintro W69 hm68 -
    have HM70 := Lib.hid hm68
    clear hm68
    simp only [Act.put, List.setIfInBounds_toArray, List.set_cons_succ, List.set_cons_zero]
    refine wpS_this [1] rfl (by kernel_rfl) (by simp only [pickL, nthL, List.cons_append, List.nil_append]; rfl) ?_
    repeat (go_big_quiet_step (fail))
    refine wpQuiet_nil ?_
    refine wpS_nil ?_
    refine then_normal ?_
    refine wp_ret ?_
    refine then_ret ?_
    refine bodyPost_ret (results_tmp rfl _ _ _) rfl ?_
    exact does_ret (Mem.only (M := [_]) HM70.out [0] rfl) rfl rfl

end Go.Proofs.Ytonlnhcjfdeipaa
