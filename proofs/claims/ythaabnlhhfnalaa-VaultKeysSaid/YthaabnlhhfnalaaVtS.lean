/- Vaults: VaultKeys. -/
import Derived.Test.YthaabnlhhfnalaaVtY
import Derived.Test.YthaabnlhhfnalaaVtQ
import Derived.Test.YthaabnlhhfnalaaPA
namespace Go.Proofs.Ythaabnlhhfnalaa
open Go Go.RowKit Go.BigFrame
def kX : ByteArray := ⟨#[120]⟩
theorem mod16 (n : Int) : 0 ≤ (IntKind.u64.wrap n).tmod 16 ∧ (IntKind.u64.wrap n).tmod 16 < 16 := by
 have h : 0 ≤ IntKind.u64.wrap n := by rw [IntKind.wrap_u64]; omega
 rw [Int.tmod_eq_emod_of_nonneg h]
 omega
set_option maxHeartbeats 4000000 in
set_option maxRecDepth 100000 in
theorem vkeysLaw_d (R : At) (v : Value) (l : List ByteArray) (hR : ∀ W H, R.p W H → RowAt elemS W v l) (part : Int) : Does Try.prog 4 #[v, .int .i64 part] [R] (.bool true) [R] := by
 intro w H hp
 have HM0 := Lib.hid (mem_refl hp)
 clear hp
 obtain ⟨p0, cap0, rfl, -⟩ := (HM0.out.row 0 rfl hR).form
 go_enter Try.func4, Try.ntmps4
 refine wp_seq (wQ ?_)
 refine wp_seq (wp_seq ?_)
 by_cases hl0 : 40 < l.length
 ·have g1 : decide ((40 : Int) < (l.length : Int)) = true := decide_eq_true (by omega)
  have g1' : decide (40 < l.length) = true := decide_eq_true hl0
  replace hl0 := Lib.hid hl0
  refine wQ ?_
  refine wp_cond_true rfl (wp_seq (wN [(0, 3), (1, 1)] ?_))
  refine wD0h 0 [_] [_] Try.call7 (vawake_d) HM0 [] fun W2 HM3 => ?_
  refine wT [1] ?_
  refine wZ (wp_ret (then_ret (bodyPost_ret (results_tmp rfl _ _ _) rfl ?_)))
  exact does_ret (Mem.only (M := [_]) HM3.out [0] rfl) rfl rfl
 ·have g1 : decide ((40 : Int) < (l.length : Int)) = false := decide_eq_false (by omega)
  have g1' : decide (40 < l.length) = false := decide_eq_false hl0
  have hl40 : l.length ≤ 40 := by omega
  clear hl0
  refine wQ ?_
  refine wp_cond_false rfl (wp_skip (then_normal (wp_seq (wN [(0, 1), (1, 1), (2, 1), (3, 1), (4, 1)] (wT [0, 1, 2] ?_)))))
  refine wT [3] ?_
  obtain ⟨pt, hpt'⟩ : ∃ z, wrap64 ((IntKind.u64.wrap part).tmod 16) = z := ⟨_, rfl⟩
  rw [hpt']
  have hpt : Hid (0 ≤ pt ∧ pt < 16) := Lib.hid (by rw [← hpt']; have h := mod16 part; unfold wrap64; omega)
  clear hpt'
  refine wT [4] ?_
  refine wZ (wp_seq (wN [(0, 3), (1, 3), (2, 1)] ?_))
  refine wU1 0 [_] Try.call8 (lnew_d 200) HM0 [] fun u6 W5 hm4 => ?_
  obtain ⟨dl, rfl, hm4q⟩ := Mem.lgN hm4
  clear hm4
  have HM7 := Lib.hid hm4q
  clear hm4q
  refine wU1 1 [_] Try.call9 (vopen_d dl (newL 200) (LgOk.new 200)) HM7 [0] fun u10 W9 hm8 => ?_
  obtain ⟨dv, rfl, hm8q⟩ := Mem.vtN hm8
  clear hm8
  have HM11 := Lib.hid hm8q
  clear hm8q
  refine wT [2] ?_
  refine wZ (wp_seq (wN [(0, 3), (1, 1)] ?_))
  refine wpS_mkM strK valI (i := 0) (dd := 29) rfl (by rfl) rfl HM11.out covS_nil rfl ?_
  rintro bm W13 hm12 -
  have HM14 := Lib.hid hm12
  clear hm12
  simp only [Act.put, List.setIfInBounds_toArray, List.set_cons_succ, List.set_cons_zero]
  refine wT [1] ?_
  refine wZ (wp_seq (wp_seq (wQ ?_)))
  refine wp_block ?_
  refine wp_loop_F [4, 8, 9, 10, 32, 33, 34, 35, 36, 37, 38, 39, 40, 41, 42, 43, 44, 45, 46, 47, 48, 49, 50, 51] (fun n vs W' => ∃ (i : Nat) (X : Vl2) (M : Mp ByteArray Int), n = l.length - i ∧ vs 32 = .int .i64 (i : Int) ∧ i ≤ l.length ∧ InK X M i ∧ Mem [vtT dv dl X.1, lgT dl X.2, mapT strK valI bm M, R] H w W') (n0 := l.length) ?_ ?_
  ·exact ⟨0, _, _, rfl, rfl, Nat.zero_le _, InK.start, (Mem.only (M := [_, _, _, _]) HM14.out [1, 1, 0, 0] rfl)⟩
  rintro n vs W' ⟨i, X, M, rfl, e32, hi, hI', hm⟩
  simp only [putAll, List.map_cons, List.map_nil, Act.put, List.setIfInBounds_toArray, List.set_cons_succ, List.set_cons_zero]
  rw [e32]
  clear e32
  have hI := Lib.hid hI'
  clear hI'
  have HM15 := Lib.hid hm
  clear hm
  refine wp_seq (wQ ?_)
  refine wp_seq ?_
  refine wp_cond_split rfl (fun h16 => ?_) (fun h16 => ?_)
  ·have hi1 : i + 1 ≤ l.length := by have : (i : Int) < ((l.length : Nat) : Int) := (by simpa using h16); omega
   clear h16
   obtain ⟨y, hy'⟩ : ∃ y, l[i]? = some y := ⟨_, List.getElem?_eq_getElem (hi1)⟩
   have hy := Lib.hid hy'
   clear hy'
   refine wp_skip (then_normal (wp_seq (wp_block (wp_seq (wN [(0, 1), (1, 1), (2, 1)] ?_)))))
   refine wI elemS 0 (HM15.out.row 3 rfl hR) (hy.out) fun eb17 eo18 hc19 => ?_
   refine wM 1 (.string y) (hc19 0 _ rfl) Try.underlying9 ?_
   refine wT [2] ?_
   refine wZ (wp_seq (wp_seq ?_))
   by_cases h9 : 100 < y.size
   ·have g9 : decide ((100 : Int) < (y.size : Int)) = true := decide_eq_true (by omega)
    have g9' : decide (100 < y.size) = true := decide_eq_true h9
    replace h9 := Lib.hid h9
    refine wQ ?_
    refine wp_cond_true rfl (wp_seq (wN [(0, 3), (1, 1)] ?_))
    refine wD0h 0 [_, _, _, _] [_, _, _, _] Try.call7 (vawake_d) HM15 [] fun W21 HM22 => ?_
    refine wT [1] ?_
    refine wZ (wp_ret ?_)
    refine then_ret (block_ret (then_ret (then_ret (block_ret (then_ret ?_)))))
    refine bodyPost_ret (results_tmp rfl _ _ _) rfl ?_
    exact does_ret (Mem.only (M := [_]) HM22.out [3] rfl) rfl rfl
   ·have g9 : decide ((100 : Int) < (y.size : Int)) = false := decide_eq_false (by omega)
    have g9' : decide (100 < y.size) = false := decide_eq_false h9
    replace h9 := Lib.hid h9
    refine wQ ?_
    refine wp_cond_false rfl (wp_skip (then_normal (wp_seq ?_)))
    obtain ⟨X2, d2, e2, hp'⟩ : ∃ a b c, putV X 0 y (fun _ => 0) kX = (a, b, c) := ⟨_, _, _, rfl⟩
    have hp := Lib.hid hp'
    clear hp'
    refine wN [(0, 1), (1, 1), (2, 1), (3, 3), (4, 1), (5, 1), (6, 1), (7, 3), (8, 3), (9, 1)] (wT [0, 1] ?_)
    refine wR 2 (v := vV (fun _ => 0)) (by kernel_rfl) ?_
    refine wD5h 3 [_, _] [_, _, _, _] Try.call17 (vput_e hI.out.kept hp.out) HM15 [0, 0] fun W24 HM25 => ?_
    refine wT [4, 5, 6] ?_
    refine wpS_alloc (i := 7) (dd := 9) (z := .agg #[.int .i64 0, .int .i64 0]) (cs := #[.int .i64 0, .int .i64 0]) rfl (by rfl) rfl (by kernel_rfl) rfl HM25.out covS_nil rfl ?_
    rintro b28 W27 hm26 -
    have HM29 := Lib.hid hm26
    clear hm26
    simp only [Act.put, List.setIfInBounds_toArray, List.set_cons_succ, List.set_cons_zero]
    refine wXh 8 [_, _, _, _] [_, _] HM29 0 fun W31 HM32 => ?_
    refine wT [9] ?_
    refine wZ (wp_seq ?_)
    by_cases h12 : e2 = 0
    ·have he := Lib.hid h12
     have g12 : (e2 == 0) = true := beq_iff_eq.2 h12
     clear h12
     refine wQ ?_
     refine wp_cond_true rfl (wN [(0, 1), (1, 1), (2, 3)] (wT [0, 1] ?_))
     refine wpS_putM (i := 2) (k := y) (v := 1) (L2 := [_, _, _, _]) Try.underlying60 rfl (by rfl) rfl rfl rfl rfl HM32.out 3 rfl rfl covS_nil rfl ?_
     rintro W34 hm33 -
     have HM35 := Lib.hid hm33
     clear hm33
     refine wpS_nil (block_normal (then_normal (wQ ?_)))
     refine ⟨by kernel_rfl, ?_⟩
     have hq := hI.out.put y kX (fun _ => 0)
     rw [hp.out] at hq
     rw [if_pos he.out] at hq
     exact ⟨l.length - (i + 1), by omega, i + 1, X2, _, rfl, rfl, hi1, hq, (Mem.only (M := [_, _, _, _]) HM35.out [2, 2, 0, 1] rfl)⟩
    ·have he := Lib.hid h12
     have g12 : (e2 == 0) = false := beq_eq_false_iff_ne.2 h12
     clear h12
     refine wQ ?_
     refine wp_cond_false rfl (wp_skip (block_normal (then_normal (wQ ?_))))
     refine ⟨by kernel_rfl, ?_⟩
     have hq := hI.out.put y kX (fun _ => 0)
     rw [hp.out] at hq
     rw [if_neg he.out] at hq
     exact ⟨l.length - (i + 1), by omega, i + 1, X2, _, rfl, rfl, hi1, hq, (Mem.only (M := [_, _, _, _]) HM32.out [1, 1, 1, 1] rfl)⟩
  ·have hge : Hid (l.length ≤ i) := Lib.hid (by have : ¬ (i : Int) < ((l.length : Nat) : Int) := (by simpa using h16); omega)
   clear h16
   refine wp_exit ?_
   refine then_exit (then_exit (block_exit ?_))
   refine then_normal (wp_seq ?_)
   have hi40 : i ≤ 40 := by have := hl40; omega
   have hok := Lib.hid hI.out.kept.ok
   have hbl : Hid (X.1.b.length ≤ 3000) := Lib.hid (by have h1 := hI.out.kept.len; have h2 := hI.out.len; omega)
   refine wQ ?_
   refine wp_seq (wp_seq (wQ ?_))
   refine wp_block ?_
   refine wp_loop_F [4, 11, 12, 13, 14, 15, 52, 53, 54, 55, 56, 57, 58, 59, 60, 61, 62, 63, 64, 65, 66, 67, 68, 69, 70, 71, 72, 73, 74, 75, 76, 77, 78, 79, 80, 81, 82, 83, 84, 85, 86, 87, 88, 89, 90, 91, 92, 93] (fun n us W' => ∃ p : Nat, n = 16 - p ∧ us 52 = .int .i64 (p : Int) ∧ us 11 = .int .i64 ((sumK X.1 p : Nat) : Int) ∧ p ≤ 16 ∧ Mem [vtT dv dl X.1, lgT dl X.2, mapT strK valI bm M, R] H w W') (n0 := 16) ?_ ?_
   ·exact ⟨0, rfl, rfl, rfl, Nat.zero_le _, (Mem.only (M := [_, _, _, _]) HM15.out [0, 0, 0, 0] rfl)⟩
   rintro n us W' ⟨p, rfl, e52, e11, hp16, hm2⟩
   simp only [putAll, List.map_cons, List.map_nil, Act.put, List.setIfInBounds_toArray, List.set_cons_succ, List.set_cons_zero]
   rw [e52, e11]
   clear e52 e11
   obtain ⟨sp, hsp'⟩ : ∃ x, sumK X.1 p = x := ⟨_, rfl⟩
   rw [hsp']
   have hsp40 : sp ≤ 40 := by rw [← hsp']; have := sum_len hI.out p; omega
   have hsp := Lib.hid hsp'
   clear hsp'
   have HM36 := Lib.hid hm2
   clear hm2
   refine wp_seq (wQ ?_)
   refine wp_seq ?_
   refine wp_cond_split rfl (fun h37 => ?_) (fun h37 => ?_)
   ·have hp1 : p + 1 ≤ 16 := by have : (p : Int) < 16 := (by simpa using h37); omega
    clear h37
    refine wp_skip (then_normal (wp_seq (wp_block (wp_seq (wQ ?_)))))
    refine wp_seq ?_
    obtain ⟨ks, hks'⟩ : ∃ x, keysV X.1 (p : Int) = x := ⟨_, rfl⟩
    have hkl : ks.length ≤ 40 := by rw [← hks']; have := keys_len hI.out (p : Int); omega
    have hks := Lib.hid hks'
    clear hks'
    refine wN [(0, 1), (1, 1), (2, 3), (3, 1)] (wT [0, 1] ?_)
    refine wU2 2 [_, _, _] Try.call19 (vkeys_e hok.out hbl.out hks.out) HM36 [0] fun u40 W39 hm38 => ?_
    obtain ⟨pk, ck, rfl, hm38q⟩ := Mem.texts rfl hm38
    clear hm38
    have HM41 := Lib.hid hm38q
    clear hm38q
    refine wT [3] ?_
    refine wZ (wp_seq (wp_seq (wQ ?_)))
    refine wp_block ?_
    refine wp_loop_F [4, 14, 15, 60, 61, 62, 63, 64, 65, 66, 67, 68, 69, 70, 71, 72, 73, 74, 75, 76, 77, 78, 79, 80, 81, 82, 83, 84, 85, 86, 87, 88] (fun n ts W' => ∃ j : Nat, n = ks.length - j ∧ ts 60 = .int .i64 (j : Int) ∧ j ≤ ks.length ∧ Mem [rowT elemS (.slice pk ks.length ck) ks, vtT dv dl X.1, lgT dl X.2, mapT strK valI bm M, R] H w W') (n0 := ks.length) ?_ ?_
    ·exact ⟨0, rfl, rfl, Nat.zero_le _, (Mem.only (M := [_, _, _, _, _]) HM41.out [0, 0, 0, 0, 0] rfl)⟩
    rintro n ts W' ⟨j, rfl, e60, hj, hm3⟩
    simp only [putAll, List.map_cons, List.map_nil, Act.put, List.setIfInBounds_toArray, List.set_cons_succ, List.set_cons_zero]
    rw [e60]
    clear e60
    have HM42 := Lib.hid hm3
    clear hm3
    refine wp_seq (wQ ?_)
    refine wp_seq ?_
    refine wp_cond_split rfl (fun h43 => ?_) (fun h43 => ?_)
    ·have hj1 : j + 1 ≤ ks.length := by have : (j : Int) < ((ks.length : Nat) : Int) := (by simpa using h43); omega
     clear h43
     obtain ⟨y, hy'⟩ : ∃ y, ks[j]? = some y := ⟨_, List.getElem?_eq_getElem (hj1)⟩
     have hy := Lib.hid hy'
     clear hy'
     refine wp_skip (then_normal (wp_seq (wp_block (wp_seq (wN [(0, 1), (1, 1), (2, 1), (3, 1), (4, 1)] (wT [0] ?_))))))
     refine wI elemS 1 (HM42.out.row 0 rfl vRow) (hy.out) fun eb44 eo45 hc46 => ?_
     refine wM 2 (.string y) (hc46 0 _ rfl) Try.underlying9 ?_
     refine wT [3, 4] ?_
     refine wZ (wp_seq ?_)
     by_cases hj0 : j = 0
     ·subst hj0
      have g3 : decide ((0 : Int) < ((0 : Nat) : Int)) = false := by decide
      obtain ⟨hin', hof', hys'⟩ := hI.out.has (n := (p : Int)) (k := y) (by rw [hks.out]; exact List.mem_of_getElem? hy.out)
      replace hys' : y.size ≤ 1000 := by omega
      have hin := Lib.hid hin'
      clear hin'
      have hof := Lib.hid hof'
      clear hof'
      have hys := Lib.hid hys'
      clear hys'
      refine wN [(0, 1), (1, 1), (2, 1), (3, 1), (4, 1), (5, 1), (6, 3), (7, 1), (8, 1), (9, 1), (10, 1), (11, 1), (12, 1), (13, 1), (14, 1), (15, 1), (16, 1), (17, 1), (18, 1), (19, 1), (20, 1), (21, 1), (22, 1)] (wT [0, 1] ?_)
      refine wR 2 (run_get1 (z := .int .i64 0) (hin.out) (show _ = (.int .i64 1 : Value) from rfl) Try.underlying60 (by kernel_rfl) (HM42.out.box 3 rfl) rfl rfl rfl) ?_
      refine wT [3, 4, 5] ?_
      refine wD1 6 [_, _, _, _, _] [_, _, _, _, _] Try.call20 (ofd_d y hys.out) HM42 [] fun W48 hm47 => ?_
      rw [hof.out]
      have HM49 := Lib.hid hm47
      clear hm47
      refine wT [7, 8, 9, 10, 11, 12, 13, 14, 15, 16] ?_
      refine wK 17 ?_
      refine wK 18 ?_
      refine wK 19 ?_
      refine wK 20 ?_
      refine wT [21, 22] ?_
      refine wZ (wp_cond_false rfl (wp_skip (block_normal (then_normal (wQ ?_)))))
      refine ⟨by kernel_rfl, ?_⟩
      exact ⟨ks.length - (0 + 1), by omega, 0 + 1, rfl, rfl, hj1, (Mem.only (M := [_, _, _, _, _]) HM49.out [0, 0, 0, 0, 0] rfl)⟩
     ·obtain ⟨m, rfl⟩ : ∃ m, j = m + 1 := ⟨j - 1, by omega⟩
      clear hj0
      have g3 : decide ((0 : Int) < ((m + 1 : Nat) : Int)) = true := decide_eq_true (by omega)
      have g3n : decide (0 < m + 1) = true := decide_eq_true (by omega)
      obtain ⟨a, ha'⟩ : ∃ z, ks[m]? = some z := ⟨_, List.getElem?_eq_getElem (by omega)⟩
      have hle := not_le (by rw [← hks.out]; exact keysV_srt hok.out.srt _) ha' hy.out
      have hmm : Hid (((m + 1 : Nat) : Int) - 1 = (m : Int)) := Lib.hid (by omega)
      have ha := Lib.hid ha'
      clear ha'
      obtain ⟨hin', hof', hys'⟩ := hI.out.has (n := (p : Int)) (k := y) (by rw [hks.out]; exact List.mem_of_getElem? hy.out)
      replace hys' : y.size ≤ 1000 := by omega
      have hin := Lib.hid hin'
      clear hin'
      have hof := Lib.hid hof'
      clear hof'
      have hys := Lib.hid hys'
      clear hys'
      refine wN [(0, 1), (1, 1), (2, 1), (3, 1), (4, 1), (5, 1), (6, 3), (7, 1), (8, 1), (9, 1), (10, 1), (11, 1), (12, 1), (13, 1), (14, 1), (15, 1), (16, 1), (17, 1), (18, 1), (19, 1), (20, 1), (21, 1), (22, 1)] (wT [0, 1] ?_)
      refine wR 2 (run_get1 (z := .int .i64 0) (hin.out) (show _ = (.int .i64 1 : Value) from rfl) Try.underlying60 (by kernel_rfl) (HM42.out.box 3 rfl) rfl rfl rfl) ?_
      refine wT [3, 4, 5] ?_
      refine wD1 6 [_, _, _, _, _] [_, _, _, _, _] Try.call20 (ofd_d y hys.out) HM42 [] fun W51 hm50 => ?_
      rw [hof.out]
      have HM52 := Lib.hid hm50
      clear hm50
      refine wT [7, 8, 9, 10, 11, 12, 13, 14, 15, 16] ?_
      refine wT [17] ?_
      try rw [hmm.out]
      refine wI elemS 18 (HM52.out.row 0 rfl vRow) (ha.out) fun eb53 eo54 hc55 => ?_
      refine wM 19 (.string a) (hc55 0 _ rfl) Try.underlying9 ?_
      refine wR 20 (run_leqS hle rfl rfl rfl) ?_
      refine wT [21, 22] ?_
      refine wZ (wp_cond_false rfl (wp_skip (block_normal (then_normal (wQ ?_)))))
      refine ⟨by kernel_rfl, ?_⟩
      exact ⟨ks.length - ((m + 1) + 1), by omega, (m + 1) + 1, rfl, rfl, hj1, (Mem.only (M := [_, _, _, _, _]) HM52.out [0, 0, 0, 0, 0] rfl)⟩
    ·have hgk : Hid (ks.length ≤ j) := Lib.hid (by have : ¬ (j : Int) < ((ks.length : Nat) : Int) := (by simpa using h43); omega)
     clear h43
     refine wp_exit ?_
     refine then_exit (then_exit (block_exit ?_))
     refine then_normal (wN [(0, 1), (1, 1), (2, 1), (3, 1), (4, 1)] (wT [0, 1, 2, 3, 4] ?_))
     refine wpS_nil (block_normal (then_normal (wQ ?_)))
     refine ⟨by kernel_rfl, ?_⟩
     exact ⟨16 - (p + 1), by omega, p + 1, rfl, rfl, (by show Value.int .i64 ((sp : Int) + (ks.length : Int)) = Value.int .i64 ((sumK X.1 (p + 1) : Nat) : Int); rw [show sumK X.1 (p + 1) = sp + ks.length from by show sumK X.1 p + (keysV X.1 (p : Int)).length = _; rw [hsp.out, hks.out]]; rfl), hp1, (Mem.only (M := [_, _, _, _]) HM42.out [1, 1, 1, 1] rfl)⟩
   ·have hge16 : Hid (16 ≤ p) := Lib.hid (by have : ¬ (p : Int) < 16 := (by simpa using h37); omega)
    clear h37
    refine wp_exit ?_
    refine then_exit (then_exit (block_exit ?_))
    refine then_normal (wp_seq ?_)
    rw [show sumK X.1 p = X.1.b.length from by have := hge16.out; rw [show p = 16 by omega]; exact sumK_all hok.out] at hsp
    obtain ⟨kq, hkq'⟩ : ∃ x, keysV X.1 pt = x := ⟨_, rfl⟩
    have hkl : kq.length ≤ 40 := by rw [← hkq']; have := keys_len hI.out pt; omega
    have hN40 : X.1.b.length ≤ 40 := by have h1 := sum_len hI.out 16; rw [sumK_all hok.out] at h1; omega
    have hkq := Lib.hid hkq'
    clear hkq'
    refine wN [(0, 1), (1, 1), (2, 3), (3, 1), (4, 1)] (wT [0, 1] ?_)
    refine wU2 2 [_, _, _] Try.call19 (vkeys_e hok.out hbl.out hkq.out) HM36 [0] fun u58 W57 hm56 => ?_
    obtain ⟨pk, ck, rfl, hm56q⟩ := Mem.texts rfl hm56
    clear hm56
    have HM59 := Lib.hid hm56q
    clear hm56q
    refine wT [3, 4] ?_
    refine wZ (wp_seq (wp_seq ?_))
    have hroom : X.2.l.length < X.2.room := by rw [hI.out.room]; have := hI.out.len; omega
    obtain ⟨hd1, hd2, hd3, hd4⟩ := dropV_ok hpt.out hroom
    obtain ⟨X3, e3, hdr'⟩ : ∃ a b, dropV X pt = (a, b) := ⟨_, _, rfl⟩
    have hK3' := hI.out.kept.drop pt
    rw [hdr'] at hd1 hd2 hd3 hd4 hK3'
    dsimp only at hd1 hd2 hd3 hd4 hK3'
    subst hd1
    have hks3' : keysV X3.1 pt = [] := by rw [hd2, keys_dropS, if_pos rfl]
    have hbl3' : X3.1.b.length ≤ 3000 := by have h1 := hK3'.len; have h2 := hI.out.len; omega
    have hs3' : ∀ q, sumK X3.1 q ≤ 40 := fun q => by have h1 := sumK_drop X.1 hpt.out.1 q; have h2 := sum_len hI.out q; rw [hd2]; omega
    have hfin' : (sumK X3.1 16 : Int) = (X.1.b.length : Int) - (kq.length : Int) := by have h1 := sumK_drop X.1 hpt.out.1 16; have h2 := hpt.out.2; rw [if_pos (by omega), hkq.out, sumK_all hok.out] at h1; rw [hd2]; omega
    have hok3' := hK3'.ok
    have hkd3' : ∀ q : Nat, (keysV X3.1 (q : Int)).length ≤ 40 := fun q => by rw [hd2]; exact Nat.le_trans (keys_drop_le _ _ _) (Nat.le_trans (keys_len hI.out _) hi40)
    clear hroom hd2 hd3 hd4
    have hdr := Lib.hid hdr'
    clear hdr'
    have hK3 := Lib.hid hK3'
    clear hK3'
    have hks3 := Lib.hid hks3'
    clear hks3'
    have hbl3 := Lib.hid hbl3'
    clear hbl3'
    have hs3 := Lib.hid hs3'
    clear hs3'
    have hfin := Lib.hid hfin'
    clear hfin'
    have hok3 := Lib.hid hok3'
    clear hok3'
    have hkd3 := Lib.hid hkd3'
    clear hkd3'
    refine wN [(0, 1), (1, 1), (2, 3), (3, 1), (4, 1), (5, 1), (6, 1), (7, 3), (8, 1), (9, 1), (10, 1)] (wT [0, 1] ?_)
    refine wD2h 2 [_, _, _] [_, _, _, _, _] Try.call10 (vdrop_e hI.out.kept hdr.out) HM59 [1, 1] fun W61 HM62 => ?_
    refine wT [3, 4, 5, 6] ?_
    refine wU2 7 [_, _, _, _] Try.call19 (vkeys_e hok3.out hbl3.out hks3.out) HM62 [0] fun u65 W64 hm63 => ?_
    obtain ⟨pk, ck, rfl, hm63q⟩ := Mem.texts rfl hm63
    clear hm63
    have HM66 := Lib.hid hm63q
    clear hm63q
    refine wT [8, 9, 10] ?_
    refine wZ (wp_cond_false rfl (wp_skip (then_normal (wp_seq (wQ ?_)))))
    refine wp_seq (wp_seq (wQ ?_))
    refine wp_block ?_
    refine wp_loop_F [17, 18, 109, 110, 111, 112, 113, 114, 115, 116, 117, 118] (fun n rs W' => ∃ p : Nat, n = 16 - p ∧ rs 109 = .int .i64 (p : Int) ∧ rs 17 = .int .i64 ((sumK X3.1 p : Nat) : Int) ∧ p ≤ 16 ∧ Mem [vtT dv dl X3.1, lgT dl X3.2, mapT strK valI bm M, R] H w W') (n0 := 16) ?_ ?_
    ·exact ⟨0, rfl, rfl, rfl, Nat.zero_le _, (Mem.only (M := [_, _, _, _]) HM66.out [1, 1, 2, 2] rfl)⟩
    rintro n rs W' ⟨p, rfl, e109, e17, hp16, hm4⟩
    simp only [putAll, List.map_cons, List.map_nil, Act.put, List.setIfInBounds_toArray, List.set_cons_succ, List.set_cons_zero]
    rw [e109, e17]
    clear e109 e17
    obtain ⟨sq, hsq'⟩ : ∃ x, sumK X3.1 p = x := ⟨_, rfl⟩
    rw [hsq']
    have hsq40 : sq ≤ 40 := by rw [← hsq']; exact hs3.out p
    have hsq := Lib.hid hsq'
    clear hsq'
    have HM67 := Lib.hid hm4
    clear hm4
    refine wp_seq (wQ ?_)
    refine wp_seq ?_
    refine wp_cond_split rfl (fun h68 => ?_) (fun h68 => ?_)
    ·have hp1 : p + 1 ≤ 16 := by have : (p : Int) < 16 := (by simpa using h68); omega
     clear h68
     refine wp_skip (then_normal (wp_seq (wp_block (wp_seq (wQ ?_)))))
     obtain ⟨ks, hks'⟩ : ∃ x, keysV X3.1 (p : Int) = x := ⟨_, rfl⟩
     have hkl : ks.length ≤ 40 := by rw [← hks']; exact hkd3.out p
     have hks := Lib.hid hks'
     clear hks'
     refine wN [(0, 1), (1, 1), (2, 1), (3, 3), (4, 1), (5, 1), (6, 1)] (wT [0, 1, 2] ?_)
     refine wU2 3 [_, _, _] Try.call19 (vkeys_e hok3.out hbl3.out hks.out) HM67 [0] fun u71 W70 hm69 => ?_
     obtain ⟨pk, ck, rfl, hm69q⟩ := Mem.texts rfl hm69
     clear hm69
     have HM72 := Lib.hid hm69q
     clear hm69q
     refine wT [4, 5, 6] ?_
     refine wpS_nil (block_normal (then_normal (wQ ?_)))
     refine ⟨by kernel_rfl, ?_⟩
     exact ⟨16 - (p + 1), by omega, p + 1, rfl, rfl, (by show Value.int .i64 ((sq : Int) + (ks.length : Int)) = Value.int .i64 ((sumK X3.1 (p + 1) : Nat) : Int); rw [show sumK X3.1 (p + 1) = sq + ks.length from by show sumK X3.1 p + (keysV X3.1 (p : Int)).length = _; rw [hsq.out, hks.out]]; rfl), hp1, (Mem.only (M := [_, _, _, _]) HM72.out [1, 1, 1, 1] rfl)⟩
    ·have hgf : Hid (16 ≤ p) := Lib.hid (by have : ¬ (p : Int) < 16 := (by simpa using h68); omega)
     clear h68
     refine wp_exit ?_
     refine then_exit (then_exit (block_exit ?_))
     refine then_normal (wp_seq ?_)
     have hp16e : p = 16 := by have := hgf.out; omega
     subst hp16e
     have gA : ((sp : Int) == (M.es.length : Int)) = true := by rw [hI.out.num, hsp.out]; exact beq_self_eq_true _
     have gA' : (sp == M.es.length) = true := by rw [hI.out.num, hsp.out]; exact beq_self_eq_true _
     have gB : ((sq : Int) == (sp : Int) - (kq.length : Int)) = true := beq_iff_eq.2 (by have := hfin.out; rw [hsq.out, hsp.out] at this; exact this)
     have hdn : Hid (dropV X3 (-1) = (X3, 1)) := Lib.hid (dropV_no X3 (by decide))
     refine wN [(0, 1), (1, 1), (2, 1), (3, 1), (4, 1), (5, 1), (6, 1), (7, 1), (8, 1), (9, 1), (10, 1), (11, 1), (12, 1), (13, 3), (14, 1), (15, 1), (16, 1), (17, 3), (18, 1), (19, 1)] (wT [0, 1] ?_)
     refine wR 2 (run_lenM Try.underlying60 (HM67.out.box 2 rfl) rfl rfl) ?_
     refine wT [3, 4, 5, 6, 7, 8, 9, 10, 11, 12] ?_
     refine wD2h 13 [_, _] [_, _, _, _] Try.call10 (vdrop_e hK3.out hdn.out) HM67 [0, 0] fun W74 HM75 => ?_
     refine wT [14, 15, 16] ?_
     refine wD0h 17 [_, _, _, _] [_, _, _, _] Try.call7 (vawake_d) HM75 [] fun W77 HM78 => ?_
     refine wT [18, 19] ?_
     refine wZ (wp_ret (bodyPost_ret (results_tmp rfl _ _ _) rfl ?_))
     exact does_ret (Mem.only (M := [_]) HM78.out [3] rfl) rfl rfl
end Go.Proofs.Ythaabnlhhfnalaa
