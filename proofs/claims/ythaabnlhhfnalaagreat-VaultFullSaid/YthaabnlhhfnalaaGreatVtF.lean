/- Vaults: VaultFull. -/
import Derived.Test.YthaabnlhhfnalaaGreatVtY
import Derived.Test.YthaabnlhhfnalaaGreatVtE
import Derived.Test.YthaabnlhhfnalaaGreatPA
namespace Go.Proofs.YthaabnlhhfnalaaGreat
open Go Go.RowKit Go.BigFrame
def elemU : Elem Tryz.prog Int where
 enc x := [.int .u8 x]
 k := 1
 pos := by decide
 len _ := rfl
 one _ u hu := by
  simp only [List.mem_cons, List.not_mem_nil, or_false] at hu
  subst hu
  rfl
 t := 5
 sl := 94
 under := Tryz.underlying94
 z := .int .u8 0
 bytes := 1
 bpos := by decide
 info := by kernel_rfl
 zs := by kernel_rfl
section
variable {W : World} {a : Act} {o : Oper}
theorem run_text2 {x : Operand} {b : Nat} {n1 n2 : Int} (hc0 : W.cell? ⟨b, 0, none⟩ = some (.int .u8 n1)) (hc1 : W.cell? ⟨b, 1, none⟩ = some (.int .u8 n2)) (ho : o.op = .convert 94 9 x) (hx : a.eval x = .slice (some ⟨b, 0, none⟩) 2 2) : (execOp a.eval o).run Tryz.prog W = .ok (.value (.string (strOfNums [n1, n2]))) W := by
 have h := run_convert_bytes_arg (P := Tryz.prog) W 94 5 Tryz.underlying94 Tryz.underlying5 b 0 2 2 [n1, n2] rfl (fun i hi => by
  rcases (show i = 0 ∨ i = 1 by omega) with rfl | rfl
  ·exact hc0
  ·exact hc1) 9 Tryz.underlying9
 unfold execOp
 simp only [ho, hx, Sem.run_bind, h, Result.andThen_ok]
 rfl
end
theorem run_textR {W : World} {a : Act} {o : Oper} {x : Operand} {b : Nat} {n1 n2 : Int} (h : RowAt elemU W (.slice (some ⟨b, 0, none⟩) 2 2) [n1, n2]) (ho : o.op = .convert 94 9 x) (hx : a.eval x = .slice (some ⟨b, 0, none⟩) 2 2) : (execOp a.eval o).run Tryz.prog W = .ok (.value (.string (strOfNums [n1, n2]))) W := by
 rcases h with ⟨h, _⟩ | ⟨b', o', c', he, _, hc⟩
 ·cases h
 ·simp only [Value.slice.injEq, Option.some.injEq, Addr.mk.injEq] at he
  obtain ⟨⟨rfl, rfl, _⟩, _, _⟩ := he
  exact run_text2 (hc 0 n1 rfl 0 _ rfl) (hc 1 n2 rfl 0 _ rfl) ho hx
set_option maxHeartbeats 4000000 in
set_option maxRecDepth 100000 in
theorem named_d (i : Nat) (hi : i < 300) : Does Tryz.prog 22 #[.int .i64 (i : Int)] [] (.string (nm i)) [] := by
 intro w H hp
 have HM0 := Lib.hid (mem_refl hp)
 clear hp
 go_enter Tryz.func22, Tryz.ntmps22
 refine wp_seq (wQ ?_)
 refine wp_seq ?_
 have hb1 : Hid (IntKind.u8.wrap (97 + (i : Int) % 26) = 97 + (i : Int) % 26) := Lib.hid (by rw [IntKind.wrap_u8]; omega)
 have hb2 : Hid (IntKind.u8.wrap (97 + (i : Int) / 26) = 97 + (i : Int) / 26) := Lib.hid (by rw [IntKind.wrap_u8]; omega)
 refine wN [(0, 1), (1, 1), (2, 1), (3, 1), (4, 1), (5, 1), (6, 1), (7, 1), (8, 3), (9, 1), (10, 1)] (wT [0, 1, 2] ?_)
 refine wT [3] ?_
 try rw [hb1.out]
 refine wT [4, 5, 6] ?_
 refine wT [7] ?_
 try rw [hb2.out]
 refine wpS_buildN elemU (i := 8) (dd := 11) (n := 2) (xs := [97 + (i : Int) % 26, 97 + (i : Int) / 26]) (cs := #[.int .u8 (97 + (i : Int) % 26), .int .u8 (97 + (i : Int) / 26)]) rfl (by rfl) (fun _ => by kernel_rfl) rfl rfl HM0.out covS_nil rfl ?_
 rintro b3 W4 hm5 -
 have HM6 := Lib.hid hm5
 clear hm5
 simp only [Act.put, List.setIfInBounds_toArray, List.set_cons_succ, List.set_cons_zero]
 refine wR 9 (run_textR (HM6.out.row 0 rfl vRow) rfl rfl) ?_
 refine wT [10] ?_
 refine wZ (wp_ret (bodyPost_ret (results_tmp rfl _ _ _) rfl ?_))
 exact does_ret (Mem.only (M := []) HM6.out [] rfl) rfl rfl
theorem mod5 (n : Int) : ∃ m : Nat, wrap64 ((IntKind.u64.wrap n).tmod 5) = (m : Int) ∧ m < 5 := by
 have h : 0 ≤ IntKind.u64.wrap n := by rw [IntKind.wrap_u64]; omega
 rw [Int.tmod_eq_emod_of_nonneg h]
 refine ⟨(IntKind.u64.wrap n % 5).toNat, ?_, by omega⟩
 unfold wrap64
 omega
set_option maxHeartbeats 4000000 in
set_option maxRecDepth 100000 in
theorem vfull_d (more : Int) (mg : Bool) : Does Tryz.prog 4 #[.int .i64 more, .bool mg] [] (.bool true) [] := by
 intro w H hp
 have HM0 := Lib.hid (mem_refl hp)
 clear hp
 go_enter Tryz.func4, Tryz.ntmps4
 refine wp_seq (wQ ?_)
 refine wp_seq (wN [(0, 1), (1, 1), (2, 1), (3, 1), (4, 1)] (wT [0, 1, 2] ?_))
 refine wT [3] ?_
 obtain ⟨mo, hmo', hmo5⟩ := mod5 more
 rw [hmo']
 clear hmo'
 refine wT [4] ?_
 refine wZ (wp_seq (wN [(0, 3), (1, 3), (2, 1)] ?_))
 refine wU1 0 [] Tryz.call21 (lnew_d 3000) HM0 [] fun u3 W2 hm1 => ?_
 obtain ⟨dl, rfl, hm1q⟩ := Mem.lgN hm1
 clear hm1
 have HM4 := Lib.hid hm1q
 clear hm1q
 refine wU1 1 [] Tryz.call9 (vopen_d dl (newL 3000) (LgOk.new 3000)) HM4 [0] fun u7 W6 hm5 => ?_
 obtain ⟨dv, rfl, hm5q⟩ := Mem.vtN hm5
 clear hm5
 have HM8 := Lib.hid hm5q
 clear hm5q
 refine wT [2] ?_
 refine wZ (wp_seq (wp_seq ?_))
 have HNL := Lib.hid (Mem.nilL HM8.out)
 refine wQ ?_
 refine wp_block ?_
 refine wp_loop_F [4, 6, 7, 8, 29, 30, 31, 32, 33, 34, 35, 36, 37, 38, 39, 40, 41, 42] (fun n vs W' => ∃ (k : Nat) (X : Vl2), n = 200 - k ∧ vs 29 = .int .i64 (k : Int) ∧ k ≤ 200 ∧ Fu X k ∧ Mem [vtT dv dl X.1, lgT dl X.2, listT []] H w W') (n0 := 200) ?_ ?_
 ·exact ⟨0, _, rfl, rfl, Nat.zero_le _, Fu.start, (Mem.only (M := [_, _, _]) HNL.out [1, 1, 0] rfl)⟩
 rintro n vs W' ⟨k, X, rfl, e29, hk, hF', hm⟩
 simp only [putAll, List.map_cons, List.map_nil, Act.put, List.setIfInBounds_toArray, List.set_cons_succ, List.set_cons_zero]
 rw [e29]
 clear e29
 have hF := Lib.hid hF'
 clear hF'
 have HM9 := Lib.hid hm
 clear hm
 refine wp_seq (wQ ?_)
 refine wp_seq ?_
 refine wp_cond_split rfl (fun h10 => ?_) (fun h10 => ?_)
 ·have hk1 : k + 1 ≤ 200 := by have : (k : Int) < 200 := (by simpa using h10); omega
  clear h10
  refine wp_skip (then_normal (wp_seq (wp_block (wp_seq (wQ ?_)))))
  refine wp_seq ?_
  obtain ⟨Y, hp', hF2'⟩ := hF.out.put (by omega)
  have hp := Lib.hid hp'
  clear hp'
  have hF2 := Lib.hid hF2'
  clear hF2'
  refine wN [(0, 1), (1, 1), (2, 3), (3, 1), (4, 3), (5, 1), (6, 1), (7, 1), (8, 3), (9, 3), (10, 1)] (wT [0, 1] ?_)
  refine wD1h 2 [_, _, _] [_, _, _] Tryz.call22 (named_d k (by omega)) HM9 [] fun W12 HM13 => ?_
  refine wR 3 (v := vV (fun _ => 0)) (by kernel_rfl) ?_
  refine wD5h 4 [_] [_, _, _] Tryz.call8 (vput_e hF.out.kept hp.out) HM13 [0, 0] fun W15 HM16 => ?_
  refine wT [5, 6, 7] ?_
  refine wpS_alloc (i := 8) (dd := 7) (z := .agg #[.int .i64 0, .int .i64 0]) (cs := #[.int .i64 0, .int .i64 0]) rfl (by rfl) rfl (by kernel_rfl) rfl HM16.out covS_nil rfl ?_
  rintro b19 W18 hm17 -
  have HM20 := Lib.hid hm17
  clear hm17
  simp only [Act.put, List.setIfInBounds_toArray, List.set_cons_succ, List.set_cons_zero]
  refine wXh 9 [_, _, _] [_, _] HM20 0 fun W22 HM23 => ?_
  refine wT [10] ?_
  refine wZ (wp_seq (wQ ?_))
  refine wp_cond_false rfl (wp_skip (block_normal (then_normal (wQ ?_))))
  refine ⟨by kernel_rfl, ?_⟩
  exact ⟨200 - (k + 1), by omega, k + 1, Y, rfl, rfl, hk1, hF2.out, (Mem.only (M := [_, _, _]) HM23.out [1, 1, 1] rfl)⟩
 ·have hgk : Hid (200 ≤ k) := Lib.hid (by have : ¬ (k : Int) < 200 := (by simpa using h10); omega)
  clear h10
  refine wp_exit ?_
  refine then_exit (then_exit (block_exit ?_))
  refine then_normal (wp_seq (wp_seq ?_))
  obtain rfl : k = 200 := by have := hgk.out; omega
  refine wQ ?_
  refine wp_block ?_
  refine wp_loop_F [4, 9, 10, 11, 12, 13, 44, 45, 46, 47, 48, 49, 50, 51, 52, 53, 54, 55, 56, 57, 58, 59, 60, 61, 62, 63, 64, 65, 66, 67, 68, 69, 70, 71, 72, 73, 74, 75, 76] (fun n us W' => ∃ i : Nat, n = mo - i ∧ us 44 = .int .i64 (i : Int) ∧ i ≤ mo ∧ Mem [vtT dv dl X.1, lgT dl X.2, listT []] H w W') (n0 := mo) ?_ ?_
  ·exact ⟨0, rfl, rfl, Nat.zero_le _, (Mem.only (M := [_, _, _]) HM9.out [0, 0, 0] rfl)⟩
  rintro n us W' ⟨i, rfl, e44, hi, hm2⟩
  simp only [putAll, List.map_cons, List.map_nil, Act.put, List.setIfInBounds_toArray, List.set_cons_succ, List.set_cons_zero]
  rw [e44]
  clear e44
  have HM24 := Lib.hid hm2
  clear hm2
  refine wp_seq (wQ ?_)
  refine wp_seq ?_
  refine wp_cond_split rfl (fun h25 => ?_) (fun h25 => ?_)
  ·have hi1 : i + 1 ≤ mo := by have : (i : Int) < ((mo : Nat) : Int) := (by simpa using h25); omega
   clear h25
   refine wp_skip (then_normal (wp_seq (wp_block (wp_seq (wQ ?_)))))
   refine wp_seq ?_
   have hfu := Lib.hid (hF.out.full (i := 200 + i) (by omega) (by omega))
   refine wN [(0, 1), (1, 1), (2, 3), (3, 1)] (wT [0, 1] ?_)
   refine wD1h 2 [_, _, _] [_, _, _] Tryz.call22 (named_d (200 + i) (by omega)) HM24 [] fun W27 HM28 => ?_
   refine wT [3] ?_
   refine wZ (wp_seq (wN [(0, 1), (1, 1), (2, 1), (3, 3), (4, 1), (5, 1), (6, 1), (7, 3), (8, 3), (9, 1)] (wT [0, 1] ?_)))
   refine wR 2 (v := vV (fun _ => 0)) (by kernel_rfl) ?_
   refine wD5h 3 [_] [_, _, _] Tryz.call8 (vput_e hF.out.kept hfu.out.1) HM28 [0, 0] fun W30 HM31 => ?_
   refine wT [4, 5, 6] ?_
   refine wpS_alloc (i := 7) (dd := 11) (z := .agg #[.int .i64 0, .int .i64 0]) (cs := #[.int .i64 0, .int .i64 0]) rfl (by rfl) rfl (by kernel_rfl) rfl HM31.out covS_nil rfl ?_
   rintro b34 W33 hm32 -
   have HM35 := Lib.hid hm32
   clear hm32
   simp only [Act.put, List.setIfInBounds_toArray, List.set_cons_succ, List.set_cons_zero]
   refine wXh 8 [_, _, _] [_, _] HM35 0 fun W37 HM38 => ?_
   refine wT [9] ?_
   refine wZ (wp_seq (wN [(0, 1), (1, 1), (2, 1), (3, 1), (4, 3), (5, 1)] (wT [0, 1] ?_)))
   refine wR 2 (v := vV oB.k) (by kernel_rfl) ?_
   refine wR 3 (v := bgV oB.k (.slice none 0 0)) (by kernel_rfl) ?_
   refine wD3h 4 [_] [_, _, _, _] Tryz.call17 (vmerge_e (R := listT []) hF.out.kept (vNil _) (Nat.zero_le _) hfu.out.2.1) HM38 [1, 1, 1] fun W40 HM41 => ?_
   refine wT [5] ?_
   refine wZ (wp_seq (wN [(0, 1), (1, 1), (2, 1), (3, 1), (4, 1), (5, 1), (6, 1), (7, 1), (8, 1), (9, 3), (10, 1), (11, 1), (12, 1), (13, 1)] (wT [0, 1, 2, 3, 4, 5, 6, 7, 8] ?_)))
   refine wU2 9 [_, _, _] Tryz.call15 (vbag_e hF.out.kept.ok hfu.out.2.2) HM41 [0] fun u44 W43 hm42 => ?_
   obtain ⟨pb, cb, rfl, hm42q⟩ := Mem.bag (n := 0) rfl hm42
   clear hm42
   have HM45 := Lib.hid hm42q
   clear hm42q
   refine wR 10 (v := .slice pb 0 cb) (by kernel_rfl) ?_
   refine wT [11, 12, 13] ?_
   refine wZ (wp_cond_false rfl (wp_skip (block_normal (then_normal (wQ ?_)))))
   refine ⟨by kernel_rfl, ?_⟩
   exact ⟨mo - (i + 1), by omega, i + 1, rfl, rfl, hi1, (Mem.only (M := [_, _, _]) HM45.out [1, 1, 1] rfl)⟩
  ·have hgi : Hid (mo ≤ i) := Lib.hid (by have : ¬ (i : Int) < ((mo : Nat) : Int) := (by simpa using h25); omega)
   clear h25
   refine wp_exit ?_
   refine then_exit (then_exit (block_exit ?_))
   refine then_normal (wp_seq ?_)
   obtain ⟨Y, hp', hG1', h1b', h1h'⟩ := hF.out.again
   have hp := Lib.hid hp'
   clear hp'
   have hG1 := Lib.hid hG1'
   clear hG1'
   have h1b := Lib.hid h1b'
   clear h1b'
   have h1h := Lib.hid h1h'
   clear h1h'
   refine wN [(0, 1), (1, 3), (2, 1), (3, 3), (4, 1), (5, 1), (6, 1), (7, 3), (8, 3), (9, 1)] (wT [0] ?_)
   refine wD1h 1 [_, _, _] [_, _, _] Tryz.call22 (named_d 0 (by decide)) HM24 [] fun W47 HM48 => ?_
   refine wR 2 (v := vV (fun _ => 0)) (by kernel_rfl) ?_
   refine wD5h 3 [_] [_, _, _] Tryz.call8 (vput_e hF.out.kept hp.out) HM48 [0, 0] fun W50 HM51 => ?_
   refine wT [4, 5, 6] ?_
   refine wpS_alloc (i := 7) (dd := 14) (z := .agg #[.int .i64 0, .int .i64 0]) (cs := #[.int .i64 0, .int .i64 0]) rfl (by rfl) rfl (by kernel_rfl) rfl HM51.out covS_nil rfl ?_
   rintro b54 W53 hm52 -
   have HM55 := Lib.hid hm52
   clear hm52
   simp only [Act.put, List.setIfInBounds_toArray, List.set_cons_succ, List.set_cons_zero]
   refine wXh 8 [_, _, _] [_, _] HM55 0 fun W57 HM58 => ?_
   refine wT [9] ?_
   refine wZ (wp_seq (wp_seq ?_))
   cases mg
   ·have hG := Lib.hid hG1.out.more
    refine wN [(0, 1), (1, 1), (2, 1), (3, 1), (4, 1), (5, 1), (6, 1), (7, 1), (8, 1), (9, 1), (10, 1), (11, 3), (12, 1), (13, 1), (14, 3), (15, 1), (16, 1), (17, 1)] ?_
    have Cb14 := Mem.cell HM58.out 0 rfl
    refine wT [0, 1, 2, 3, 4, 5, 6, 7, 8, 9, 10] ?_
    clear Cb14
    refine wK 11 ?_
    refine wK 12 ?_
    refine wK 13 ?_
    refine wK 14 ?_
    refine wT [15, 16, 17] ?_
    refine wZ (wp_cond_false rfl (wp_skip (then_normal (wp_seq (wQ ?_)))))
    refine wp_seq (wp_block ?_)
    refine wp_loop_F [16, 102, 103, 104, 105, 106, 107, 108, 109, 110, 111, 112] (fun n ts W' => ∃ p : Nat, n = 16 - p ∧ ts 16 = .int .i64 (p : Int) ∧ p ≤ 15 ∧ (∀ q : Nat, q < p → keysV Y.1 (q : Int) = []) ∧ Mem [vtT dv dl Y.1, lgT dl Y.2, listT []] H w W') (n0 := 16) ?_ ?_
    ·exact ⟨0, rfl, rfl, Nat.zero_le _, (fun q h => absurd h (Nat.not_lt_zero q)), (Mem.only (M := [_, _, _]) HM58.out [1, 1, 1] rfl)⟩
    rintro n ts W' ⟨p, rfl, e16, hp15, hno', hm3⟩
    simp only [putAll, List.map_cons, List.map_nil, Act.put, List.setIfInBounds_toArray, List.set_cons_succ, List.set_cons_zero]
    rw [e16]
    clear e16
    have hno := Lib.hid hno'
    clear hno'
    have HM59 := Lib.hid hm3
    clear hm3
    refine wp_seq (wp_seq ?_)
    obtain ⟨ks, hks'⟩ : ∃ x, keysV Y.1 (p : Int) = x := ⟨_, rfl⟩
    have hks := Lib.hid hks'
    clear hks'
    have hbl : Hid (Y.1.b.length ≤ 3000) := Lib.hid (by rw [hG.out.num]; decide)
    have hkl : ks.length ≤ 200 := by rw [← hks.out, ← hG.out.num, keysV_len]; exact List.countP_le_length
    rcases (show (ks = [] ∧ p < 15) ∨ (ks = [] ∧ ¬ p < 15) ∨ ks ≠ [] from by by_cases h1 : ks = [] <;> by_cases h2 : p < 15 <;> simp [h1, h2]) with ⟨hk0, hp1⟩ | ⟨hk0, hp1⟩ | hk0
    ·replace hk0 := Lib.hid hk0
     have g23 : ((ks.length : Int) == 0) = true := by rw [hk0.out]; rfl
     have g23n : (ks.length == 0) = true := by rw [hk0.out]; rfl
     have g15 : decide ((p : Int) < 15) = true := decide_eq_true (by omega)
     have g15n : decide (p < 15) = true := decide_eq_true hp1
     refine wN [(0, 1), (1, 1), (2, 3), (3, 1), (4, 1), (5, 1), (6, 1), (7, 1), (8, 1)] (wT [0, 1] ?_)
     refine wU2 2 [_, _] Tryz.call16 (vkeys_e hG.out.kept.ok hbl.out hks.out) HM59 [0] fun u62 W61 hm60 => ?_
     obtain ⟨pk, ck, rfl, hm60q⟩ := Mem.texts rfl hm60
     clear hm60
     have HM63 := Lib.hid hm60q
     clear hm60q
     refine wT [3, 4, 5, 6, 7, 8] ?_
     refine wZ (wp_cond_true rfl (wp_skip (then_normal (wp_block (wN [(0, 1), (1, 1), (2, 1)] (wT [0, 1, 2] ?_))))))
     refine wpS_nil (block_normal (then_normal ?_))
     refine ⟨by kernel_rfl, ?_⟩
     refine ⟨16 - (p + 1), by omega, p + 1, rfl, rfl, (by omega), fun q hq => ?_, (Mem.only (M := [_, _, _]) HM63.out [1, 1, 1] rfl)⟩
     rcases Nat.lt_or_eq_of_le (Nat.le_of_lt_succ hq) with h | rfl
     ·exact hno.out q h
     ·exact hks.out.trans hk0.out
    ·replace hk0 := Lib.hid hk0
     have g23 : ((ks.length : Int) == 0) = true := by rw [hk0.out]; rfl
     have g23n : (ks.length == 0) = true := by rw [hk0.out]; rfl
     have g15 : decide ((p : Int) < 15) = false := decide_eq_false (by omega)
     have g15n : decide (p < 15) = false := decide_eq_false hp1
     have hpos := Lib.hid (hG.out.some (p := p) hp15 hno.out (.inr (by omega)))
     refine wN [(0, 1), (1, 1), (2, 3), (3, 1), (4, 1), (5, 1), (6, 1), (7, 1), (8, 1)] (wT [0, 1] ?_)
     refine wU2 2 [_, _] Tryz.call16 (vkeys_e hG.out.kept.ok hbl.out hks.out) HM59 [0] fun u66 W65 hm64 => ?_
     obtain ⟨pk, ck, rfl, hm64q⟩ := Mem.texts rfl hm64
     clear hm64
     have HM67 := Lib.hid hm64q
     clear hm64q
     refine wT [3, 4, 5, 6, 7, 8] ?_
     refine wZ (wp_cond_false rfl (wp_exit ?_))
     refine then_exit (then_exit (block_exit ?_))
     refine then_normal (wp_seq (wN [(0, 1), (1, 1), (2, 3), (3, 1), (4, 1)] (wT [0, 1] ?_)))
     refine wU2 2 [_, _, _] Tryz.call16 (vkeys_e hG.out.kept.ok hbl.out hks.out) HM67 [1] fun u70 W69 hm68 => ?_
     obtain ⟨pk, ck, rfl, hm68q⟩ := Mem.texts rfl hm68
     clear hm68
     have HM71 := Lib.hid hm68q
     clear hm68q
     refine wT [3, 4] ?_
     refine wZ (wp_seq ?_)
     have hfr := Lib.hid hG.out.fresh
     have gpos : decide ((0 : Int) < (ks.length : Int)) = true := decide_eq_true (by have := hpos.out; rw [hks.out] at this; omega)
     have gposn : decide (0 < ks.length) = true := decide_eq_true (by have := hpos.out; rw [hks.out] at this; exact this)
     obtain ⟨Y2, U, d2, hdr', hK2', hp2'⟩ := hG.out.drop hp15 hpos.out
     have hdr := Lib.hid hdr'
     clear hdr'
     have hK2 := Lib.hid hK2'
     clear hK2'
     have hp2 := Lib.hid hp2'
     clear hp2'
     refine wN [(0, 1), (1, 1), (2, 3), (3, 1), (4, 1), (5, 1), (6, 3), (7, 3), (8, 1)] (wT [0] ?_)
     refine wR 1 (v := vV (fun _ => 0)) (by kernel_rfl) ?_
     refine wD5h 2 [_, _, _] [_, _, _, _, _] Tryz.call8 (vput_e hG.out.kept hfr.out) HM71 [1, 2] fun W73 HM74 => ?_
     refine wT [3, 4, 5] ?_
     refine wpS_alloc (i := 6) (dd := 18) (z := .agg #[.int .i64 0, .int .i64 0]) (cs := #[.int .i64 0, .int .i64 0]) rfl (by rfl) rfl (by kernel_rfl) rfl HM74.out covS_nil rfl ?_
     rintro b77 W76 hm75 -
     have HM78 := Lib.hid hm75
     clear hm75
     simp only [Act.put, List.setIfInBounds_toArray, List.set_cons_succ, List.set_cons_zero]
     refine wXh 7 [_, _, _, _, _] [_, _] HM78 0 fun W80 HM81 => ?_
     refine wT [8] ?_
     refine wZ (wp_seq (wN [(0, 1), (1, 1), (2, 3), (3, 1)] (wT [0, 1] ?_)))
     refine wD2h 2 [_, _, _, _] [_, _, _, _, _, _] Tryz.call18 (vdrop_e hG.out.kept hdr.out) HM81 [1, 1] fun W83 HM84 => ?_
     refine wT [3] ?_
     refine wZ (wp_seq (wN [(0, 1), (1, 1), (2, 3), (3, 1), (4, 1), (5, 1), (6, 3), (7, 3), (8, 1)] (wT [0] ?_)))
     refine wR 1 (v := vV (fun _ => 0)) (by kernel_rfl) ?_
     refine wD5h 2 [_, _, _, _] [_, _, _, _, _, _] Tryz.call8 (vput_e hK2.out hp2.out) HM84 [0, 0] fun W86 HM87 => ?_
     refine wT [3, 4, 5] ?_
     refine wpS_alloc (i := 6) (dd := 21) (z := .agg #[.int .i64 0, .int .i64 0]) (cs := #[.int .i64 0, .int .i64 0]) rfl (by rfl) rfl (by kernel_rfl) rfl HM87.out covS_nil rfl ?_
     rintro b90 W89 hm88 -
     have HM91 := Lib.hid hm88
     clear hm88
     simp only [Act.put, List.setIfInBounds_toArray, List.set_cons_succ, List.set_cons_zero]
     refine wXh 7 [_, _, _, _, _, _] [_, _] HM91 0 fun W93 HM94 => ?_
     refine wT [8] ?_
     refine wZ (wp_seq (wN [(0, 1), (1, 1), (2, 1), (3, 1), (4, 1), (5, 1), (6, 1), (7, 1), (8, 1), (9, 1), (10, 1), (11, 1), (12, 1), (13, 1), (14, 1), (15, 3), (16, 1), (17, 1)] (wT [0, 1, 2, 3, 4, 5, 6, 7, 8, 9, 10, 11, 12, 13, 14] ?_)))
     refine wD0h 15 [_, _, _, _, _, _, _] [_, _, _, _, _, _, _] Tryz.call6 (vawake_d) HM94 [] fun W96 HM97 => ?_
     refine wT [16, 17] ?_
     refine wZ (wp_ret (bodyPost_ret (results_tmp rfl _ _ _) rfl ?_))
     exact does_ret (Mem.only (M := []) HM97.out [] rfl) rfl rfl
    ·have hpos := Lib.hid (hG.out.some (p := p) hp15 hno.out (.inl (by rw [hks.out]; exact hk0)))
     have hkp : 0 < ks.length := List.length_pos_iff.2 hk0
     have g23 : ((ks.length : Int) == 0) = false := beq_eq_false_iff_ne.2 (by omega)
     have g23n : (ks.length == 0) = false := beq_eq_false_iff_ne.2 (by omega)
     replace hk0 := Lib.hid hk0
     replace hkp := Lib.hid hkp
     refine wN [(0, 1), (1, 1), (2, 3), (3, 1), (4, 1), (5, 1), (6, 1), (7, 1), (8, 1)] (wT [0, 1] ?_)
     refine wU2 2 [_, _] Tryz.call16 (vkeys_e hG.out.kept.ok hbl.out hks.out) HM59 [0] fun u100 W99 hm98 => ?_
     obtain ⟨pk, ck, rfl, hm98q⟩ := Mem.texts rfl hm98
     clear hm98
     have HM101 := Lib.hid hm98q
     clear hm98q
     refine wT [3, 4, 5, 6, 7, 8] ?_
     refine wZ (wp_cond_false rfl (wp_exit ?_))
     refine then_exit (then_exit (block_exit ?_))
     refine then_normal (wp_seq (wN [(0, 1), (1, 1), (2, 3), (3, 1), (4, 1)] (wT [0, 1] ?_)))
     refine wU2 2 [_, _, _] Tryz.call16 (vkeys_e hG.out.kept.ok hbl.out hks.out) HM101 [1] fun u104 W103 hm102 => ?_
     obtain ⟨pk, ck, rfl, hm102q⟩ := Mem.texts rfl hm102
     clear hm102
     have HM105 := Lib.hid hm102q
     clear hm102q
     refine wT [3, 4] ?_
     refine wZ (wp_seq ?_)
     have hfr := Lib.hid hG.out.fresh
     have gpos : decide ((0 : Int) < (ks.length : Int)) = true := decide_eq_true (by have := hpos.out; rw [hks.out] at this; omega)
     have gposn : decide (0 < ks.length) = true := decide_eq_true (by have := hpos.out; rw [hks.out] at this; exact this)
     obtain ⟨Y2, U, d2, hdr', hK2', hp2'⟩ := hG.out.drop hp15 hpos.out
     have hdr := Lib.hid hdr'
     clear hdr'
     have hK2 := Lib.hid hK2'
     clear hK2'
     have hp2 := Lib.hid hp2'
     clear hp2'
     refine wN [(0, 1), (1, 1), (2, 3), (3, 1), (4, 1), (5, 1), (6, 3), (7, 3), (8, 1)] (wT [0] ?_)
     refine wR 1 (v := vV (fun _ => 0)) (by kernel_rfl) ?_
     refine wD5h 2 [_, _, _] [_, _, _, _, _] Tryz.call8 (vput_e hG.out.kept hfr.out) HM105 [1, 2] fun W107 HM108 => ?_
     refine wT [3, 4, 5] ?_
     refine wpS_alloc (i := 6) (dd := 18) (z := .agg #[.int .i64 0, .int .i64 0]) (cs := #[.int .i64 0, .int .i64 0]) rfl (by rfl) rfl (by kernel_rfl) rfl HM108.out covS_nil rfl ?_
     rintro b111 W110 hm109 -
     have HM112 := Lib.hid hm109
     clear hm109
     simp only [Act.put, List.setIfInBounds_toArray, List.set_cons_succ, List.set_cons_zero]
     refine wXh 7 [_, _, _, _, _] [_, _] HM112 0 fun W114 HM115 => ?_
     refine wT [8] ?_
     refine wZ (wp_seq (wN [(0, 1), (1, 1), (2, 3), (3, 1)] (wT [0, 1] ?_)))
     refine wD2h 2 [_, _, _, _] [_, _, _, _, _, _] Tryz.call18 (vdrop_e hG.out.kept hdr.out) HM115 [1, 1] fun W117 HM118 => ?_
     refine wT [3] ?_
     refine wZ (wp_seq (wN [(0, 1), (1, 1), (2, 3), (3, 1), (4, 1), (5, 1), (6, 3), (7, 3), (8, 1)] (wT [0] ?_)))
     refine wR 1 (v := vV (fun _ => 0)) (by kernel_rfl) ?_
     refine wD5h 2 [_, _, _, _] [_, _, _, _, _, _] Tryz.call8 (vput_e hK2.out hp2.out) HM118 [0, 0] fun W120 HM121 => ?_
     refine wT [3, 4, 5] ?_
     refine wpS_alloc (i := 6) (dd := 21) (z := .agg #[.int .i64 0, .int .i64 0]) (cs := #[.int .i64 0, .int .i64 0]) rfl (by rfl) rfl (by kernel_rfl) rfl HM121.out covS_nil rfl ?_
     rintro b124 W123 hm122 -
     have HM125 := Lib.hid hm122
     clear hm122
     simp only [Act.put, List.setIfInBounds_toArray, List.set_cons_succ, List.set_cons_zero]
     refine wXh 7 [_, _, _, _, _, _] [_, _] HM125 0 fun W127 HM128 => ?_
     refine wT [8] ?_
     refine wZ (wp_seq (wN [(0, 1), (1, 1), (2, 1), (3, 1), (4, 1), (5, 1), (6, 1), (7, 1), (8, 1), (9, 1), (10, 1), (11, 1), (12, 1), (13, 1), (14, 1), (15, 3), (16, 1), (17, 1)] (wT [0, 1, 2, 3, 4, 5, 6, 7, 8, 9, 10, 11, 12, 13, 14] ?_)))
     refine wD0h 15 [_, _, _, _, _, _, _] [_, _, _, _, _, _, _] Tryz.call6 (vawake_d) HM128 [] fun W130 HM131 => ?_
     refine wT [16, 17] ?_
     refine wZ (wp_ret (bodyPost_ret (results_tmp rfl _ _ _) rfl ?_))
     exact does_ret (Mem.only (M := []) HM131.out [] rfl) rfl rfl
   ·obtain ⟨Z, hmg', hG'⟩ := hG1.out.merge h1b.out h1h.out
    have hmg := Lib.hid hmg'
    clear hmg'
    have hG := Lib.hid hG'
    clear hG'
    refine wN [(0, 1), (1, 1), (2, 1), (3, 1), (4, 1), (5, 1), (6, 1), (7, 1), (8, 1), (9, 1), (10, 1), (11, 3), (12, 1), (13, 1), (14, 3), (15, 1), (16, 1), (17, 1)] ?_
    have Cb14 := Mem.cell HM58.out 0 rfl
    refine wT [0, 1, 2, 3, 4, 5, 6, 7, 8, 9, 10] ?_
    clear Cb14
    refine wD1h 11 [_, _, _, _] [_, _, _, _] Tryz.call22 (named_d 1 (by decide)) HM58 [] fun W133 HM134 => ?_
    refine wR 12 (v := vV mB.k) (by kernel_rfl) ?_
    refine wR 13 (v := bgV mB.k (.slice none 0 0)) (by kernel_rfl) ?_
    refine wD3h 14 [_] [_, _, _, _] Tryz.call17 (vmerge_e (R := listT []) hG1.out.kept (vNil _) (Nat.zero_le _) hmg.out) HM134 [1, 1, 1] fun W136 HM137 => ?_
    refine wT [15, 16, 17] ?_
    refine wZ (wp_cond_false rfl (wp_skip (then_normal (wp_seq (wQ ?_)))))
    refine wp_seq (wp_block ?_)
    refine wp_loop_F [16, 102, 103, 104, 105, 106, 107, 108, 109, 110, 111, 112] (fun n ts W' => ∃ p : Nat, n = 16 - p ∧ ts 16 = .int .i64 (p : Int) ∧ p ≤ 15 ∧ (∀ q : Nat, q < p → keysV Z.1 (q : Int) = []) ∧ Mem [vtT dv dl Z.1, lgT dl Z.2, listT []] H w W') (n0 := 16) ?_ ?_
    ·exact ⟨0, rfl, rfl, Nat.zero_le _, (fun q h => absurd h (Nat.not_lt_zero q)), (Mem.only (M := [_, _, _]) HM137.out [0, 0, 0] rfl)⟩
    rintro n ts W' ⟨p, rfl, e16, hp15, hno', hm3⟩
    simp only [putAll, List.map_cons, List.map_nil, Act.put, List.setIfInBounds_toArray, List.set_cons_succ, List.set_cons_zero]
    rw [e16]
    clear e16
    have hno := Lib.hid hno'
    clear hno'
    have HM138 := Lib.hid hm3
    clear hm3
    refine wp_seq (wp_seq ?_)
    obtain ⟨ks, hks'⟩ : ∃ x, keysV Z.1 (p : Int) = x := ⟨_, rfl⟩
    have hks := Lib.hid hks'
    clear hks'
    have hbl : Hid (Z.1.b.length ≤ 3000) := Lib.hid (by rw [hG.out.num]; decide)
    have hkl : ks.length ≤ 200 := by rw [← hks.out, ← hG.out.num, keysV_len]; exact List.countP_le_length
    rcases (show (ks = [] ∧ p < 15) ∨ (ks = [] ∧ ¬ p < 15) ∨ ks ≠ [] from by by_cases h1 : ks = [] <;> by_cases h2 : p < 15 <;> simp [h1, h2]) with ⟨hk0, hp1⟩ | ⟨hk0, hp1⟩ | hk0
    ·replace hk0 := Lib.hid hk0
     have g23 : ((ks.length : Int) == 0) = true := by rw [hk0.out]; rfl
     have g23n : (ks.length == 0) = true := by rw [hk0.out]; rfl
     have g15 : decide ((p : Int) < 15) = true := decide_eq_true (by omega)
     have g15n : decide (p < 15) = true := decide_eq_true hp1
     refine wN [(0, 1), (1, 1), (2, 3), (3, 1), (4, 1), (5, 1), (6, 1), (7, 1), (8, 1)] (wT [0, 1] ?_)
     refine wU2 2 [_, _] Tryz.call16 (vkeys_e hG.out.kept.ok hbl.out hks.out) HM138 [0] fun u141 W140 hm139 => ?_
     obtain ⟨pk, ck, rfl, hm139q⟩ := Mem.texts rfl hm139
     clear hm139
     have HM142 := Lib.hid hm139q
     clear hm139q
     refine wT [3, 4, 5, 6, 7, 8] ?_
     refine wZ (wp_cond_true rfl (wp_skip (then_normal (wp_block (wN [(0, 1), (1, 1), (2, 1)] (wT [0, 1, 2] ?_))))))
     refine wpS_nil (block_normal (then_normal ?_))
     refine ⟨by kernel_rfl, ?_⟩
     refine ⟨16 - (p + 1), by omega, p + 1, rfl, rfl, (by omega), fun q hq => ?_, (Mem.only (M := [_, _, _]) HM142.out [1, 1, 1] rfl)⟩
     rcases Nat.lt_or_eq_of_le (Nat.le_of_lt_succ hq) with h | rfl
     ·exact hno.out q h
     ·exact hks.out.trans hk0.out
    ·replace hk0 := Lib.hid hk0
     have g23 : ((ks.length : Int) == 0) = true := by rw [hk0.out]; rfl
     have g23n : (ks.length == 0) = true := by rw [hk0.out]; rfl
     have g15 : decide ((p : Int) < 15) = false := decide_eq_false (by omega)
     have g15n : decide (p < 15) = false := decide_eq_false hp1
     have hpos := Lib.hid (hG.out.some (p := p) hp15 hno.out (.inr (by omega)))
     refine wN [(0, 1), (1, 1), (2, 3), (3, 1), (4, 1), (5, 1), (6, 1), (7, 1), (8, 1)] (wT [0, 1] ?_)
     refine wU2 2 [_, _] Tryz.call16 (vkeys_e hG.out.kept.ok hbl.out hks.out) HM138 [0] fun u145 W144 hm143 => ?_
     obtain ⟨pk, ck, rfl, hm143q⟩ := Mem.texts rfl hm143
     clear hm143
     have HM146 := Lib.hid hm143q
     clear hm143q
     refine wT [3, 4, 5, 6, 7, 8] ?_
     refine wZ (wp_cond_false rfl (wp_exit ?_))
     refine then_exit (then_exit (block_exit ?_))
     refine then_normal (wp_seq (wN [(0, 1), (1, 1), (2, 3), (3, 1), (4, 1)] (wT [0, 1] ?_)))
     refine wU2 2 [_, _, _] Tryz.call16 (vkeys_e hG.out.kept.ok hbl.out hks.out) HM146 [1] fun u149 W148 hm147 => ?_
     obtain ⟨pk, ck, rfl, hm147q⟩ := Mem.texts rfl hm147
     clear hm147
     have HM150 := Lib.hid hm147q
     clear hm147q
     refine wT [3, 4] ?_
     refine wZ (wp_seq ?_)
     have hfr := Lib.hid hG.out.fresh
     have gpos : decide ((0 : Int) < (ks.length : Int)) = true := decide_eq_true (by have := hpos.out; rw [hks.out] at this; omega)
     have gposn : decide (0 < ks.length) = true := decide_eq_true (by have := hpos.out; rw [hks.out] at this; exact this)
     obtain ⟨Y2, U, d2, hdr', hK2', hp2'⟩ := hG.out.drop hp15 hpos.out
     have hdr := Lib.hid hdr'
     clear hdr'
     have hK2 := Lib.hid hK2'
     clear hK2'
     have hp2 := Lib.hid hp2'
     clear hp2'
     refine wN [(0, 1), (1, 1), (2, 3), (3, 1), (4, 1), (5, 1), (6, 3), (7, 3), (8, 1)] (wT [0] ?_)
     refine wR 1 (v := vV (fun _ => 0)) (by kernel_rfl) ?_
     refine wD5h 2 [_, _, _] [_, _, _, _, _] Tryz.call8 (vput_e hG.out.kept hfr.out) HM150 [1, 2] fun W152 HM153 => ?_
     refine wT [3, 4, 5] ?_
     refine wpS_alloc (i := 6) (dd := 18) (z := .agg #[.int .i64 0, .int .i64 0]) (cs := #[.int .i64 0, .int .i64 0]) rfl (by rfl) rfl (by kernel_rfl) rfl HM153.out covS_nil rfl ?_
     rintro b156 W155 hm154 -
     have HM157 := Lib.hid hm154
     clear hm154
     simp only [Act.put, List.setIfInBounds_toArray, List.set_cons_succ, List.set_cons_zero]
     refine wXh 7 [_, _, _, _, _] [_, _] HM157 0 fun W159 HM160 => ?_
     refine wT [8] ?_
     refine wZ (wp_seq (wN [(0, 1), (1, 1), (2, 3), (3, 1)] (wT [0, 1] ?_)))
     refine wD2h 2 [_, _, _, _] [_, _, _, _, _, _] Tryz.call18 (vdrop_e hG.out.kept hdr.out) HM160 [1, 1] fun W162 HM163 => ?_
     refine wT [3] ?_
     refine wZ (wp_seq (wN [(0, 1), (1, 1), (2, 3), (3, 1), (4, 1), (5, 1), (6, 3), (7, 3), (8, 1)] (wT [0] ?_)))
     refine wR 1 (v := vV (fun _ => 0)) (by kernel_rfl) ?_
     refine wD5h 2 [_, _, _, _] [_, _, _, _, _, _] Tryz.call8 (vput_e hK2.out hp2.out) HM163 [0, 0] fun W165 HM166 => ?_
     refine wT [3, 4, 5] ?_
     refine wpS_alloc (i := 6) (dd := 21) (z := .agg #[.int .i64 0, .int .i64 0]) (cs := #[.int .i64 0, .int .i64 0]) rfl (by rfl) rfl (by kernel_rfl) rfl HM166.out covS_nil rfl ?_
     rintro b169 W168 hm167 -
     have HM170 := Lib.hid hm167
     clear hm167
     simp only [Act.put, List.setIfInBounds_toArray, List.set_cons_succ, List.set_cons_zero]
     refine wXh 7 [_, _, _, _, _, _] [_, _] HM170 0 fun W172 HM173 => ?_
     refine wT [8] ?_
     refine wZ (wp_seq (wN [(0, 1), (1, 1), (2, 1), (3, 1), (4, 1), (5, 1), (6, 1), (7, 1), (8, 1), (9, 1), (10, 1), (11, 1), (12, 1), (13, 1), (14, 1), (15, 3), (16, 1), (17, 1)] (wT [0, 1, 2, 3, 4, 5, 6, 7, 8, 9, 10, 11, 12, 13, 14] ?_)))
     refine wD0h 15 [_, _, _, _, _, _, _] [_, _, _, _, _, _, _] Tryz.call6 (vawake_d) HM173 [] fun W175 HM176 => ?_
     refine wT [16, 17] ?_
     refine wZ (wp_ret (bodyPost_ret (results_tmp rfl _ _ _) rfl ?_))
     exact does_ret (Mem.only (M := []) HM176.out [] rfl) rfl rfl
    ·have hpos := Lib.hid (hG.out.some (p := p) hp15 hno.out (.inl (by rw [hks.out]; exact hk0)))
     have hkp : 0 < ks.length := List.length_pos_iff.2 hk0
     have g23 : ((ks.length : Int) == 0) = false := beq_eq_false_iff_ne.2 (by omega)
     have g23n : (ks.length == 0) = false := beq_eq_false_iff_ne.2 (by omega)
     replace hk0 := Lib.hid hk0
     replace hkp := Lib.hid hkp
     refine wN [(0, 1), (1, 1), (2, 3), (3, 1), (4, 1), (5, 1), (6, 1), (7, 1), (8, 1)] (wT [0, 1] ?_)
     refine wU2 2 [_, _] Tryz.call16 (vkeys_e hG.out.kept.ok hbl.out hks.out) HM138 [0] fun u179 W178 hm177 => ?_
     obtain ⟨pk, ck, rfl, hm177q⟩ := Mem.texts rfl hm177
     clear hm177
     have HM180 := Lib.hid hm177q
     clear hm177q
     refine wT [3, 4, 5, 6, 7, 8] ?_
     refine wZ (wp_cond_false rfl (wp_exit ?_))
     refine then_exit (then_exit (block_exit ?_))
     refine then_normal (wp_seq (wN [(0, 1), (1, 1), (2, 3), (3, 1), (4, 1)] (wT [0, 1] ?_)))
     refine wU2 2 [_, _, _] Tryz.call16 (vkeys_e hG.out.kept.ok hbl.out hks.out) HM180 [1] fun u183 W182 hm181 => ?_
     obtain ⟨pk, ck, rfl, hm181q⟩ := Mem.texts rfl hm181
     clear hm181
     have HM184 := Lib.hid hm181q
     clear hm181q
     refine wT [3, 4] ?_
     refine wZ (wp_seq ?_)
     have hfr := Lib.hid hG.out.fresh
     have gpos : decide ((0 : Int) < (ks.length : Int)) = true := decide_eq_true (by have := hpos.out; rw [hks.out] at this; omega)
     have gposn : decide (0 < ks.length) = true := decide_eq_true (by have := hpos.out; rw [hks.out] at this; exact this)
     obtain ⟨Y2, U, d2, hdr', hK2', hp2'⟩ := hG.out.drop hp15 hpos.out
     have hdr := Lib.hid hdr'
     clear hdr'
     have hK2 := Lib.hid hK2'
     clear hK2'
     have hp2 := Lib.hid hp2'
     clear hp2'
     refine wN [(0, 1), (1, 1), (2, 3), (3, 1), (4, 1), (5, 1), (6, 3), (7, 3), (8, 1)] (wT [0] ?_)
     refine wR 1 (v := vV (fun _ => 0)) (by kernel_rfl) ?_
     refine wD5h 2 [_, _, _] [_, _, _, _, _] Tryz.call8 (vput_e hG.out.kept hfr.out) HM184 [1, 2] fun W186 HM187 => ?_
     refine wT [3, 4, 5] ?_
     refine wpS_alloc (i := 6) (dd := 18) (z := .agg #[.int .i64 0, .int .i64 0]) (cs := #[.int .i64 0, .int .i64 0]) rfl (by rfl) rfl (by kernel_rfl) rfl HM187.out covS_nil rfl ?_
     rintro b190 W189 hm188 -
     have HM191 := Lib.hid hm188
     clear hm188
     simp only [Act.put, List.setIfInBounds_toArray, List.set_cons_succ, List.set_cons_zero]
     refine wXh 7 [_, _, _, _, _] [_, _] HM191 0 fun W193 HM194 => ?_
     refine wT [8] ?_
     refine wZ (wp_seq (wN [(0, 1), (1, 1), (2, 3), (3, 1)] (wT [0, 1] ?_)))
     refine wD2h 2 [_, _, _, _] [_, _, _, _, _, _] Tryz.call18 (vdrop_e hG.out.kept hdr.out) HM194 [1, 1] fun W196 HM197 => ?_
     refine wT [3] ?_
     refine wZ (wp_seq (wN [(0, 1), (1, 1), (2, 3), (3, 1), (4, 1), (5, 1), (6, 3), (7, 3), (8, 1)] (wT [0] ?_)))
     refine wR 1 (v := vV (fun _ => 0)) (by kernel_rfl) ?_
     refine wD5h 2 [_, _, _, _] [_, _, _, _, _, _] Tryz.call8 (vput_e hK2.out hp2.out) HM197 [0, 0] fun W199 HM200 => ?_
     refine wT [3, 4, 5] ?_
     refine wpS_alloc (i := 6) (dd := 21) (z := .agg #[.int .i64 0, .int .i64 0]) (cs := #[.int .i64 0, .int .i64 0]) rfl (by rfl) rfl (by kernel_rfl) rfl HM200.out covS_nil rfl ?_
     rintro b203 W202 hm201 -
     have HM204 := Lib.hid hm201
     clear hm201
     simp only [Act.put, List.setIfInBounds_toArray, List.set_cons_succ, List.set_cons_zero]
     refine wXh 7 [_, _, _, _, _, _] [_, _] HM204 0 fun W206 HM207 => ?_
     refine wT [8] ?_
     refine wZ (wp_seq (wN [(0, 1), (1, 1), (2, 1), (3, 1), (4, 1), (5, 1), (6, 1), (7, 1), (8, 1), (9, 1), (10, 1), (11, 1), (12, 1), (13, 1), (14, 1), (15, 3), (16, 1), (17, 1)] (wT [0, 1, 2, 3, 4, 5, 6, 7, 8, 9, 10, 11, 12, 13, 14] ?_)))
     refine wD0h 15 [_, _, _, _, _, _, _] [_, _, _, _, _, _, _] Tryz.call6 (vawake_d) HM207 [] fun W209 HM210 => ?_
     refine wT [16, 17] ?_
     refine wZ (wp_ret (bodyPost_ret (results_tmp rfl _ _ _) rfl ?_))
     exact does_ret (Mem.only (M := []) HM210.out [] rfl) rfl rfl
end Go.Proofs.YthaabnlhhfnalaaGreat
