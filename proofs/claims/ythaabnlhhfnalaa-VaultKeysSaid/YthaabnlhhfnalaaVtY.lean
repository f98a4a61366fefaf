/- Vaults: awake. -/
import Derived.Test.YthaabnlhhfnalaaVtX
import Derived.Test.YthaabnlhhfnalaaVtK
import Derived.Test.YthaabnlhhfnalaaLgE
import Derived.Test.YthaabnlhhfnalaaSpo
import Derived.Test.YthaabnlhhfnalaaPA
namespace Go.Proofs.Ythaabnlhhfnalaa
open Go Go.RowKit Go.BigFrame
section
variable {dv dl : Nat} {X Y : Vl2} {e : Int}
theorem vput_e {node : Int} {k : ByteArray} {known : Nat → Int} {t : ByteArray} {d : En} (hX : Kept X) (h : putV X node k known t = (Y, d, e)) : Does Try.prog 17 #[.pointer (some ⟨dv, 0, none⟩), .int .i64 node, .string k, vV known, .string t] [vtT dv dl X.1, lgT dl X.2] (.tuple #[dV d, .int .i64 e]) [vtT dv dl Y.1, lgT dl Y.2] := by
 have h1 := vput_d dv dl X hX node k known t
 rw [h] at h1
 exact h1
theorem vdrop_e {n : Int} (hX : Kept X) (h : dropV X n = (Y, e)) : Does Try.prog 10 #[.pointer (some ⟨dv, 0, none⟩), .int .i64 n] [vtT dv dl X.1, lgT dl X.2] (.int .i64 e) [vtT dv dl Y.1, lgT dl Y.2] := by
 have h1 := vdrop_d dv dl X hX n
 rw [h] at h1
 exact h1
theorem vmerge_e {R : At} {k : ByteArray} {sb : Value} {b : Bg} (hX : Kept X) (hb : Reads elemV R sb b.v) (lb : b.v.length ≤ 4398046510976) (h : mergeV X k b = (Y, e)) : Does Try.prog 15 #[.pointer (some ⟨dv, 0, none⟩), .string k, bgV b.k sb] [vtT dv dl X.1, lgT dl X.2, R] (.int .i64 e) [vtT dv dl Y.1, lgT dl Y.2, R] := by
 have h1 := vmerge_d R dv dl X hX k sb b hb lb
 rw [h] at h1
 exact h1
theorem vbag_e {S : Vt} {k : ByteArray} {b : Bg} (hS : VtOk S) (h : bagV S k = b) : DoesU Try.prog 16 #[.pointer (some ⟨dv, 0, none⟩), .string k] [vtT dv dl S] (fun u => [bagT u b, vtT dv dl S]) := by
 have h1 := vbag_d dv dl S hS k
 rw [h] at h1
 exact h1
theorem vkeys_e {S : Vt} {n : Int} {l : List ByteArray} (hS : VtOk S) (hl : S.b.length ≤ 3000) (h : keysV S n = l) : DoesU Try.prog 19 #[.pointer (some ⟨dv, 0, none⟩), .int .i64 n] [vtT dv dl S] (fun u => [textsT u l, vtT dv dl S]) := by
 have h1 := vkeys_d dv dl S hS hl n
 rw [h] at h1
 exact h1
end
theorem ofd_d (k : ByteArray) (h : k.size ≤ 1000) : Does Try.prog 20 #[.string k] [] (.int .i64 (ofK k)) [] := Does.of_any fun w => of_any k w h
theorem ofrd_d (k : ByteArray) (h : k.size ≤ 1000) : Does Try.prog 12 #[.string k] [] (.int .i64 (ofK k)) [] := Does.of_any fun w => ofR_any k w h
def kK : ByteArray := ⟨#[107]⟩
def kA : ByteArray := ⟨#[97]⟩
def w0V : Vl2 := (playD (newL 9).l, newL 9)
theorem w0_kept : Kept w0V := Kept.open (LgOk.new 9)
theorem w_put : (putV w0V 0 kK (fun _ => 0) kA).2 = ((0, 1), 0) := by kernel_rfl
theorem w_bag : (bagV (putV w0V 0 kK (fun _ => 0) kA).1.1 kK).v = [((0, 1), kA)] := by kernel_rfl
theorem w_len : (putV w0V 0 kK (fun _ => 0) kA).1.2.l.length = 1 := by kernel_rfl
set_option maxHeartbeats 4000000 in
set_option maxRecDepth 100000 in
theorem vawake_d  : Does Try.prog 7 #[] [] (.bool true) [] := by
 intro w H hp
 have HM0 := Lib.hid (mem_refl hp)
 clear hp
 go_enter Try.func7, Try.ntmps7
 refine wp_seq (wQ ?_)
 refine wp_seq (wN [(0, 3), (1, 1)] ?_)
 refine wU1 0 [] Try.call8 (lnew_d 9) HM0 [] fun u3 W2 hm1 => ?_
 obtain ⟨dl, rfl, hm1q⟩ := Mem.lgN hm1
 clear hm1
 have HM4 := Lib.hid hm1q
 clear hm1q
 refine wT [1] ?_
 refine wZ (wp_seq (wN [(0, 1), (1, 3), (2, 1)] (wT [0] ?_)))
 refine wU1 1 [] Try.call9 (vopen_d dl (newL 9) (LgOk.new 9)) HM4 [0] fun u7 W6 hm5 => ?_
 obtain ⟨dv, rfl, hm5q⟩ := Mem.vtN hm5
 clear hm5
 have HM8 := Lib.hid hm5q
 clear hm5q
 refine wT [2] ?_
 refine wZ (wp_seq (wN [(0, 1), (1, 1), (2, 3), (3, 1), (4, 1), (5, 1), (6, 3), (7, 3), (8, 1)] (wT [0] ?_)))
 refine wR 1 (v := vV (fun _ => 0)) (by kernel_rfl) ?_
 refine wD5 2 [] [_, _] Try.call17 (vput_d dv dl w0V w0_kept 0 kK (fun _ => 0) kA) HM8 [0, 0] fun W10 hm9 => ?_
 rw [w_put]
 have HM11 := Lib.hid hm9
 clear hm9
 refine wT [3, 4, 5] ?_
 refine wpS_alloc (i := 6) (dd := 3) (z := .agg #[.int .i64 0, .int .i64 0]) (cs := #[.int .i64 0, .int .i64 0]) rfl (by rfl) rfl (by kernel_rfl) rfl HM11.out covS_nil rfl ?_
 rintro b14 W13 hm12 -
 have HM15 := Lib.hid hm12
 clear hm12
 simp only [Act.put, List.setIfInBounds_toArray, List.set_cons_succ, List.set_cons_zero]
 refine wXh 7 [_, _] [_, _] HM15 0 fun W17 HM18 => ?_
 refine wT [8] ?_
 refine wZ (wp_seq ?_)
 obtain ⟨X, hXe⟩ : ∃ X, (putV w0V 0 kK (fun _ => 0) kA).1 = X := ⟨_, rfl⟩
 rw [hXe] at HM18
 have hX : Hid (Kept X) := Lib.hid (hXe ▸ w0_kept.put 0 kK (fun _ => 0) kA)
 have hXb : Hid ((bagV X.1 kK).v = [((0, 1), kA)]) := Lib.hid (by rw [← hXe]; exact w_bag)
 have hXl : Hid (X.2.l.length = 1) := Lib.hid (by rw [← hXe]; exact w_len)
 clear hXe
 refine wN [(0, 1), (1, 3), (2, 3), (3, 3)] (wT [0] ?_)
 refine wU2 1 [_, _] Try.call16 (vbag_d dv dl _ hX.out.ok kK) HM18 [1] fun u21 W20 hm19 => ?_
 obtain ⟨pb, cb, rfl, hm19q⟩ := Mem.bag (n := 1) (by rw [hXb.out]; rfl) hm19
 clear hm19
 rw [hXb.out] at hm19q
 have HM22 := Lib.hid hm19q
 clear hm19q
 refine wpS_alloc (i := 2) (dd := 5) (z := bgV noB.k (.slice none 0 0)) (cs := (bgC noB.k (.slice none 0 0)).toArray) rfl (by rfl) rfl (by kernel_rfl) rfl HM22.out covS_nil rfl ?_
 rintro b25 W24 hm23 -
 have HM26 := Lib.hid hm23
 clear hm23
 simp only [Act.put, List.setIfInBounds_toArray, List.set_cons_succ, List.set_cons_zero]
 refine wXkh (hone := (bgC_one _ _ _)) 3 [_, _, _, _] (bgC ((bagV X.1 kK).k) (.slice pb 1 cb)) HM26 0 fun W28 HM29 => ?_
 refine wZ (wp_seq (wN [(0, 1), (1, 1), (2, 1), (3, 1), (4, 1), (5, 1), (6, 1), (7, 1), (8, 1), (9, 1), (10, 1), (11, 1), (12, 1), (13, 1), (14, 1), (15, 1), (16, 1), (17, 1), (18, 1), (19, 1), (20, 1), (21, 1), (22, 1), (23, 3), (24, 1), (25, 1), (26, 1)] ?_))
 have Cb3 := Mem.cell HM29.out 3 rfl
 refine wT [0, 1, 2, 3, 4] ?_
 clear Cb3
 refine wR 5 (run_eqDb (b := true) (p := (0, 1)) (q := (0, 1)) (decide_eq_true rfl) rfl rfl rfl) ?_
 refine wT [6, 7, 8] ?_
 refine wM 9 (.slice pb 1 cb) (HM29.out.part1 0 rfl bgC_sl) Try.underlying41 ?_
 refine wT [10, 11, 12, 13, 14] ?_
 refine wM 15 (.slice pb 1 cb) (HM29.out.part1 0 rfl bgC_sl) Try.underlying41 ?_
 refine wI elemV 16 (HM29.out.row 1 rfl vRow) ((show ([((0, 1), kA)] : List Vl)[0]? = some ((0, 1), kA) from rfl)) fun eb30 eo31 hc32 => ?_
 refine wT [17] ?_
 refine wM 18 (.string kA) (hc32 2 _ rfl) Try.underlying9 ?_
 refine wR 19 (run_eqS (b := true) (s := kA) (t := kA) (decide_eq_true rfl) rfl rfl rfl) ?_
 refine wT [20, 21, 22] ?_
 refine wD1 23 [_, _, _, _] [_, _, _, _, _] Try.call22 (llen_d dl X.2 hX.out.lg) HM29 [4] fun W34 hm33 => ?_
 rw [hXl.out]
 have HM35 := Lib.hid hm33
 clear hm33
 refine wT [24, 25, 26] ?_
 refine wZ (wp_ret (bodyPost_ret (results_tmp rfl _ _ _) rfl ?_))
 exact does_ret (Mem.only (M := []) HM35.out [] rfl) rfl rfl
end Go.Proofs.Ythaabnlhhfnalaa
