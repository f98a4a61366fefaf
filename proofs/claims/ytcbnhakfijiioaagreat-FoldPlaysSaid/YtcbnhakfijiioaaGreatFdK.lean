/- Cursors: keys' names. -/
import Derived.Test.YtcbnhakfijiioaaGreatFdX
import Derived.Test.YtcbnhakfijiioaaGreatPB
import Derived.Test.YtcbnhakfijiioaaGreatVtQ
import Derived.Test.YtcbnhakfijiioaaGreatPA
namespace Go.Proofs.YtcbnhakfijiioaaGreat
open Go Go.RowKit Go.BigFrame
def elemU : Elem Tryz.prog Int where
 enc x := [.int .u8 x]
 k := 1
 pos := by decide
 len _ := rfl
 one _ u hu := by
  simp only [List.mem_cons, List.not_mem_nil, or_false] at hu
  subst hu
  rfl
 t := 5
 sl := 97
 under := Tryz.underlying97
 z := .int .u8 0
 bytes := 1
 bpos := by decide
 info := by kernel_rfl
 zs := by kernel_rfl
section
variable {W : World} {a : Act} {o : Oper}
theorem run_text2 {x : Operand} {b : Nat} {n1 n2 : Int} (hc0 : W.cell? ⟨b, 0, none⟩ = some (.int .u8 n1)) (hc1 : W.cell? ⟨b, 1, none⟩ = some (.int .u8 n2)) (ho : o.op = .convert 97 9 x) (hx : a.eval x = .slice (some ⟨b, 0, none⟩) 2 2) : (execOp a.eval o).run Tryz.prog W = .ok (.value (.string (strOfNums [n1, n2]))) W := by
 have h := run_convert_bytes_arg (P := Tryz.prog) W 97 5 Tryz.underlying97 Tryz.underlying5 b 0 2 2 [n1, n2] rfl (fun i hi => by
  rcases (show i = 0 ∨ i = 1 by omega) with rfl | rfl
  ·exact hc0
  ·exact hc1) 9 Tryz.underlying9
 unfold execOp
 simp only [ho, hx, Sem.run_bind, h, Result.andThen_ok]
 rfl
end
theorem run_textR {W : World} {a : Act} {o : Oper} {x : Operand} {b : Nat} {n1 n2 : Int} (h : RowAt elemU W (.slice (some ⟨b, 0, none⟩) 2 2) [n1, n2]) (ho : o.op = .convert 97 9 x) (hx : a.eval x = .slice (some ⟨b, 0, none⟩) 2 2) : (execOp a.eval o).run Tryz.prog W = .ok (.value (.string (strOfNums [n1, n2]))) W := by
 rcases h with ⟨h, _⟩ | ⟨b', o', c', he, _, hc⟩
 ·cases h
 ·simp only [Value.slice.injEq, Option.some.injEq, Addr.mk.injEq] at he
  obtain ⟨⟨rfl, rfl, _⟩, _, _⟩ := he
  exact run_text2 (hc 0 n1 rfl 0 _ rfl) (hc 1 n2 rfl 0 _ rfl) ho hx
def keyN (n : Int) : ByteArray := strOfNums [97 + IntKind.u64.wrap n % 26, 97 + IntKind.u64.wrap n / 26 % 26]
theorem keyN_key (n : Int) : keyB (keyN n) = true := by
 unfold keyB keyN
 exact decide_eq_true (show 1 ≤ 2 ∧ 2 ≤ 32 by decide)
theorem u64_letter (n : Int) : ∃ m : Nat, IntKind.u64.wrap n = (m : Int) := Int.eq_ofNat_of_zero_le (by rw [IntKind.wrap_u64]; omega)
set_option maxHeartbeats 4000000 in
set_option maxRecDepth 100000 in
theorem key_d (n : Int) : Does Tryz.prog 15 #[.int .i64 n] [] (.string (keyN n)) [] := by
 intro w H hp
 have HM0 := Lib.hid (mem_refl hp)
 clear hp
 go_enter Tryz.func15, Tryz.ntmps15
 refine wp_seq (wQ ?_)
 refine wp_seq ?_
 obtain ⟨m, hm'⟩ := u64_letter n
 have hm := Lib.hid hm'
 clear hm'
 have hm64 : (m : Int) < 18446744073709551616 := by rw [← hm.out, IntKind.wrap_u64]; omega
 have ht2 : Hid (IntKind.u64.wrap ((m : Int) / 26) = (m : Int) / 26) := Lib.hid (by rw [IntKind.wrap_u64]; omega)
 have ht3 : Hid (((m : Int) / 26).tmod 26 = (m : Int) / 26 % 26) := Lib.hid (Int.tmod_eq_emod_of_nonneg (by omega))
 have hw1 : Hid (wrap64 ((m : Int) % 26) = (m : Int) % 26) := Lib.hid (by unfold wrap64; omega)
 have hw2 : Hid (wrap64 ((m : Int) / 26 % 26) = (m : Int) / 26 % 26) := Lib.hid (by unfold wrap64; omega)
 have hb1 : Hid (IntKind.u8.wrap (97 + (m : Int) % 26) = 97 + (m : Int) % 26) := Lib.hid (by rw [IntKind.wrap_u8]; omega)
 have hb2 : Hid (IntKind.u8.wrap (97 + (m : Int) / 26 % 26) = 97 + (m : Int) / 26 % 26) := Lib.hid (by rw [IntKind.wrap_u8]; omega)
 have hkn : Hid (keyN n = strOfNums [97 + (m : Int) % 26, 97 + (m : Int) / 26 % 26]) := Lib.hid (by unfold keyN; rw [hm.out])
 refine wN [(0, 1), (1, 1), (2, 1), (3, 1), (4, 1), (5, 1), (6, 1), (7, 1), (8, 1), (9, 1), (10, 1), (11, 1), (12, 1), (13, 3), (14, 1), (15, 1)] (wT [0] ?_)
 refine wT [1] ?_
 rw [hm.out]
 refine wT [2] ?_
 refine wT [3] ?_
 try rw [hw1.out]
 refine wT [4] ?_
 refine wT [5] ?_
 try rw [hb1.out]
 refine wT [6] ?_
 refine wT [7] ?_
 rw [hm.out]
 refine wT [8] ?_
 try rw [ht2.out]
 refine wT [9] ?_
 try rw [ht3.out]
 refine wT [10] ?_
 try rw [hw2.out]
 refine wT [11] ?_
 refine wT [12] ?_
 try rw [hb2.out]
 refine wpS_buildN elemU (i := 13) (dd := 16) (n := 2) (xs := [97 + (m : Int) % 26, 97 + (m : Int) / 26 % 26]) (cs := #[.int .u8 (97 + (m : Int) % 26), .int .u8 (97 + (m : Int) / 26 % 26)]) rfl (by rfl) (fun _ => by kernel_rfl) rfl rfl HM0.out covS_nil rfl ?_
 rintro b3 W4 hm5 -
 have HM6 := Lib.hid hm5
 clear hm5
 simp only [Act.put, List.setIfInBounds_toArray, List.set_cons_succ, List.set_cons_zero]
 refine wR 14 (run_textR (HM6.out.row 0 rfl vRow) rfl rfl) ?_
 refine wT [15] ?_
 refine wZ (wp_ret (bodyPost_ret (results_tmp rfl _ _ _) rfl ?_))
 rw [hkn.out]
 exact does_ret (Mem.only (M := []) HM6.out [] rfl) rfl rfl
end Go.Proofs.YtcbnhakfijiioaaGreat
